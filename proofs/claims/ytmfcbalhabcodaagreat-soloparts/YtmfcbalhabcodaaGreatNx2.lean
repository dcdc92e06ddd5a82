/- Proved: the contract of Next where there is a next message. -/
import Derived.Test.YtmfcbalhabcodaaGreatNx1
namespace Go.Proofs.YtmfcbalhabcodaaGreat
open Go.RowKit Go.Shelf
set_option linter.unusedVariables false

set_option maxRecDepth 100000 in
set_option maxHeartbeats 4000000 in
theorem next_walk {w : World} {rb lo hi : Nat} {D : Wd} {fb fc n : Nat} {pv : Value} {pb : Nat} {E : List Fe} {F : Nat → Prop} {m : M} {rest : List M} {f : Nat} {e : Fe} {P : Int × List O} {new : List M}
    (hL : Lay w rb lo hi D (.slice (some ⟨fb, 0, none⟩) n fc) pv pb (m :: rest) E) (hE : E.length = n) (hF : ∀ k, FL rb lo hi (.slice (some ⟨fb, 0, none⟩) n fc) pv pb E k ↔ F k) (hs : Srt (m :: rest)) (hd : m.dst = (f : Int)) (hf : f < n) (hfD : f < D.fs.length) (he : nthE E f = e) (ht : m.t < D.en) (hP : stp (nthF D.fs f).rs e.st m.cl = P) (hnew : spr D (f : Int) e.sq m.t m.bd P.2 = new)
    (hq0 : 0 ≤ e.sq) (hq1 : e.sq ≤ 100000) (hlg : e.lg.length ≤ 100000) (hlen : (m :: rest).length + new.length ≤ 20000) :
    Calls Tryz.prog 12 #[.pointer (some ⟨rb, 0, none⟩)] w fun e' w' => e' = .returned (.tuple #[dv ⟨m, P.1⟩, .bool true]) ∧ ∃ (pv' : Value) (a' : Option Addr) (c' : Nat), Lay w' rb lo hi D (.slice (some ⟨fb, 0, none⟩) n fc) pv' pb (putL rest new) (E.set f ⟨P.1, e.sq + P.2.length, a', c', e.lg ++ [⟨m, P.1⟩]⟩) ∧ Fr F w w' ∧ (∀ k, H.FP pb pv' k → H.FP pb pv k ∨ w.heap.size ≤ k) ∧ (∀ k, (Value.slice a' (e.lg.length + 1) c').ownBlock = some k → (lv e).ownBlock = some k ∨ w.heap.size ≤ k) := by
  have mixed : Tryz.prog.follows .mixedOrders = true := by kernel_rfl
  obtain ⟨W0, hW0⟩ : ∃ W0, W0 = w.alloc (.cells #[.int .i64 0, .int .i64 0, .int .i64 0, .int .i64 0, .int .i64 0, .int .i64 0, .int .i64 0] 40) := ⟨_, rfl⟩
  have hb0 : Below w.heap.size w W0 := by rw [hW0]; exact al _ _
  have hL0 := hL.below hb0
  have hA0 : W0.heap[w.heap.size]? = some (.cells (dcs zeroD) 40 (0, 0)) := by rw [hW0]; exact World.alloc_heap_new w _
  obtain ⟨A, hA⟩ : ∃ A, w.heap.size = A := ⟨_, rfl⟩
  have P1 := first_some hL0.pil hs
  obtain ⟨_, _, _, _, x4⟩ := hL0.cellsR
  have lrb : rb < W0.heap.size := clt x4
  -- the middle
  have HM : Hid (∀ w1 W, Below W0.heap.size W0 w1 → W.heap[w1.heap.size]? = some (.cells (mcs m) 38 (0, 0)) → Below w1.heap.size w1 W → Mid w F rb lo hi D (.slice (some ⟨fb, 0, none⟩) n fc) pb E A w1.heap.size m W pv (m :: rest)) := fun w1 W h1 hx h2 => by
    have h3 := h1.trans (h2.mono h1.size)
    have h4 := hb0.trans (h3.mono hb0.size)
    have hA1 : A < W0.heap.size := by rw [← hA]; exact (Array.getElem?_eq_some_iff.1 hA0).1
    have h5 := h1.size
    refine ⟨hL.below h4, Fr.of_below h4, hx, (h3.block A hA1).trans (by rw [← hA]; exact hA0), fun g => ?_, fun g => ?_, fun k hk g => (hF k).1 (.inr (.inr (.inr (.inl g)))), Nat.le_of_eq hA, by omega, fun k hk => ?_⟩
    · have := hL.pil.lt A g; omega
    · have := hL.pil.lt _ g; omega
    · refine hL.lt k ?_
      rcases hk with hk | hk
      · exact .inr (.inr (.inl hk))
      · exact .inr (.inr (.inr (.inr hk)))
  -- what is called, wherever the middle is
  have HDR : Hid (∀ MB W pv, Mid w F rb lo hi D (.slice (some ⟨fb, 0, none⟩) n fc) pb E A MB m W pv (m :: rest) → Calls Tryz.prog 33 #[.pointer (some ⟨pb, 0, none⟩)] W fun e' w' => e' = .returned (.tuple #[]) ∧ ∃ v', Mid w F rb lo hi D (.slice (some ⟨fb, 0, none⟩) n fc) pb E A MB m w' v' rest ∧ (∀ k, H.FP pb v' k → H.FP pb pv k ∨ W.heap.size ≤ k)) := fun MB W pv hM => (drop_any hM.lay.pil hs).mono fun e' w' ⟨h1, v', h2, h3, h4⟩ => ⟨h1, v', hM.pile h2 h3 h4, h4⟩
  obtain ⟨g, hg⟩ : ∃ g, nthF D.fs f = g := ⟨_, rfl⟩
  obtain ⟨fa, hfa⟩ : ∃ fa, D.fa = fa := ⟨_, rfl⟩
  have HFA : Hid _ := hfa
  have hb2 := hL0.wd.f.cells hfD hg
  obtain ⟨b, off, hfa2, _⟩ := hb2
  have HCE : Hid (∀ MB W pv wt, Mid w F rb lo hi D (.slice (some ⟨fb, 0, none⟩) n fc) pb E A MB m W pv wt → W.cell? ⟨b, off + f * 7 + 3, none⟩ = some (.slice g.ra g.rs.length g.rc) ∧ RdR W g.ra g.rs ∧ Lt g.rs) := fun MB W pv wt hM => by
    have h1 := hM.lay.wd
    obtain ⟨b', off', e1, _, _, _, _, z3, _⟩ := h1.f.cells hfD hg
    rw [hfa2] at e1
    simp at e1
    obtain ⟨rfl, rfl⟩ := e1
    exact ⟨z3, (h1.f.at hfD hg).r, (h1.lt g (hg ▸ nthF_mem hfD)).r⟩
  rw [hg] at hP
  have hPl : P.2.length ≤ 20 := by rw [← hP]; exact stp_len (HCE.out _ _ _ _ (HM.out W0 (W0.alloc (.cells (mcs m) 38)) (Below.refl _ _) (World.alloc_heap_new W0 _) (al _ _))).2.2 _ _
  have HST : Hid (∀ MB W pv wt, Mid w F rb lo hi D (.slice (some ⟨fb, 0, none⟩) n fc) pb E A MB m W pv wt → Calls Tryz.prog 34 #[.slice g.ra g.rs.length g.rc, .int .i64 e.st, .int .i64 m.cl] W fun e' w' => ∃ a' c', e' = .returned (.tuple #[.int .i64 P.1, .slice a' P.2.length c']) ∧ RdO w' a' P.2 ∧ Mid w F rb lo hi D (.slice (some ⟨fb, 0, none⟩) n fc) pb E A MB m w' pv wt) := fun MB W pv wt hM => by
    obtain ⟨_, h1, h2⟩ := HCE.out MB W pv wt hM
    have := step_any W g.ra g.rc g.rs e.st m.cl h1 h2
    rw [hP] at this
    exact this.mono fun e' w' ⟨a', c', h3, h4⟩ => by
      obtain ⟨a2, c2, e2, h5⟩ := h4.rd
      simp at e2
      obtain ⟨rfl, rfl⟩ := e2
      exact ⟨a', c', h3, h5, hM.below h4.2⟩
  have HSP : Hid (∀ MB W pv wt a cp, Mid w F rb lo hi D (.slice (some ⟨fb, 0, none⟩) n fc) pb E A MB m W pv wt → RdO W a P.2 → Calls Tryz.prog 35 #[wv D, .int .i64 f, .int .i64 e.sq, .int .i64 m.t, .int .i64 m.bd, .slice a P.2.length cp] W fun e' w' => ∃ a' c', e' = .returned (.slice a' new.length c') ∧ RdX (H.FP pb pv) w' a' new ∧ Mid w F rb lo hi D (.slice (some ⟨fb, 0, none⟩) n fc) pb E A MB m w' pv wt) := fun MB W pv wt a cp hM ha => by
    have := spread_any W D f e.sq m.t m.bd a cp P.2 hM.lay.wd ha hPl hq0 (by omega)
    rw [hnew] at this
    exact this.mono fun e' w' ⟨v, h3, h4⟩ => by
      obtain ⟨a2, c2, rfl, h5⟩ := h4.rdx (F := H.FP pb pv) (fun k hk => hM.lay.pil.lt k hk)
      exact ⟨a2, c2, h3, h5, hM.below h4.2⟩
  have HSPX : Hid (∀ MB W pv wt a cp, Mid w F rb lo hi D (.slice (some ⟨fb, 0, none⟩) n fc) pb E A MB m W pv wt → RdO W a P.2 → Calls Tryz.prog 35 #[.agg #[.slice D.pa D.ps.length D.pc, .slice (some ⟨b, off, none⟩) D.fs.length D.fc, .int .i64 D.en], .int .i64 f, .int .i64 e.sq, .int .i64 m.t, .int .i64 m.bd, .slice a P.2.length cp] W fun e' w' => ∃ a' c', e' = .returned (.slice a' new.length c') ∧ RdX (H.FP pb pv) w' a' new ∧ Mid w F rb lo hi D (.slice (some ⟨fb, 0, none⟩) n fc) pb E A MB m w' pv wt) := fun MB W pv wt a cp hM ha => by
    have := HSP.out MB W pv wt a cp hM ha
    dsimp only [wv] at this
    rw [hfa2] at this
    exact this
  have HHO : Hid (∀ MB W pv a c, Mid w F rb lo hi D (.slice (some ⟨fb, 0, none⟩) n fc) pb E A MB m W pv rest → RdX (H.FP pb pv) W a new → Calls Tryz.prog 27 #[.slice a new.length c, .func (.func 29) #[.pointer (some ⟨pb, 0, none⟩)] #[]] W fun e' w' => e' = .returned (.tuple #[]) ∧ ∃ v', Mid w F rb lo hi D (.slice (some ⟨fb, 0, none⟩) n fc) pb E A MB m w' v' (putL rest new) ∧ (∀ k, H.FP pb v' k → H.FP pb pv k ∨ W.heap.size ≤ k)) := fun MB W pv a c hM hr => (handOn_any hM.lay.pil a c new hr (by simp at hlen; omega)).mono fun e' w' ⟨h1, v', h2, h3, h4⟩ => ⟨h1, v', hM.pile h2 h3 h4, h4⟩
  have HFI : Hid (∀ MB W pv, Mid w F rb lo hi D (.slice (some ⟨fb, 0, none⟩) n fc) pb E A MB m W pv (putL rest new) → _) := fun MB W pv hM => hM.finish hE f hf e he ⟨m, P.1⟩ (e.sq + P.2.length) hlg ((hF fb).1 (.inr (.inr (.inl rfl)))) (fun k hk => (hF k).1 (.inr (.inr (.inr (.inr ⟨f, by omega, by rw [he]; exact hk⟩))))) 48
  have HFC : Hid (∀ MB W pv wt, Mid w F rb lo hi D (.slice (some ⟨fb, 0, none⟩) n fc) pb E A MB m W pv wt → W.cell? ⟨rb, 0, none⟩ = some (.slice D.pa D.ps.length D.pc) ∧ W.cell? ⟨rb, 1, none⟩ = some (.slice (some ⟨b, off, none⟩) D.fs.length D.fc) ∧ W.cell? ⟨rb, 2, none⟩ = some (.int .i64 D.en) ∧ W.cell? ⟨rb, 3, none⟩ = some (.slice (some ⟨fb, 0, none⟩) n fc) ∧ W.cell? ⟨rb, 4, none⟩ = some (.pointer (some ⟨pb, 0, none⟩)) ∧ W.cell? ⟨MB, 0, none⟩ = some (.int .i64 m.t) ∧ W.cell? ⟨MB, 1, none⟩ = some (.int .i64 m.fr) ∧ W.cell? ⟨MB, 2, none⟩ = some (.int .i64 m.sq) ∧ W.cell? ⟨MB, 3, none⟩ = some (.int .i64 f) ∧ W.cell? ⟨MB, 4, none⟩ = some (.int .i64 m.cl) ∧ W.cell? ⟨MB, 5, none⟩ = some (.int .i64 m.bd) ∧ W.cell? ⟨fb, f * 3, none⟩ = some (.int .i64 e.st) ∧ W.cell? ⟨fb, f * 3 + 1, none⟩ = some (.int .i64 e.sq) ∧ W.cell? ⟨fb, f * 3 + 2, none⟩ = some (.slice e.la e.lg.length e.lc) ∧ (∀ p, W.frozen? ⟨fb, p, none⟩ = false) ∧ W.cell? ⟨b, off + f * 7 + 3, none⟩ = some (.slice g.ra g.rs.length g.rc) ∧ rb < W.heap.size ∧ MB < W.heap.size ∧ fb < W.heap.size) := fun MB W pv wt hM => by
    obtain ⟨a0, a1, a2, a3, a4⟩ := hM.lay.cellsR
    obtain ⟨b0, b1, b2, b3, b4, b5, _⟩ := hM.bm.cells
    obtain ⟨c0, c1, c2, c3⟩ := hM.lay.cellsF hE (by omega) he
    rw [hfa2] at a1
    rw [hd] at b3
    exact ⟨a0, a1, a2, a3, a4, b0, b1, b2, b3, b4, b5, c0, c1, c2, c3, (HCE.out MB W pv wt hM).1, clt a0, clt b0, clt c0⟩
  have hf' : (f : Int) < (n : Int) := by omega
  have hfD' : (f : Int) < (D.fs.length : Int) := by omega
  have hge : ¬ (m.t ≥ D.en) := by omega
  have hge2 : ¬ (D.en ≤ m.t) := by omega
  have hen : Hid (∀ W, Below W0.heap.size W0 W → W.cell? ⟨rb, 2, none⟩ = some (.int .i64 D.en) ∧ W.cell? ⟨rb, 4, none⟩ = some (.pointer (some ⟨pb, 0, none⟩))) := fun W hW => by
    obtain ⟨_, _, y2, _, y4⟩ := (hL0.below hW).cellsR
    exact ⟨y2, y4⟩
  have HW0 : Hid _ := hW0
  have HAE : Hid _ := hA
  have HDD : Hid _ := hd
  have HB0 : Hid _ := hb0
  rw [hW0] at x4 P1
  dsimp only [mv] at P1
  rw [hd] at P1
  have hq3 : (0 : Int) ≤ e.sq ∧ e.sq ≤ 100000 := ⟨hq0, hq1⟩
  clear hL hL0 hb0 hA0 hW0 hF hs hd he hP hnew ht hlen hg hfa hfa2 lrb HCE hA
  go_enter Tryz.func12, Tryz.ntmps12
  go_wp2_with fail
  refine P1.mono ?_
  rintro e' w1 ⟨rfl, hb1⟩
  rw [← HW0.out] at hb1
  obtain ⟨y2, y4⟩ := hen.out w1 hb1
  have lr1 : rb < w1.heap.size := clt y2
  have HB1 : Hid _ := hb1
  clear P1 x4 hb1
  go_wp2_with fail
  go_quiet (fail)
  obtain ⟨W2, hW2⟩ : ∃ W2, W2 = (w1.alloc (.cells #[.int .i64 m.t, .int .i64 m.fr, .int .i64 m.sq, .int .i64 f, .int .i64 m.cl, .int .i64 m.bd] 38)).drewN nq := ⟨_, rfl⟩
  rw [← hW2]
  obtain ⟨MB, hMB⟩ : ∃ MB, w1.heap.size = MB := ⟨_, rfl⟩
  have hM2 : Mid w F rb lo hi D (.slice (some ⟨fb, 0, none⟩) n fc) pb E A MB m W2 pv (m :: rest) := by
    rw [← hMB, hW2]
    refine HM.out w1 _ HB1.out ?_ (al_drewN w1 _ _)
    have := World.alloc_heap_new w1 (.cells (mcs m) 38)
    dsimp only [mcs] at this
    rw [HDD.out] at this
    show (w1.alloc _).heap[w1.heap.size]? = _
    dsimp only [mcs]
    rw [HDD.out]
    exact this
  obtain ⟨a0, a1, a2, a3, a4, b0, b1, b2, b3, b4, b5, c0, c1, c2, c3, d0, l0, l1, l2⟩ := HFC.out _ _ _ _ hM2
  have HM2 : Hid _ := hM2
  clear hW2 hM2 y2 y4 lr1
  go_wp2_with fail
  refine (HDR.out _ _ _ HM2.out).mono ?_
  rintro e' w3 ⟨rfl, pv1, hM3, hn3⟩
  clear a0 a1 a2 a3 a4 b0 b1 b2 b3 b4 b5 c0 c1 c2 c3 d0 l0 l1 l2
  obtain ⟨a0, a1, a2, a3, a4, b0, b1, b2, b3, b4, b5, c0, c1, c2, c3, d0, l0, l1, l2⟩ := HFC.out _ _ _ _ hM3
  have HM3 : Hid _ := hM3
  have HN3 : Hid _ := hn3
  clear hM3 hn3
  go_wp2_with fail
  go_quiet (fail)

  obtain ⟨W5, hW5⟩ : ∃ W5, W5 = w3.drewN nq := ⟨_, rfl⟩
  rw [← hW5]
  have hM5 : Mid w F rb lo hi D (.slice (some ⟨fb, 0, none⟩) n fc) pb E A MB m W5 pv1 rest := by rw [hW5]; exact (HM3.out).below (below_drewN _ _ _)
  clear a0 a1 a2 a3 a4 b0 b1 b2 b3 b4 b5 c0 c1 c2 c3 d0 l0 l1 l2 hW5
  obtain ⟨a0, a1, a2, a3, a4, b0, b1, b2, b3, b4, b5, c0, c1, c2, c3, d0, l0, l1, l2⟩ := HFC.out _ _ _ _ hM5
  have HM5 : Hid _ := hM5
  clear hM5
  go_wp2_with fail
  go_region_held3 (fun w' => w'.cell? ⟨rb, 1, none⟩ = some (.slice (some ⟨b, off, none⟩) D.fs.length D.fc) ∧ w'.cell? ⟨MB, 3, none⟩ = some (.int .i64 f) ∧ w'.cell? ⟨MB, 4, none⟩ = some (.int .i64 m.cl) ∧ w'.cell? ⟨b, off + f * 7 + 3, none⟩ = some (.slice g.ra g.rs.length g.rc) ∧ w'.cell? ⟨fb, f * 3, none⟩ = some (.int .i64 e.st)) (go_keep) (first
    | (go_at_call 34; refine (HST.out _ _ _ _ ((HM5.out).below ((Below.refl _ _).drew))).mono ?_; rintro e' w6 ⟨a6, c6, rfl, hr6, hM6⟩; clear a0 a1 a2 a3 a4 b0 b1 b2 b3 b4 b5 c0 c1 c2 c3 d0 l0 l1 l2; obtain ⟨a0, a1, a2, a3, a4, b0, b1, b2, b3, b4, b5, c0, c1, c2, c3, d0, l0, l1, l2⟩ := HFC.out _ _ _ _ hM6; have HM6 : Hid _ := hM6; have HR6 : Hid _ := hr6; clear hM6 hr6))
  go_wp2_with fail
  go_region_held3 (fun w' => w'.cell? ⟨rb, 0, none⟩ = some (.slice D.pa D.ps.length D.pc) ∧ w'.cell? ⟨rb, 1, none⟩ = some (.slice (some ⟨b, off, none⟩) D.fs.length D.fc) ∧ w'.cell? ⟨rb, 2, none⟩ = some (.int .i64 D.en) ∧ w'.cell? ⟨rb, 4, none⟩ = some (.pointer (some ⟨pb, 0, none⟩)) ∧ w'.cell? ⟨MB, 0, none⟩ = some (.int .i64 m.t) ∧ w'.cell? ⟨MB, 3, none⟩ = some (.int .i64 f) ∧ w'.cell? ⟨MB, 5, none⟩ = some (.int .i64 m.bd) ∧ w'.cell? ⟨fb, f * 3 + 1, none⟩ = some (.int .i64 e.sq)) (go_keep) (first
    | (go_at_call 27; refine (HHO.out _ _ _ _ _ HM7.out HR7.out).mono ?_; rintro e' w8 ⟨rfl, pv2, hM8, hn8⟩; clear a0 a1 a2 a3 a4 b0 b1 b2 b3 b4 b5 c0 c1 c2 c3 d0 l0 l1 l2; obtain ⟨a0, a1, a2, a3, a4, b0, b1, b2, b3, b4, b5, c0, c1, c2, c3, d0, l0, l1, l2⟩ := HFC.out _ _ _ _ hM8; have HM8 : Hid _ := hM8; have HN8 : Hid _ := hn8; clear hM8 hn8)
    | (go_at_call 35; refine (HSPX.out _ _ _ _ _ _ ((HM6.out).below ((Below.refl _ _).drew)) (RdO.below (Hid.out HR6) ((Below.refl _ _).drew))).mono ?_; rintro e' w7 ⟨a7, c7, rfl, hr7, hM7⟩; clear a0 a1 a2 a3 a4 b0 b1 b2 b3 b4 b5 c0 c1 c2 c3 d0 l0 l1 l2; obtain ⟨a0, a1, a2, a3, a4, b0, b1, b2, b3, b4, b5, c0, c1, c2, c3, d0, l0, l1, l2⟩ := HFC.out _ _ _ _ hM7; have HM7 : Hid _ := hM7; have HR7 : Hid _ := hr7; clear hM7 hr7))
  all_goals
    have hFI := HFI.out _ _ _ HM8.out
    dsimp only [dcs] at hFI
    rw [HDD.out] at hFI
    obtain ⟨a', c', w9, hrun, hfz, hcl, hDB, hAB, hLL, hFr, hbl⟩ := hFI
    rw [World.setCell_alloc_past _ _ _ _ l2, World.setCell_alloc_past _ _ _ _ (by simpa using l2)] at hrun
    have HRUN : Hid _ := hrun
    have nf1 : ¬ fb = w8.heap.size := by omega
    have nf2 : ¬ w8.heap.size = fb := by omega
    have hDBc := dn_cells (x := ⟨⟨m.t, m.fr, m.sq, f, m.cl, m.bd⟩, P.1⟩) hDB
    have hABc := dn_cells (x := zeroD) hAB
    dsimp only at hDBc hABc
    have HDB : Hid _ := hDBc
    have HAB : Hid _ := hABc
    have HABX : Hid _ := hAB
    have HFin : Hid _ := And.intro hLL (And.intro hFr hbl)
    have HAE2 := HAE.out
    subst HAE2
    have hAl : w.heap.size < w8.heap.size := Nat.lt_of_lt_of_le ((HM8.out).lM) (Nat.le_of_lt l1)
    clear hrun hDB hAB hDBc hABc hLL hFr hbl
    go_wp2_with fail
    go_region_law (refine step_append_run rfl (.tmp 107) (.tmp 109) 48 rfl (by simp [Act.eval]) (by simp [Act.eval]) HRUN.out ?_)
    all_goals
      obtain ⟨t0, t1, t2, t3, t4, t5, t6, tf⟩ := HDB.out
      obtain ⟨u0, u1, u2, u3, u4, u5, u6, uf⟩ := HAB.out
      obtain ⟨W14, hW14⟩ : ∃ W14, W14 = w9.setCell ⟨fb, f * 3 + 2, none⟩ (.slice a' (e.lg.length + 1) c') := ⟨_, rfl⟩
      rw [← hW14] at t0 t1 t2 t3 t4 t5 t6 tf u0 u1 u2 u3 u4 u5 u6 uf HABX HFin ⊢
      have hA14 : w.heap.size < W14.heap.size := clt u0
      have hD14 : w8.heap.size < W14.heap.size := clt t0
      have nA1 : ¬ w.heap.size = w8.heap.size := by omega
      have nA2 : ¬ w8.heap.size = w.heap.size := by omega
      clear hW14 HRUN a0 a1 a2 a3 a4 b0 b1 b2 b3 b4 b5 c0 c1 c2 c3 d0 hfz hcl
      go_wp2_with fail
      generalize hwf : World.setCell _ _ _ = WF
      have hWF : WF = set7 W14 w.heap.size ⟨m, P.1⟩ := by
        rw [← hwf]
        simp only [set7]
        rw [HDD.out]
      have hFF := set7_heap (W := W14) (z := zeroD) HABX.out ⟨m, P.1⟩
      obtain ⟨hLL, hFr, hbl⟩ := HFin.out
      rw [← hWF] at hFF hLL hFr
      obtain ⟨m0, m1, m2, m3, m4, m5, m6, _⟩ := dn_cells hFF
      dsimp only at m0 m1 m2 m3 m4 m5 m6
      refine bodyPost_ret (v := .tuple #[dv ⟨m, P.1⟩, .bool true]) (by simp [results, Tryz.results12, go_sem, m0, m1, m2, m3, m4, m5, m6]) rfl ⟨rfl, pv2, a', c', hLL, hFr, fun k hk => ?_, hbl⟩
      have s2 := (HM2.out).fr.size
      have s7 := (HM7.out).fr.size
      rcases HN8.out k hk with g1 | g1
      · rcases HN3.out k g1 with g2 | g2
        · exact .inl g2
        · exact .inr (by omega)
      · exact .inr (by omega)
end Go.Proofs.YtmfcbalhabcodaaGreat
