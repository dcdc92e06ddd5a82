/- Joined: the texts that follow, each with its own sentence. -/
import Derived.Test.YtadmojehemdoaaaGreatPn0
import Derived.Deep.RegionHeld3
import Derived.Test.YtadmojehemdoaaaGreatKp1
import Derived.Test.YtadmojehemdoaaaGreatFce
import Derived.Test.YtadmojehemdoaaaGreatQLists
/- Proved: contracts of the program's node: fed, Safe, hearMessage, Hear, Tell. -/
namespace Go.Proofs.YtadmojehemdoaaaGreat
open Go.RowKit Go.Shelf
set_option linter.unusedVariables false
set_option maxRecDepth 100000

abbrev set7v (W : World) (A : Nat) (x0 x1 x2 x3 x4 x5 x6 : Value) : World := ((((((W.setCell ⟨A, 0, none⟩ x0).setCell ⟨A, 1, none⟩ x1).setCell ⟨A, 2, none⟩ x2).setCell ⟨A, 3, none⟩ x3).setCell ⟨A, 4, none⟩ x4).setCell ⟨A, 5, none⟩ x5).setCell ⟨A, 6, none⟩ x6
theorem set7v_heap {W : World} {A : Nat} {T : TypeId} {y0 y1 y2 y3 y4 y5 y6 : Value} (h : W.heap[A]? = some (.cells #[y0, y1, y2, y3, y4, y5, y6] T (0, 0))) (x0 x1 x2 x3 x4 x5 x6 : Value) : (set7v W A x0 x1 x2 x3 x4 x5 x6).heap[A]? = some (.cells #[x0, x1, x2, x3, x4, x5, x6] T (0, 0)) := by
  have e0 := heap_setCell_same W A 0 _ _ x0 h
  have e1 := heap_setCell_same _ A 1 _ _ x1 e0
  have e2 := heap_setCell_same _ A 2 _ _ x2 e1
  have e3 := heap_setCell_same _ A 3 _ _ x3 e2
  have e4 := heap_setCell_same _ A 4 _ _ x4 e3
  have e5 := heap_setCell_same _ A 5 _ _ x5 e4
  have e6 := heap_setCell_same _ A 6 _ _ x6 e5
  rw [e6]
  simp
theorem set7v_below {a W : World} {A n : Nat} (h : Below n a W) (hA : n ≤ A) (x0 x1 x2 x3 x4 x5 x6 : Value) : Below n a (set7v W A x0 x1 x2 x3 x4 x5 x6) :=
  ((((((h.setCell (p := ⟨A, 0, none⟩) hA _).setCell (p := ⟨A, 1, none⟩) hA _).setCell (p := ⟨A, 2, none⟩) hA _).setCell (p := ⟨A, 3, none⟩) hA _).setCell (p := ⟨A, 4, none⟩) hA _).setCell (p := ⟨A, 5, none⟩) hA _).setCell (p := ⟨A, 6, none⟩) hA _

set_option maxHeartbeats 2000000 in
theorem knfed {w0 : World} {D : Wd} {f : Nat} {x : Nd} {nb cb rb qb : Nat} {G : Nat → Prop} {v : Value} {K : Nat → Bool} {w : World} (h : KN w0 D f x nb cb rb qb G v K w) :
    Calls Tryz.prog 44 #[.pointer (some ⟨nb, 0, none⟩)] w fun e w' => e = .returned (fv (nthF D.fs f)) ∧ Below w.heap.size w w' := by
  have lnb := h.lt nb (.inl rfl)
  obtain ⟨F, hF⟩ : ∃ F, nthF D.fs f = F := ⟨_, rfl⟩
  rw [hF]
  have hfI : (f : Int) < (D.fs.length : Int) := by have := h.hf; omega
  obtain ⟨W1, hW1⟩ : ∃ W1, W1 = w.alloc (.cells #[.int .i64 0, .int .i64 0, .int .i64 0, .slice none 0 0, .slice none 0 0, .slice none 0 0, .slice none 0 0] 71) := ⟨_, rfl⟩
  have hb1 : Below w.heap.size w W1 := by rw [hW1]; exact al _ _
  have bx1 : W1.heap[w.heap.size]? = some (.cells #[.int .i64 0, .int .i64 0, .int .i64 0, .slice none 0 0, .slice none 0 0, .slice none 0 0, .slice none 0 0] 71 (0, 0)) := by rw [hW1]; exact World.alloc_heap_new w _
  obtain ⟨fb, off, hfa, lfb, _⟩ := h.wd.f.cells h.hf hF
  obtain ⟨fb2, off2, hfa2, lfb2, z0, z1, z2, z3, z4, z5, z6⟩ := (h.wd.below hb1).f.cells h.hf hF
  rw [hfa] at hfa2
  cases hfa2
  obtain ⟨n0, n1, n2, n3, n4, n5, n6, n7, n8⟩ := (h.below hb1).cells
  rw [hfa] at n3
  obtain ⟨A, hA⟩ : ∃ A, w.heap.size = A := ⟨_, rfl⟩
  rw [hA] at bx1
  have lA : A < W1.heap.size := (Array.getElem?_eq_some_iff.1 bx1).1
  have t0 : W1.cell? ⟨A, 0, none⟩ = some (.int .i64 0) := cellN bx1 0
  have t1 : W1.cell? ⟨A, 1, none⟩ = some (.int .i64 0) := cellN bx1 1
  have t2 : W1.cell? ⟨A, 2, none⟩ = some (.int .i64 0) := cellN bx1 2
  have t3 : W1.cell? ⟨A, 3, none⟩ = some (.slice none 0 0) := cellN bx1 3
  have t4 : W1.cell? ⟨A, 4, none⟩ = some (.slice none 0 0) := cellN bx1 4
  have t5 : W1.cell? ⟨A, 5, none⟩ = some (.slice none 0 0) := cellN bx1 5
  have t6 : W1.cell? ⟨A, 6, none⟩ = some (.slice none 0 0) := cellN bx1 6
  have tf : ∀ j, W1.frozen? ⟨A, j, none⟩ = false := fun j => by simp [World.frozen?, bx1]
  have m1 : ¬ A = nb := by omega
  have m2 : ¬ nb = A := by omega
  have m3 : ¬ A = fb := by omega
  have m4 : ¬ fb = A := by omega
  have HB1 : Hid _ := hb1
  have BX1 : Hid _ := bx1
  have HA : Hid _ := hA
  clear h hF hb1 bx1
  go_enter Tryz.func44, Tryz.ntmps44
  go_wp2_with fail
  rw [← hW1]
  try simp only [hA]
  clear hW1 hA
  go_region_held3 (fun w' => w'.cell? ⟨nb, 3, none⟩ = some (.slice (some ⟨fb, off, none⟩) D.fs.length D.fc) ∧ w'.cell? ⟨nb, 5, none⟩ = some (.int .i64 f) ∧ w'.cell? ⟨fb, off + f * 7, none⟩ = some (.int .i64 F.kd) ∧ w'.cell? ⟨fb, off + f * 7 + 1, none⟩ = some (.int .i64 F.lk) ∧ w'.cell? ⟨fb, off + f * 7 + 2, none⟩ = some (.int .i64 F.st) ∧ w'.cell? ⟨fb, off + f * 7 + 3, none⟩ = some (.slice F.ra F.rs.length F.rc) ∧ w'.cell? ⟨fb, off + f * 7 + 4, none⟩ = some (.slice F.pa F.ps.length F.pc) ∧ w'.cell? ⟨fb, off + f * 7 + 5, none⟩ = some (.slice F.sa F.ss.length F.sc) ∧ w'.cell? ⟨fb, off + f * 7 + 6, none⟩ = some (.slice F.ia F.is.length F.ic)) (go_keep) (fail)
  go_wp2_with fail
  generalize hwf : World.setCell _ _ _ = WF
  have hWF : WF = set7v W1 A (.int .i64 F.kd) (.int .i64 F.lk) (.int .i64 F.st) (.slice F.ra F.rs.length F.rc) (.slice F.pa F.ps.length F.pc) (.slice F.sa F.ss.length F.sc) (.slice F.ia F.is.length F.ic) := by
    first | exact hwf.symm | (rw [← hwf]; rfl)
  have hFF := set7v_heap BX1.out (.int .i64 F.kd) (.int .i64 F.lk) (.int .i64 F.st) (.slice F.ra F.rs.length F.rc) (.slice F.pa F.ps.length F.pc) (.slice F.sa F.ss.length F.sc) (.slice F.ia F.is.length F.ic)
  have hbl := set7v_below HB1.out (A := A) (Nat.le_of_eq HA.out) (.int .i64 F.kd) (.int .i64 F.lk) (.int .i64 F.st) (.slice F.ra F.rs.length F.rc) (.slice F.pa F.ps.length F.pc) (.slice F.sa F.ss.length F.sc) (.slice F.ia F.is.length F.ic)
  rw [← hWF] at hFF hbl
  have q0 := cellN hFF 0
  have q1 := cellN hFF 1
  have q2 := cellN hFF 2
  have q3 := cellN hFF 3
  have q4 := cellN hFF 4
  have q5 := cellN hFF 5
  have q6 := cellN hFF 6
  exact bodyPost_ret (v := fv F) (by simp [results, Tryz.results44, go_sem, q0, q1, q2, q3, q4, q5, q6]) rfl ⟨rfl, hbl.drew⟩
set_option maxHeartbeats 4000000 in
theorem knsafe {w0 : World} {D : Wd} {f : Nat} {x : Nd} {nb cb rb qb : Nat} {G : Nat → Prop} {v : Value} {K : Nat → Bool} {w : World} (h : KN w0 D f x nb cb rb qb G v K w) :
    Calls Tryz.prog 18 #[.pointer (some ⟨nb, 0, none⟩)] w fun e w' => e = .returned (.bool (safe D f x)) ∧ Below w.heap.size w w' := by
  obtain ⟨n0, n1, n2, n3, n4, n5, n6, n7, n8⟩ := h.cells
  have F := Q.first_any h.qu
  obtain ⟨m, hm⟩ : ∃ m, x.q.headD Q.zeroM = m := ⟨_, rfl⟩
  obtain ⟨E, hE⟩ : ∃ E, (!x.q.isEmpty) = E := ⟨_, rfl⟩
  have hs : safe D f x = (E && (decide (m.1.1 < D.en) && decide (m.1.1 < C.bnd D.fs.length f x.c))) := by unfold safe hd; rw [hm, hE]
  rw [hs]
  rw [hm, hE] at F
  have HP : Hid (∀ W, Below w.heap.size w W → KN w0 D f x nb cb rb qb G v K W) := fun W hb => h.below hb
  clear hs hm hE h
  obtain ⟨⟨T, m2, m3⟩, m4, m5, m6⟩ := m
  dsimp only [Q.mv] at F ⊢
  have HB0 : Hid (∀ w1, Below w.heap.size w w1 → Below w.heap.size w (w1.alloc (.cells #[.int .i64 T, .int .i64 m2, .int .i64 m3, .int .i64 m4, .int .i64 m5, .int .i64 m6] 39)) ∧ (w1.alloc (.cells #[.int .i64 T, .int .i64 m2, .int .i64 m3, .int .i64 m4, .int .i64 m5, .int .i64 m6] 39)).cell? ⟨w1.heap.size, 0, none⟩ = some (.int .i64 T)) := fun w1 b1 => ⟨b1.trans ((al w1 _).mono b1.size), cellN (MapKept.heap_alloc w1 _).1 0⟩
  cases E
  · rw [Bool.false_and]
    go_enter Tryz.func18, Tryz.ntmps18
    go_wp2_with (go_at_call 49; refine F.mono ?_; rintro e w1 ⟨rfl, b1⟩; obtain ⟨hb, k0⟩ := Hid.out HB0 _ b1; have HB : Hid _ := hb; clear b1 F hb)
    go_quiet (fail)
    go_wp2
    go_ret
    exact ⟨rfl, HB.out.trans ⟨rfl, rfl, rfl, Nat.le_refl _, fun _ _ => rfl⟩⟩
  · rw [Bool.true_and]
    obtain ⟨B, hB⟩ : ∃ B, C.bnd D.fs.length f x.c = B := ⟨_, rfl⟩
    rw [hB]
    by_cases c1 : T < D.en
    · have d1 : decide (T < D.en) = true := by simpa using c1
      rw [d1, Bool.true_and]
      have HBD : Hid (∀ W, Below w.heap.size w W → Calls Tryz.prog 22 #[.pointer (some ⟨cb, 0, none⟩)] W fun e w' => e = .returned (.int .i64 B) ∧ Below W.heap.size W w') := fun W hb => by
        have := C.bound_any (HP.out W hb).ck
        rw [hB] at this
        exact this
      clear hB
      go_enter Tryz.func18, Tryz.ntmps18
      go_wp2_with (go_at_call 49; refine F.mono ?_; rintro e w1 ⟨rfl, b1⟩; obtain ⟨hb, k0⟩ := Hid.out HB0 _ b1; have HB : Hid _ := hb; obtain ⟨y0, y1, y2, y3, y4, y5, y6, y7, y8⟩ := (Hid.out HP _ hb).cells; clear b1 F hb)
      obtain ⟨W2, hW2⟩ : ∃ W2, W2 = w1.alloc (.cells #[.int .i64 T, .int .i64 m2, .int .i64 m3, .int .i64 m4, .int .i64 m5, .int .i64 m6] 39) := ⟨_, rfl⟩
      obtain ⟨A, hA⟩ : ∃ A, w1.heap.size = A := ⟨_, rfl⟩
      rw [← hW2, hA] at k0
      rw [← hW2] at HB y0 y1 y2 y3 y4 y5 y6 y7 y8 ⊢
      try simp only [hA]
      have lA : A < W2.heap.size := by rw [hW2, ← hA]; simp
      clear hW2 hA
      have HBW : Hid (Calls Tryz.prog 22 #[.pointer (some ⟨cb, 0, none⟩)] W2.drew fun e w' => e = .returned (.int .i64 B) ∧ Below W2.heap.size W2 w') := (HBD.out W2.drew (HB.out.drew)).mono fun e w' ⟨he, hb⟩ => ⟨he, ⟨hb.os, hb.tape, hb.output, hb.size, hb.block⟩⟩
      have HKP : Hid (∀ w3, Below W2.heap.size W2 w3 → Below w.heap.size w w3 ∧ w3.cell? ⟨A, 0, none⟩ = some (.int .i64 T) ∧ w3.cell? ⟨nb, 4, none⟩ = some (.int .i64 D.en) ∧ w3.cell? ⟨nb, 0, none⟩ = some (.pointer (some ⟨cb, 0, none⟩))) := fun w3 hb3 => by
        have hbb := HB.out.trans (hb3.mono HB.out.size)
        have hc := (HP.out w3 hbb).cells
        exact ⟨hbb, (hb3.cell (p := ⟨A, 0, none⟩) lA).trans k0, hc.2.2.2.2.1, hc.1⟩
      go_region_held3 (fun w' => w'.cell? ⟨A, 0, none⟩ = some (.int .i64 T) ∧ w'.cell? ⟨nb, 4, none⟩ = some (.int .i64 D.en) ∧ w'.cell? ⟨nb, 0, none⟩ = some (.pointer (some ⟨cb, 0, none⟩))) (first | (go_keep; done) | exact Hid.out KEEP) (first
        | (go_at_call 22; refine (Hid.out HBW).mono ?_; rintro e w3 ⟨rfl, b3⟩; obtain ⟨hbb, hc⟩ := Hid.out HKP _ b3; have HB3 : Hid _ := hbb; have KEEP : Hid _ := hc; clear hbb hc b3 HBW))
      go_wp2
      go_ret
      exact ⟨rfl, HB3.out⟩
    · have d1 : decide (T < D.en) = false := by simpa using c1
      rw [d1, Bool.false_and]
      clear hB
      go_enter Tryz.func18, Tryz.ntmps18
      go_wp2_with (go_at_call 49; refine F.mono ?_; rintro e w1 ⟨rfl, b1⟩; obtain ⟨hb, k0⟩ := Hid.out HB0 _ b1; have HB : Hid _ := hb; obtain ⟨y0, y1, y2, y3, y4, y5, y6, y7, y8⟩ := (Hid.out HP _ hb).cells; clear b1 F hb)
      go_quiet (fail)
      go_wp2
      go_ret
      exact ⟨rfl, HB.out.trans ⟨rfl, rfl, rfl, Nat.le_refl _, fun _ _ => rfl⟩⟩

set_option maxHeartbeats 1000000 in
theorem knlog {w0 : World} {D : Wd} {f : Nat} {x : Nd} {nb cb rb qb : Nat} {G : Nat → Prop} {v : Value} {K : Nat → Bool} {w : World} (h : KN w0 D f x nb cb rb qb G v K w) (hl : x.lg.length ≤ 10000) :
    Calls Tryz.prog 27 #[.pointer (some ⟨nb, 0, none⟩)] w fun en w' => ∃ a c, en = .returned (.slice a x.lg.length c) ∧ w'.ownsRow w.heap.size 46 7 (.slice a x.lg.length c) x.lg.length (flatD x.lg) ∧ Below w.heap.size w w' := by
  obtain ⟨va, vc, rfl⟩ := shape_of h.lg
  have n8 := h.cells.2.2.2.2.2.2.2.2
  have CL := cloneD_any w va x.lg.length vc (flatD x.lg) (flatD_len _) hl (flatD_one _) (fun g => RdD.flat (rdD_row h.lg) g)
  obtain ⟨n, hn⟩ : ∃ n, x.lg.length = n := ⟨_, rfl⟩
  rw [hn] at n8 CL ⊢
  clear h hn
  go_enter Tryz.func27, Tryz.ntmps27
  go_wp2_with (go_at_call 57; refine CL.mono ?_; rintro en w2 ⟨a', c', rfl, ho, hb⟩; have HO : Hid _ := And.intro ho hb; clear ho hb CL)
  go_ret
  exact ⟨a', c', rfl, HO.out⟩
end Go.Proofs.YtadmojehemdoaaaGreat
/- Proved: contracts of the program's node: hearMessage, Hear, Tell. -/
namespace Go.Proofs.YtadmojehemdoaaaGreat
open Go.RowKit Go.Shelf
set_option linter.unusedVariables false
set_option maxRecDepth 100000

set_option maxHeartbeats 4000000 in
theorem knhearM {w0 : World} {D : Wd} {f : Nat} {x : Nd} {nb cb rb qb : Nat} {G : Nat → Prop} {v : Value} {K : Nat → Bool} {w : World} (h : KN w0 D f x nb cb rb qb G v K w) (fr T b c d e g : Int) (hfr : (Lit.int .i64 fr).wf = true) (hm : Q.mwf ((T, b, c), d, e, g)) :
    Calls Tryz.prog 38 #[.pointer (some ⟨nb, 0, none⟩), .int .i64 fr, .agg #[.int .i64 T, .int .i64 b, .int .i64 c, .int .i64 d, .int .i64 e, .int .i64 g]] w fun en w' => en = .returned (.int .i64 (heE D.fs.length f x fr 0 ((T, b, c), d, e, g))) ∧ ∃ G2, KN w0 D f (heN D.fs.length f x fr 0 ((T, b, c), d, e, g)) nb cb rb qb G2 v K w' ∧ StN (FK nb cb rb G v K) (FK nb cb rb G2 v K) w w' := by
  obtain ⟨W0, hW0⟩ : ∃ W0, W0 = w.alloc (.cells #[.int .i64 T, .int .i64 b, .int .i64 c, .int .i64 d, .int .i64 e, .int .i64 g] 39) := ⟨_, rfl⟩
  have hb0 : Below w.heap.size w W0 := by rw [hW0]; exact al w _
  have h0 := h.below hb0
  have hlt := h.lt
  have bx : W0.heap[w.heap.size]? = some (.cells #[.int .i64 T, .int .i64 b, .int .i64 c, .int .i64 d, .int .i64 e, .int .i64 g] 39 (0, 0)) := by rw [hW0]; exact (MapKept.heap_alloc w _).1
  have nF : ¬ FK nb cb rb G v K w.heap.size := fun g => by have := hlt _ g; omega
  have HS : Hid (∀ G2 W, StN (FK nb cb rb G v K) (FK nb cb rb G2 v K) W0 W → StN (FK nb cb rb G v K) (FK nb cb rb G2 v K) w W) := fun G2 W hs => StN.after hb0 hlt hs
  obtain ⟨n0, n1, n2, n3, n4, n5, n6, n7, n8⟩ := h0.cells
  have k0 : W0.cell? ⟨w.heap.size, 0, none⟩ = some (.int .i64 T) := cellN bx 0
  have k1 : W0.cell? ⟨w.heap.size, 1, none⟩ = some (.int .i64 b) := cellN bx 1
  have k2 : W0.cell? ⟨w.heap.size, 2, none⟩ = some (.int .i64 c) := cellN bx 2
  have k3 : W0.cell? ⟨w.heap.size, 3, none⟩ = some (.int .i64 d) := cellN bx 3
  have k4 : W0.cell? ⟨w.heap.size, 4, none⟩ = some (.int .i64 e) := cellN bx 4
  have k5 : W0.cell? ⟨w.heap.size, 5, none⟩ = some (.int .i64 g) := cellN bx 5
  have HX : Hid (∀ W, Fr (FK nb cb rb G v K) W0 W → W.heap[w.heap.size]? = some (.cells #[.int .i64 T, .int .i64 b, .int .i64 c, .int .i64 d, .int .i64 e, .int .i64 g] 39 (0, 0))) := fun W hf => (hf.block _ (Array.getElem?_eq_some_iff.1 bx).1 nF).trans bx
  have H0 : Hid (KN w0 D f x nb cb rb qb G v K W0) := h0
  have hAt := C.at_any h0.ck fr hfr
  clear h bx nF h0
  obtain ⟨A, hA⟩ : ∃ A, C.atC D.fs.length f x.c fr = A := ⟨_, rfl⟩
  rw [hA] at hAt
  have eE : heE D.fs.length f x fr 0 ((T, b, c), d, e, g) = (if A < 0 then 1 else if T < A then 110 else if Q.hasK x.q (T, b, c) = true then 3 else if 64 ≤ x.q.length then 2 else 0) := by unfold heE; rw [if_neg (by decide), if_pos rfl, hA]
  by_cases a0 : A < 0
  · have eN : heN D.fs.length f x fr 0 ((T, b, c), d, e, g) = x := by unfold heN; rw [if_neg (by decide), if_neg (fun g => by have := g.2; rw [eE, if_pos a0] at this; cases this)]
    rw [eE, eN, if_pos a0]
    clear eE eN hA
    rw [hW0] at hAt n0
    go_enter Tryz.func38, Tryz.ntmps38
    go_wp2_with (go_at_call 70; refine hAt.mono ?_; rintro en w3 ⟨rfl, rfl⟩)
    go_ret
    rw [← hW0]
    exact ⟨rfl, G, H0.out, HS.out G _ (StN.below (Below.refl _ _))⟩
  · by_cases aT : T < A
    · have eN : heN D.fs.length f x fr 0 ((T, b, c), d, e, g) = x := by unfold heN; rw [if_neg (by decide), if_neg (fun g => by have := g.2; rw [eE, if_neg a0, if_pos aT] at this; cases this)]
      rw [eE, eN, if_neg a0, if_pos aT]
      clear eE eN hA
      rw [hW0] at hAt n0 k0
      go_enter Tryz.func38, Tryz.ntmps38
      go_wp2_with (go_at_call 70; refine hAt.mono ?_; rintro en w3 ⟨rfl, rfl⟩)
      go_ret
      rw [← hW0]
      exact ⟨rfl, G, H0.out, HS.out G _ (StN.below (Below.refl _ _))⟩
    · rw [if_neg a0, if_neg aT] at eE
      obtain ⟨E, hE⟩ : ∃ E : Int, (if Q.hasK x.q (T, b, c) = true then (3 : Int) else if 64 ≤ x.q.length then 2 else 0) = E := ⟨_, rfl⟩
      rw [hE] at eE
      have eN : heN D.fs.length f x fr 0 ((T, b, c), d, e, g) = { x with q := if Q.hasK x.q (T, b, c) = true then x.q else if 64 ≤ x.q.length then x.q else Q.ins x.q ((T, b, c), d, e, g) } := by
        unfold heN
        rw [if_neg (by decide), eE, ← hE]
        by_cases g1 : Q.hasK x.q (T, b, c) = true
        · rw [if_pos g1, if_pos g1, if_neg (fun g => by have := g.2; cases this)]
        · rw [if_neg g1, if_neg g1]
          by_cases g2 : 64 ≤ x.q.length
          · rw [if_pos g2, if_pos g2, if_neg (fun g => by have := g.2; cases this)]
          · rw [if_neg g2, if_neg g2, if_pos ⟨rfl, rfl⟩]
      rw [eE, eN]
      obtain ⟨Y, hY⟩ : ∃ Y, ({ x with q := if Q.hasK x.q (T, b, c) = true then x.q else if 64 ≤ x.q.length then x.q else Q.ins x.q ((T, b, c), d, e, g) } : Nd) = Y := ⟨_, rfl⟩
      have HP : Hid (∀ W, Below W0.heap.size W0 W → Calls Tryz.prog 71 #[.pointer (some ⟨qb, 0, none⟩), .agg #[.int .i64 T, .int .i64 b, .int .i64 c, .int .i64 d, .int .i64 e, .int .i64 g]] W fun en w' => en = .returned (.int .i64 E) ∧ ∃ G2, KN w0 D f Y nb cb rb qb G2 v K w' ∧ StN (FK nb cb rb G v K) (FK nb cb rb G2 v K) W0 w') := fun W hb => by
        have hd := H0.out.below hb
        have := Q.qpush_any hd.qu ((T, b, c), d, e, g) hm
        rw [hE] at this
        refine this.mono fun en w' ⟨he, G2, hq, hs⟩ => ?_
        obtain ⟨r1, r2, r3⟩ := hd.quw hq hs
        rw [hY] at r1
        exact ⟨he, G2, r1, StN.after hb H0.out.lt ⟨r2, r3⟩⟩
      rw [hY]
      have HKX : Hid (∀ G2 W, KN w0 D f Y nb cb rb qb G2 v K W → StN (FK nb cb rb G v K) (FK nb cb rb G2 v K) W0 W → W.cell? ⟨nb, 1, none⟩ = some (.pointer (some ⟨qb, 0, none⟩)) ∧ W.cell? ⟨w.heap.size, 0, none⟩ = some (.int .i64 T) ∧ W.cell? ⟨w.heap.size, 1, none⟩ = some (.int .i64 b) ∧ W.cell? ⟨w.heap.size, 2, none⟩ = some (.int .i64 c) ∧ W.cell? ⟨w.heap.size, 3, none⟩ = some (.int .i64 d) ∧ W.cell? ⟨w.heap.size, 4, none⟩ = some (.int .i64 e) ∧ W.cell? ⟨w.heap.size, 5, none⟩ = some (.int .i64 g)) := fun G2 W hr hs => by
        have hx := HX.out W hs.1
        exact ⟨hr.cells.2.1, cellN hx 0, cellN hx 1, cellN hx 2, cellN hx 3, cellN hx 4, cellN hx 5⟩
      clear eE eN hA hE hY HX
      rw [hW0] at hAt n0 k0
      go_enter Tryz.func38, Tryz.ntmps38
      go_wp2_with (go_at_call 70; refine hAt.mono ?_; rintro en w3 ⟨rfl, rfl⟩)
      rw [← hW0] at n0 k0 ⊢
      clear hW0 hAt
      go_region_held3 (fun w' => w'.cell? ⟨nb, 1, none⟩ = some (.pointer (some ⟨qb, 0, none⟩)) ∧ w'.cell? ⟨w.heap.size, 0, none⟩ = some (.int .i64 T) ∧ w'.cell? ⟨w.heap.size, 1, none⟩ = some (.int .i64 b) ∧ w'.cell? ⟨w.heap.size, 2, none⟩ = some (.int .i64 c) ∧ w'.cell? ⟨w.heap.size, 3, none⟩ = some (.int .i64 d) ∧ w'.cell? ⟨w.heap.size, 4, none⟩ = some (.int .i64 e) ∧ w'.cell? ⟨w.heap.size, 5, none⟩ = some (.int .i64 g)) (first | (go_keep; done) | exact Hid.out KEEP) (first
        | (go_at_call 71; refine (Hid.out HP W0.drew ⟨rfl, rfl, rfl, Nat.le_refl _, fun _ _ => rfl⟩).mono ?_; rintro en w3 ⟨rfl, G2, h3, s3⟩; have H3 : Hid _ := And.intro h3 s3; have KEEP : Hid _ := Hid.out HKX G2 w3 h3 s3; clear h3 s3 HP))
      go_wp2
      go_ret
      exact ⟨rfl, G2, H3.out.1, HS.out G2 _ H3.out.2⟩

set_option maxHeartbeats 4000000 in
theorem knhear {w0 : World} {D : Wd} {f : Nat} {x : Nd} {nb cb rb qb : Nat} {G : Nat → Prop} {v : Value} {K : Nat → Bool} {w : World} (h : KN w0 D f x nb cb rb qb G v K w) (fr k co T b c d e g : Int) (hfr : (Lit.int .i64 fr).wf = true) (hm : Q.mwf ((T, b, c), d, e, g)) :
    Calls Tryz.prog 11 #[.pointer (some ⟨nb, 0, none⟩), .int .i64 fr, .agg (icv k T b c d e g co)] w fun en w' => en = .returned (.int .i64 (heE D.fs.length f x fr k ((T, b, c), d, e, g))) ∧ ∃ G2, KN w0 D f (heN D.fs.length f x fr k ((T, b, c), d, e, g)) nb cb rb qb G2 v K w' ∧ StN (FK nb cb rb G v K) (FK nb cb rb G2 v K) w w' := by
  obtain ⟨W0, hW0⟩ : ∃ W0, W0 = w.alloc (.cells (icv k T b c d e g co) 41) := ⟨_, rfl⟩
  have hb0 : Below w.heap.size w W0 := by rw [hW0]; exact al w _
  have h0 := h.below hb0
  have hlt := h.lt
  have bx : W0.heap[w.heap.size]? = some (.cells (icv k T b c d e g co) 41 (0, 0)) := by rw [hW0]; exact (MapKept.heap_alloc w _).1
  have nF : ¬ FK nb cb rb G v K w.heap.size := fun g => by have := hlt _ g; omega
  have HS : Hid (∀ G2 W, StN (FK nb cb rb G v K) (FK nb cb rb G2 v K) W0 W → StN (FK nb cb rb G v K) (FK nb cb rb G2 v K) w W) := fun G2 W hs => StN.after hb0 hlt hs
  obtain ⟨n0, n1, n2, n3, n4, n5, n6, n7, n8⟩ := h0.cells
  have k0 : W0.cell? ⟨w.heap.size, 0, none⟩ = some (.int .i64 k) := cellN bx 0
  have k1 : W0.cell? ⟨w.heap.size, 1, none⟩ = some (.int .i64 T) := cellN bx 1
  have k2 : W0.cell? ⟨w.heap.size, 2, none⟩ = some (.int .i64 b) := cellN bx 2
  have k3 : W0.cell? ⟨w.heap.size, 3, none⟩ = some (.int .i64 c) := cellN bx 3
  have k4 : W0.cell? ⟨w.heap.size, 4, none⟩ = some (.int .i64 d) := cellN bx 4
  have k5 : W0.cell? ⟨w.heap.size, 5, none⟩ = some (.int .i64 e) := cellN bx 5
  have k6 : W0.cell? ⟨w.heap.size, 6, none⟩ = some (.int .i64 g) := cellN bx 6
  have HX : Hid (∀ W, Fr (FK nb cb rb G v K) W0 W → W.heap[w.heap.size]? = some (.cells (icv k T b c d e g co) 41 (0, 0))) := fun W hf => (hf.block _ (Array.getElem?_eq_some_iff.1 bx).1 nF).trans bx
  have H0 : Hid (KN w0 D f x nb cb rb qb G v K W0) := h0
  simp only [icv] at hW0
  clear h bx nF h0
  by_cases e2 : k = 2
  · have d2 : (k == 2) = true := by simpa using e2
    have eE : heE D.fs.length f x fr k ((T, b, c), d, e, g) = C.hrE D.fs.length f x.c fr T := by unfold heE; rw [if_pos e2]
    have eN : heN D.fs.length f x fr k ((T, b, c), d, e, g) = { x with c := C.hrC D.fs.length f x.c fr T } := by unfold heN; rw [if_pos e2]
    rw [eE, eN]
    clear eE eN e2
    have HC : Hid (Calls Tryz.prog 37 #[.pointer (some ⟨cb, 0, none⟩), .int .i64 fr, .int .i64 T] W0.drew fun en w' => en = .returned (.int .i64 (C.hrE D.fs.length f x.c fr T)) ∧ KN w0 D f { x with c := C.hrC D.fs.length f x.c fr T } nb cb rb qb G v K w' ∧ Fr (FK nb cb rb G v K) W0 w') := by
      have hd : KN w0 D f x nb cb rb qb G v K W0.drew := H0.out.below ((Below.refl _ _).drew)
      exact (C.hear_any hd.ck fr T hfr).mono fun en w' ⟨he, hc, hf⟩ => by
        obtain ⟨r1, r2⟩ := hd.ckw hc hf (fun k e => .inr e)
        exact ⟨he, r1, ⟨r2.os, r2.tape, r2.output, r2.size, r2.block⟩⟩
    obtain ⟨E, hE⟩ : ∃ E, C.hrE D.fs.length f x.c fr T = E := ⟨_, rfl⟩
    rw [hE] at HC ⊢
    clear hE
    go_enter Tryz.func11, Tryz.ntmps11
    go_wp2
    rw [← hW0]
    clear hW0
    go_region_held3 (fun w' => w'.cell? ⟨nb, 0, none⟩ = some (.pointer (some ⟨cb, 0, none⟩)) ∧ w'.cell? ⟨w.heap.size, 1, none⟩ = some (.int .i64 T)) (first | (go_keep; done) | exact Hid.out KEEP) (first
      | (go_at_call 37; refine (Hid.out HC).mono ?_; rintro en w3 ⟨rfl, h3, f3⟩; have H3 : Hid _ := h3; have F3 : Hid _ := f3; have KEEP : Hid _ := And.intro h3.cells.1 (cellN (Hid.out HX _ f3) 1); clear h3 f3 HC))
    go_wp2
    go_ret
    exact ⟨rfl, G, H3.out, HS.out G _ ⟨F3.out, fun k g => .inl g⟩⟩
  · have d2 : (k == 2) = false := by simpa using e2
    by_cases e0 : k = 0
    · have d0 : (k == 0) = true := by simpa using e0
      have HM := knhearM H0.out fr T b c d e g hfr hm
      rw [← e0] at HM
      obtain ⟨E, hE⟩ : ∃ E, heE D.fs.length f x fr k ((T, b, c), d, e, g) = E := ⟨_, rfl⟩
      rw [hE] at HM ⊢
      clear hE e2 e0
      rw [hW0] at HM k0 k1 k2 k3 k4 k5 k6
      go_enter Tryz.func11, Tryz.ntmps11
      go_wp2_with (go_at_call 38; refine HM.mono ?_; rintro en w3 ⟨rfl, G2, h3, s3⟩; have H3 : Hid _ := And.intro h3 s3; clear h3 s3 HM)
      go_ret
      rw [← hW0] at H3
      exact ⟨rfl, G2, H3.out.1, HS.out G2 _ H3.out.2⟩
    · have d0 : (k == 0) = false := by simpa using e0
      have eE : heE D.fs.length f x fr k ((T, b, c), d, e, g) = 130 := by unfold heE; rw [if_neg e2, if_neg e0]
      have eN : heN D.fs.length f x fr k ((T, b, c), d, e, g) = x := by unfold heN; rw [if_neg e2, if_neg (fun g => e0 g.1)]
      rw [eE, eN]
      clear eE eN e2 e0
      go_enter Tryz.func11, Tryz.ntmps11
      go_wp2
      go_ret
      rw [← hW0]
      exact ⟨rfl, G, H0.out, HS.out G _ (StN.below (Below.refl _ _))⟩

set_option maxHeartbeats 4000000 in
theorem kntell {w0 : World} {D : Wd} {f : Nat} {x : Nd} {nb cb rb qb : Nat} {G : Nat → Prop} {v : Value} {K : Nat → Bool} {w : World} (h : KN w0 D f x nb cb rb qb G v K w) :
    Calls Tryz.prog 16 #[.pointer (some ⟨nb, 0, none⟩)] w fun en w' => en = .returned (.tuple #[.int .i64 (teT D f x), .bool (teB D f x)]) ∧ KN w0 D f (teN D f x) nb cb rb qb G v K w' ∧ StN (FK nb cb rb G v K) (FK nb cb rb G v K) w w' := by
  obtain ⟨n0, n1, n2, n3, n4, n5, n6, n7, n8⟩ := h.cells
  have F := Q.first_any h.qu
  obtain ⟨m, hm⟩ : ∃ m, x.q.headD Q.zeroM = m := ⟨_, rfl⟩
  obtain ⟨E, hE⟩ : ∃ E, (!x.q.isEmpty) = E := ⟨_, rfl⟩
  have hft : ft x = if E = false then 1125899906842624 else m.1.1 := by unfold ft hd; rw [hm, ← hE]; cases x.q.isEmpty <;> rfl
  rw [hm, hE] at F
  obtain ⟨⟨T, m2, m3⟩, m4, m5, m6⟩ := m
  dsimp only [Q.mv] at F hft
  obtain ⟨FF, hFF⟩ : ∃ FF, nthF D.fs f = FF := ⟨_, rfl⟩
  obtain ⟨A, hA⟩ : ∃ A, ft x = A := ⟨_, rfl⟩
  obtain ⟨t1, ht1⟩ : ∃ t1, teT D f x = t1 := ⟨_, rfl⟩
  obtain ⟨b1, hb1⟩ : ∃ b1, teB D f x = b1 := ⟨_, rfl⟩
  have HTL : Hid (∀ W, Below w.heap.size w W → Calls Tryz.prog 50 #[.pointer (some ⟨cb, 0, none⟩), .int .i64 A, .int .i64 FF.lk] W fun en w' => en = .returned (.tuple #[.int .i64 t1, .bool b1]) ∧ KN w0 D f (teN D f x) nb cb rb qb G v K w' ∧ Fr (FK nb cb rb G v K) w w') := fun W hb => by
    have hd := h.below hb
    have := C.tell_any hd.ck A FF.lk
    rw [← hA, ← hFF] at this
    change Calls _ _ _ _ (fun e w' => e = .returned (.tuple #[.int .i64 (teT D f x), .bool (teB D f x)]) ∧ C.PC D.fs.length f x.c (teT D f x) cb rb w' ∧ C.Fr (fun k => k = cb) W w') at this
    rw [ht1, hb1, hA, hFF] at this
    refine this.mono fun en w' ⟨he, hc, hf⟩ => ?_
    obtain ⟨r1, r2⟩ := hd.ckw hc hf (fun k e => .inl e)
    refine ⟨he, ?_, (Fr.of_below hb).then r2⟩
    have e : teN D f x = { x with c := x.c, t := t1 } := by unfold teN; rw [ht1]
    rw [e]
    exact r1
  have HP : Hid (∀ W, Below w.heap.size w W → KN w0 D f x nb cb rb qb G v K W) := fun W hb => h.below hb
  have HFE : Hid (∀ W, Below w.heap.size w W → Calls Tryz.prog 44 #[.pointer (some ⟨nb, 0, none⟩)] W fun e w' => e = .returned (.agg #[.int .i64 FF.kd, .int .i64 FF.lk, .int .i64 FF.st, .slice FF.ra FF.rs.length FF.rc, .slice FF.pa FF.ps.length FF.pc, .slice FF.sa FF.ss.length FF.sc, .slice FF.ia FF.is.length FF.ic]) ∧ Below W.heap.size W w') := fun W hb => by
    have := knfed (HP.out W hb)
    rw [hFF] at this
    exact this
  have hfd : ∀ w : World, (Instr.field 71 (.agg #[.int .i64 FF.kd, .int .i64 FF.lk, .int .i64 FF.st, .slice FF.ra FF.rs.length FF.rc, .slice FF.pa FF.ps.length FF.pc, .slice FF.sa FF.ss.length FF.sc, .slice FF.ia FF.is.length FF.ic]) 1).run Tryz.prog w = .ok (.int .i64 FF.lk) w := fun _ => by kernel_rfl
  rw [ht1, hb1]
  have HB0 : Hid (∀ w1, Below w.heap.size w w1 → Below w.heap.size w (w1.alloc (.cells #[.int .i64 T, .int .i64 m2, .int .i64 m3, .int .i64 m4, .int .i64 m5, .int .i64 m6] 39)) ∧ (w1.alloc (.cells #[.int .i64 T, .int .i64 m2, .int .i64 m3, .int .i64 m4, .int .i64 m5, .int .i64 m6] 39)).cell? ⟨w1.heap.size, 0, none⟩ = some (.int .i64 T)) := fun w1 b1 => ⟨b1.trans ((al w1 _).mono b1.size), cellN (MapKept.heap_alloc w1 _).1 0⟩
  clear hm hE h ht1 hb1 hFF
  cases E
  · rw [if_pos rfl] at hft
    rw [hft] at hA
    subst hA
    clear hft
    go_enter Tryz.func16, Tryz.ntmps16
    go_wp2_with (go_at_call 49; refine F.mono ?_; rintro e w1 ⟨rfl, b1⟩; obtain ⟨hb, k0⟩ := Hid.out HB0 _ b1; have HB : Hid _ := hb; obtain ⟨y0, y1, y2, y3, y4, y5, y6, y7, y8⟩ := (Hid.out HP _ hb).cells; clear b1 F hb)
    go_region_held3 (fun w' => w'.cell? ⟨nb, 0, none⟩ = some (.pointer (some ⟨cb, 0, none⟩))) (first | (go_keep; done) | exact Hid.out KEEP2 | exact Hid.out KEEP) (first
      | (go_at_call 44; refine (Hid.out HFE _ ((Hid.out HB).drew)).mono ?_; rintro en w2 ⟨rfl, b2⟩; have hb2 := ((Hid.out HB).drew).trans (b2.mono (Hid.out HB).size); have HB2 : Hid _ := hb2; have KEEP : Hid _ := (Hid.out HP _ hb2).cells.1; clear b2 hb2)
      | (go_at_call 50; refine (Hid.out HTL _ (Hid.out HB2)).mono ?_; rintro en w3 ⟨rfl, h3, f3⟩; have H3 : Hid _ := And.intro h3 f3; have KEEP2 : Hid _ := h3.cells.1; clear h3 f3 HTL))
    go_wp2
    go_ret2
    exact ⟨rfl, H3.out.1, H3.out.2, fun k g => .inl g⟩
  · rw [if_neg (by decide)] at hft
    rw [hft] at hA
    subst hA
    clear hft
    go_enter Tryz.func16, Tryz.ntmps16
    go_wp2_with (go_at_call 49; refine F.mono ?_; rintro e w1 ⟨rfl, b1⟩; obtain ⟨hb, k0⟩ := Hid.out HB0 _ b1; have HB : Hid _ := hb; obtain ⟨y0, y1, y2, y3, y4, y5, y6, y7, y8⟩ := (Hid.out HP _ hb).cells; clear b1 F hb)
    go_region_held3 (fun w' => w'.cell? ⟨nb, 0, none⟩ = some (.pointer (some ⟨cb, 0, none⟩))) (first | (go_keep; done) | exact Hid.out KEEP2 | exact Hid.out KEEP) (first
      | (go_at_call 44; refine (Hid.out HFE _ ((Hid.out HB).drew)).mono ?_; rintro en w2 ⟨rfl, b2⟩; have hb2 := ((Hid.out HB).drew).trans (b2.mono (Hid.out HB).size); have HB2 : Hid _ := hb2; have KEEP : Hid _ := (Hid.out HP _ hb2).cells.1; clear b2 hb2)
      | (go_at_call 50; refine (Hid.out HTL _ (Hid.out HB2)).mono ?_; rintro en w3 ⟨rfl, h3, f3⟩; have H3 : Hid _ := And.intro h3 f3; have KEEP2 : Hid _ := h3.cells.1; clear h3 f3 HTL))
    go_wp2
    go_ret2
    exact ⟨rfl, H3.out.1, H3.out.2, fun k g => .inl g⟩
end Go.Proofs.YtadmojehemdoaaaGreat
/- Proved: what the program's Step has in its middle; how what was taken is put down. -/
namespace Go.Proofs.YtadmojehemdoaaaGreat
open Go.RowKit Go.Shelf
set_option linter.unusedVariables false
set_option maxRecDepth 100000

structure Mn (w0 w : World) (D : Wd) (f : Nat) (x : Nd) (nb cb rb qb : Nat) (G0 G : Nat → Prop) (v0 v : Value) (K : Nat → Bool) (A B : Nat) (z : Array Value) (W : World) : Prop where
  kn : KN w0 D f x nb cb rb qb G v K W
  st : StN (FK nb cb rb G0 v0 K) (FK nb cb rb G v K) w W
  bA : W.heap[A]? = some (.cells (dcs zeroD) 46 (0, 0))
  bB : W.heap[B]? = some (.cells z 39 (0, 0))
  nA : ¬ FK nb cb rb G v K A
  nB : ¬ FK nb cb rb G v K B
  lA : w.heap.size ≤ A
  lB : w.heap.size ≤ B
theorem Mn.on {w0 w : World} {D : Wd} {f : Nat} {x : Nd} {nb cb rb qb : Nat} {G0 G : Nat → Prop} {v0 v : Value} {K : Nat → Bool} {A B : Nat} {z : Array Value} {W W2 : World} (h : Mn w0 w D f x nb cb rb qb G0 G v0 v K A B z W) (hb : Below W.heap.size W W2) : Mn w0 w D f x nb cb rb qb G0 G v0 v K A B z W2 :=
  ⟨h.kn.below hb, ⟨h.st.1.then (Fr.of_below hb), h.st.2⟩, (hb.block A (Array.getElem?_eq_some_iff.1 h.bA).1).trans h.bA, (hb.block B (Array.getElem?_eq_some_iff.1 h.bB).1).trans h.bB, h.nA, h.nB, h.lA, h.lB⟩
theorem StN.ownK {F0 : Nat → Prop} {nb cb rb : Nat} {G : Nat → Prop} {v : Value} {K : Nat → Bool} {w W : World} (h : StN F0 (FK nb cb rb G v K) w W) (i : Nat) (u : Value) : StN F0 (FK nb cb rb G v K) w (W.setCell ⟨nb, i, none⟩ u) := by
  refine ⟨h.1.trans (frN W nb i u) (fun k hk e => ?_), h.2⟩
  subst e
  rcases h.2 k (.inl rfl) with g | g
  · exact g
  · omega
theorem Mn.own {w0 w : World} {D : Wd} {f : Nat} {x : Nd} {nb cb rb qb : Nat} {G0 G : Nat → Prop} {v0 v : Value} {K : Nat → Bool} {A B : Nat} {z : Array Value} {W : World} (h : Mn w0 w D f x nb cb rb qb G0 G v0 v K A B z W) {i : Nat} {u : Value} {st sn : Int} (he : (pcs D f x.st x.sn cb qb v).setIfInBounds i u = pcs D f st sn cb qb v) (h0 : 0 ≤ sn) (h1 : sn ≤ 1000000) : Mn w0 w D f { x with st := st, sn := sn } nb cb rb qb G0 G v0 v K A B z (W.setCell ⟨nb, i, none⟩ u) := by
  have hF := frN W nb i u
  exact ⟨h.kn.own he h0 h1, h.st.ownK i u, (hF.block A (Array.getElem?_eq_some_iff.1 h.bA).1 (fun e => h.nA (.inl e))).trans h.bA, (hF.block B (Array.getElem?_eq_some_iff.1 h.bB).1 (fun e => h.nB (.inl e))).trans h.bB, h.nA, h.nB, h.lA, h.lB⟩
/-- What the walk reads in its middle: the record, the message. -/
theorem Mn.reads {w0 w : World} {D : Wd} {f : Nat} {x : Nd} {nb cb rb qb : Nat} {G0 G : Nat → Prop} {v0 v : Value} {K : Nat → Bool} {A B : Nat} {T b c d e g : Int} {W : World} (h : Mn w0 w D f x nb cb rb qb G0 G v0 v K A B (mc6 T b c d e g) W) :
    (W.cell? ⟨nb, 1, none⟩ = some (.pointer (some ⟨qb, 0, none⟩)) ∧ W.cell? ⟨nb, 2, none⟩ = some (.slice D.pa D.ps.length D.pc) ∧ W.cell? ⟨nb, 3, none⟩ = some (.slice D.fa D.fs.length D.fc) ∧ W.cell? ⟨nb, 4, none⟩ = some (.int .i64 D.en) ∧ W.cell? ⟨nb, 5, none⟩ = some (.int .i64 f) ∧ W.cell? ⟨nb, 6, none⟩ = some (.int .i64 x.st) ∧ W.cell? ⟨nb, 7, none⟩ = some (.int .i64 x.sn) ∧ W.cell? ⟨nb, 8, none⟩ = some v) ∧
    (W.cell? ⟨B, 0, none⟩ = some (.int .i64 T) ∧ W.cell? ⟨B, 1, none⟩ = some (.int .i64 b) ∧ W.cell? ⟨B, 2, none⟩ = some (.int .i64 c) ∧ W.cell? ⟨B, 3, none⟩ = some (.int .i64 d) ∧ W.cell? ⟨B, 4, none⟩ = some (.int .i64 e) ∧ W.cell? ⟨B, 5, none⟩ = some (.int .i64 g)) := by
  obtain ⟨n0, n1, n2, n3, n4, n5, n6, n7, n8⟩ := h.kn.cells
  exact ⟨⟨n1, n2, n3, n4, n5, n6, n7, n8⟩, cellN h.bB 0, cellN h.bB 1, cellN h.bB 2, cellN h.bB 3, cellN h.bB 4, cellN h.bB 5⟩
/-- One more is put down behind what was taken. -/
theorem Mn.log {w0 w : World} {D : Wd} {f : Nat} {x : Nd} {nb cb rb qb : Nat} {G0 G : Nat → Prop} {v0 v : Value} {K : Nat → Bool} {A B : Nat} {z : Array Value} {W : World} (h : Mn w0 w D f x nb cb rb qb G0 G v0 v K A B z W) (d : Dn) (hl : x.lg.length ≤ 100000) (ty : TypeId) :
    ∃ a' c' w', (Builtin.append_ #[56, 56] ty #[v, .slice (some ⟨W.heap.size, 0, none⟩) 1 1]).run Tryz.prog (W.alloc (.cells (dcs d) 46)) = .ok (.slice a' (x.lg.length + 1) c') w' ∧ w'.cell? ⟨nb, 8, none⟩ = some v ∧ w'.frozen? ⟨nb, 8, none⟩ = false ∧ Fr (fun k => v.ownBlock = some k) W w' ∧ (∀ k, (Value.slice a' (x.lg.length + 1) c').ownBlock = some k → v.ownBlock = some k ∨ W.heap.size < k) ∧
      Mn w0 w D f { x with lg := x.lg ++ [d] } nb cb rb qb G0 G v0 (.slice a' (x.lg.length + 1) c') K A B z (w'.setCell ⟨nb, 8, none⟩ (.slice a' (x.lg.length + 1) c')) := by
  obtain ⟨i0, hi0, hz0, hz1, hz2⟩ := info_parts infoD
  have hb1 := al W (.cells (dcs d) 46)
  have hx : (W.alloc (.cells (dcs d) 46)).heap[W.heap.size]? = some (.cells (dcs d) 46 (0, 0)) := (MapKept.heap_alloc W _).1
  obtain ⟨v', w', hr, h3, h4, h5, h6⟩ := run_append_own_at (P := Tryz.prog) _ w0.heap.size 56 ty 46 i0 _ 7 56 Tryz.underlying56 hi0 hz0 hz1 hz2 rfl (by decide) v x.lg.length (flatD x.lg) (own_below h.kn.lg hb1) ⟨W.heap.size, 0, none⟩ 1 1 (flatD [d]) (flatD_len [d]) (fun j u hj => by
    rw [Addr.add_lit, Nat.zero_add]
    have e : flatD [d] = encD d := by simp [flatD]
    rw [e] at hj
    rw [cellN hx j]
    simpa [encD, dcs] using hj) (flatD_one _) (by unfold maxLen; omega) (by omega) (Nat.le_trans h.kn.bel.size hb1.size)
  have hro : w'.ownsRow w0.heap.size 46 7 v' (x.lg.length + 1) (flatD (x.lg ++ [d])) := by
    rw [flatD_append]
    exact h3
  obtain ⟨a', c', rfl⟩ := shape_of hro
  have hF : Fr (fun k => v.ownBlock = some k) W w' := (Fr.of_below hb1).then (Fr.grown (Fr.refl _ _) h4 (fun k hk _ => hk))
  have hcl : ∀ k, k < W.heap.size → v.ownBlock ≠ some k → w'.heap[k]? = W.heap[k]? := fun k hk hn => hF.block k hk hn
  have lnb := h.kn.lt nb (.inl rfl)
  have hblk' := (hcl nb lnb h.kn.a6).trans h.kn.blk
  have hnew : ∀ k, (Value.slice a' (x.lg.length + 1) c').ownBlock = some k → v.ownBlock = some k ∨ W.heap.size < k := fun k hk => by
    rcases h6 with e | e
    · rw [e] at hk; exact .inl hk
    · rw [e] at hk
      simp at hk
      exact .inr (by omega)
  have nn : ∀ k, k < W.heap.size → v.ownBlock ≠ some k → (Value.slice a' (x.lg.length + 1) c').ownBlock ≠ some k := fun k hk hn e => by
    rcases hnew k e with g | g
    · exact hn g
    · omega
  have lA' := (Array.getElem?_eq_some_iff.1 h.bA).1
  have lB' := (Array.getElem?_eq_some_iff.1 h.bB).1
  have hS := frN w' nb 8 (.slice a' (x.lg.length + 1) c')
  have lcb := h.kn.lt cb (.inr (.inl rfl))
  have lrb := h.kn.lt rb (.inr (.inr (.inl rfl)))
  have hbel : Below w0.heap.size w0 w' := h.kn.bel.trans (hF.below h.kn.bel.size (fun k g => h.kn.lo k (.inr (.inr (.inr (.inr (.inl g)))))))
  have hlo : ∀ k, FK nb cb rb G (.slice a' (x.lg.length + 1) c') K k → w0.heap.size ≤ k := by
    rintro k (e | e | e | g | g | g)
    · exact h.kn.lo k (.inl e)
    · exact h.kn.lo k (.inr (.inl e))
    · exact h.kn.lo k (.inr (.inr (.inl e)))
    · exact h.kn.lo k (.inr (.inr (.inr (.inl g))))
    · exact (own_lt hro g).2
    · exact h.kn.lo k (.inr (.inr (.inr (.inr (.inr g)))))
  have hnF : ∀ k, k < W.heap.size → ¬ FK nb cb rb G v K k → ¬ FK nb cb rb G (.slice a' (x.lg.length + 1) c') K k := fun k hk hn => by
    rintro (e | e | e | g | g | g)
    · exact hn (.inl e)
    · exact hn (.inr (.inl e))
    · exact hn (.inr (.inr (.inl e)))
    · exact hn (.inr (.inr (.inr (.inl g))))
    · exact nn k hk (fun e => hn (.inr (.inr (.inr (.inr (.inl e)))))) g
    · exact hn (.inr (.inr (.inr (.inr (.inr g)))))
  have lAv : v.ownBlock ≠ some A := fun e => h.nA (.inr (.inr (.inr (.inr (.inl e)))))
  have lBv : v.ownBlock ≠ some B := fun e => h.nB (.inr (.inr (.inr (.inr (.inl e)))))
  have nK : ∀ k, K k = true → v.ownBlock ≠ some k := fun k g e => by rw [h.kn.b5 k e] at g; cases g
  have nKn : ∀ k, K k = true → k ≠ nb := fun k g e => by rw [e, h.kn.b1] at g; cases g
  refine ⟨a', c', w', hr, ?_, ?_, hF, hnew, ?_⟩
  · exact cellN hblk' 8
  · simp [World.frozen?, hblk']
  refine ⟨⟨mask_on (mask_on h.kn.ww hF.size (fun k hl g => hF.block k hl (nK k g))) hS.size (fun k hl g => hS.block k hl (nKn k g)), hbel.trans (hS.below hbel.size (fun k e => by subst e; exact h.kn.lo _ (.inl rfl))), ?_, ?_, ?_, ?_, hlo, fun k g => Nat.lt_of_lt_of_le (h.kn.kl k g) (Nat.le_trans hF.size hS.size), h.kn.a1, h.kn.a2, h.kn.a3, h.kn.a4, h.kn.a5, nn nb lnb h.kn.a6, nn cb lcb h.kn.a7, nn rb lrb h.kn.a8, fun k g hg => ?_, h.kn.b1, h.kn.b2, h.kn.b3, h.kn.b4, fun k g => ?_, h.kn.hf, h.kn.s0, h.kn.s1⟩, ?_, ?_, ?_, hnF A lA' h.nA, hnF B lB' h.nB, h.lA, h.lB⟩
  · rw [heap_setCell_same w' nb 8 _ _ _ hblk']
    rfl
  · exact ((h.kn.ck.keep hF.toC h.kn.a7 h.kn.a8)).keep hS.toC (fun e => h.kn.a1 e.symm) (fun e => h.kn.a2 e.symm)
  · exact (h.kn.qu.keep hF.toQ (fun k g e => h.kn.a9 k e g)).keep hS.toQ (fun k g e => by subst e; exact h.kn.a3 g)
  · have e1 : (x.lg ++ [d]).length = x.lg.length + 1 := by simp
    show World.ownsRow _ _ _ _ _ (x.lg ++ [d]).length _
    rw [e1]
    exact own_keep hro hS (fun k g e => by subst e; exact nn k lnb h.kn.a6 g)
  · rcases hnew k g with e | e
    · exact h.kn.a9 k e hg
    · have := h.kn.qu.lt k hg; omega
  · rcases hnew k g with e | e
    · exact h.kn.b5 k e
    · cases hK : K k
      · rfl
      · have := h.kn.kl k hK; omega
  · refine ⟨(h.st.1.trans hF (fun k hk g => ?_)).trans hS (fun k hk e => ?_), ?_⟩
    · rcases h.st.2 k (.inr (.inr (.inr (.inr (.inl g))))) with e | e
      · exact e
      · omega
    · subst e
      rcases h.st.2 k (.inl rfl) with e | e
      · exact e
      · omega
    · rintro k (e | e | e | g | g | g)
      · exact h.st.2 k (.inl e)
      · exact h.st.2 k (.inr (.inl e))
      · exact h.st.2 k (.inr (.inr (.inl e)))
      · exact h.st.2 k (.inr (.inr (.inr (.inl g))))
      · rcases hnew k g with e | e
        · exact h.st.2 k (.inr (.inr (.inr (.inr (.inl e)))))
        · exact .inr (by have := h.st.1.size; omega)
      · exact h.st.2 k (.inr (.inr (.inr (.inr (.inr g)))))
  · exact (hS.block A (Nat.lt_of_lt_of_le lA' hF.size) (fun e => h.nA (.inl e))).trans ((hcl A lA' lAv).trans h.bA)
  · exact (hS.block B (Nat.lt_of_lt_of_le lB' hF.size) (fun e => h.nB (.inl e))).trans ((hcl B lB' lBv).trans h.bB)
/-- Safe, in the world behind the answer's block. -/
theorem knsafe0 {w0 : World} {D : Wd} {f : Nat} {x : Nd} {nb cb rb qb : Nat} {G : Nat → Prop} {v : Value} {K : Nat → Bool} {w : World} (h : KN w0 D f x nb cb rb qb G v K w) :
    Calls Tryz.prog 18 #[.pointer (some ⟨nb, 0, none⟩)] (w.alloc (.cells #[.int .i64 0, .int .i64 0, .int .i64 0, .int .i64 0, .int .i64 0, .int .i64 0, .int .i64 0] 46)) fun en w' => en = .returned (.bool (safe D f x)) ∧ w'.heap[w.heap.size]? = some (.cells (dcs zeroD) 46 (0, 0)) ∧ Below w.heap.size w w' ∧ w.heap.size < w'.heap.size := by
  have hb0 := al w (.cells (dcs zeroD) 46)
  have hx : (w.alloc (.cells (dcs zeroD) 46)).heap[w.heap.size]? = some (.cells (dcs zeroD) 46 (0, 0)) := (MapKept.heap_alloc w _).1
  have hsz : (w.alloc (.cells (dcs zeroD) 46)).heap.size = w.heap.size + 1 := by simp
  exact (knsafe (h.below hb0)).mono fun en w' ⟨he, hb⟩ => ⟨he, (hb.block _ (by omega)).trans hx, hb0.trans (hb.mono hb0.size), by have := hb.size; omega⟩
set_option maxHeartbeats 2000000 in
theorem knstep_idle {w0 : World} {D : Wd} {f : Nat} {x : Nd} {nb cb rb qb : Nat} {G : Nat → Prop} {v : Value} {K : Nat → Bool} {w : World} (h : KN w0 D f x nb cb rb qb G v K w) (hs : safe D f x = false) :
    Calls Tryz.prog 13 #[.pointer (some ⟨nb, 0, none⟩)] w fun en w' => en = .returned (.tuple #[dv zeroD, .slice none 0 0, .int .i64 150]) ∧ Below w.heap.size w w' := by
  have SF := knsafe0 h
  rw [hs] at SF
  clear h hs
  go_enter Tryz.func13, Tryz.ntmps13
  go_wp2_with (go_at_call 18; refine SF.mono ?_; rintro en w3 ⟨rfl, bx, hb, hlt⟩; obtain ⟨t0, t1, t2, t3, t4, t5, t6, tf⟩ := dn_cells bx; dsimp only [zeroD] at t0 t1 t2 t3 t4 t5 t6; have HB : Hid _ := hb; have BX : Hid _ := bx; clear bx hb SF)
  generalize hwf : World.setCell _ _ _ = WF
  have hWF : WF = set7 w3 w.heap.size zeroD := hwf.symm
  have hFF := set7_heap (W := w3) (z := zeroD) BX.out zeroD
  have hbl := set7_below HB.out (A := w.heap.size) (Nat.le_refl _) zeroD
  rw [← hWF] at hFF hbl
  obtain ⟨m0, m1, m2, m3, m4, m5, m6, _⟩ := dn_cells hFF
  dsimp only [zeroD] at m0 m1 m2 m3 m4 m5 m6
  exact bodyPost_ret (v := .tuple #[dv zeroD, .slice none 0 0, .int .i64 150]) (by simp [results, Tryz.results13, go_sem, m0, m1, m2, m3, m4, m5, m6, zeroD]) rfl ⟨rfl, hbl⟩
/-- Pop, in the middle of a step. -/
theorem knpop {w0 : World} {D : Wd} {f : Nat} {x : Nd} {nb cb rb qb : Nat} {G : Nat → Prop} {v : Value} {K : Nat → Bool} {w : World} (h : KN w0 D f x nb cb rb qb G v K w) {T b c d e g : Int} (hh : x.q.headD Q.zeroM = ((T, b, c), d, e, g)) (he : x.q.isEmpty = false) (W : World) (hb : Below w.heap.size w W) (hA : W.heap[w.heap.size]? = some (.cells (dcs zeroD) 46 (0, 0))) (hlt : w.heap.size < W.heap.size) :
    Calls Tryz.prog 42 #[.pointer (some ⟨qb, 0, none⟩)] W fun en w' => en = .returned (.tuple #[.agg (mc6 T b c d e g), .bool true]) ∧ ∃ G2, Mn w0 w D f { x with q := x.q.tail } nb cb rb qb G G2 v v K w.heap.size w'.heap.size (mc6 T b c d e g) (w'.alloc (.cells (mc6 T b c d e g) 39)) ∧ (∀ k, G2 k → k < w'.heap.size) ∧ w.heap.size < w'.heap.size := by
  have hr := h.below hb
  have C := Q.qpop_any hr.qu
  rw [hh, he] at C
  refine C.mono fun en w' ⟨hen, G2, hq, hs⟩ => ⟨hen, G2, ?_, fun k g => hq.lt k g, Nat.lt_of_lt_of_le hlt hs.1.size⟩
  obtain ⟨r1, r2, r3⟩ := hr.quw hq hs
  have hlt' := h.lt
  have nA0 : ¬ FK nb cb rb G v K w.heap.size := fun g => by have := hlt' _ g; omega
  have hbx := al w' (.cells (mc6 T b c d e g) 39)
  have hsz := hs.1.size
  have hszb := hb.size
  refine ⟨r1.below hbx, ⟨((Fr.of_below hb).then r2).then (Fr.of_below hbx), fun k g => ?_⟩, ?_, (MapKept.heap_alloc w' _).1, fun g => ?_, fun g => ?_, Nat.le_refl _, by omega⟩
  · rcases r3 k g with e | e
    · exact .inl e
    · exact .inr (by omega)
  · exact (hbx.block _ (by omega)).trans ((r2.block _ hlt nA0).trans hA)
  · rcases r3 _ g with e | e
    · exact nA0 e
    · omega
  · have := r1.lt _ g; omega
/-- The table's Step, in the middle of a step. -/
theorem mn_step {w0 w : World} {D : Wd} {f : Nat} {x : Nd} {nb cb rb qb : Nat} {G0 G : Nat → Prop} {v0 v : Value} {K : Nat → Bool} {A B : Nat} {z : Array Value} {W : World} (h : Mn w0 w D f x nb cb rb qb G0 G v0 v K A B z W) (s cl : Int) :
    Calls Tryz.prog 43 #[.slice (nthF D.fs f).ra (nthF D.fs f).rs.length (nthF D.fs f).rc, .int .i64 s, .int .i64 cl] W fun en w' => ∃ a' c', en = .returned (.tuple #[.int .i64 (stp (nthF D.fs f).rs s cl).1, .slice a' (stp (nthF D.fs f).rs s cl).2.length c']) ∧ w'.ownsRow W.heap.size 104 3 (.slice a' (stp (nthF D.fs f).rs s cl).2.length c') (stp (nthF D.fs f).rs s cl).2.length (flatO (stp (nthF D.fs f).rs s cl).2) ∧ Mn w0 w D f x nb cb rb qb G0 G v0 v K A B z w' ∧ W.heap.size ≤ w'.heap.size := by
  obtain ⟨h1, h2⟩ := stp_three h.kn.wd h.kn.hf
  exact (step_any W _ _ _ s cl h1 h2).mono fun en w' ⟨a', c', he, hr⟩ => ⟨a', c', he, hr.1, h.on hr.2, hr.2.size⟩
/-- Spread, in the middle of a step. -/
theorem mn_spread {w0 w : World} {D : Wd} {f : Nat} {x : Nd} {nb cb rb qb : Nat} {G0 G : Nat → Prop} {v0 v : Value} {K : Nat → Bool} {A B : Nat} {z : Array Value} {W : World} (h : Mn w0 w D f x nb cb rb qb G0 G v0 v K A B z W) (T g : Int) {a : Option Addr} {cp : Nat} {os : List O} (hs : RdO W a os) (hl : os.length ≤ 20) :
    Calls Tryz.prog 45 #[wv D, .int .i64 f, .int .i64 x.sn, .int .i64 T, .int .i64 g, .slice a os.length cp] W fun en w' => ∃ vm, en = .returned vm ∧ w'.ownsRow W.heap.size 39 6 vm (spr D f x.sn T g os).length (flatM (spr D f x.sn T g os)) ∧ Mn w0 w D f x nb cb rb qb G0 G v0 v K A B z w' ∧ W.heap.size ≤ w'.heap.size :=
  (spread_any W D f x.sn T g a cp os h.kn.wd hs hl h.kn.s0 (by have := h.kn.s1; omega)).mono fun en w' ⟨vm, he, hr⟩ => ⟨vm, he, hr.1, h.on hr.2, hr.2.size⟩
end Go.Proofs.YtadmojehemdoaaaGreat
/- Proved: the contract of the program's Step where it may go on. -/
namespace Go.Proofs.YtadmojehemdoaaaGreat
open Go.RowKit Go.Shelf
set_option linter.unusedVariables false
set_option maxRecDepth 100000

set_option maxHeartbeats 8000000 in
theorem knstep_go {w0 : World} {D : Wd} {f : Nat} {x : Nd} {nb cb rb qb : Nat} {G : Nat → Prop} {v : Value} {K : Nat → Bool} {w : World} (h : KN w0 D f x nb cb rb qb G v K w) (hs : safe D f x = true) (hsn : x.sn ≤ 900000) (hl : x.lg.length ≤ 10000) :
    Calls Tryz.prog 13 #[.pointer (some ⟨nb, 0, none⟩)] w fun en w' => ∃ va vc G2 v2, en = .returned (.tuple #[dv (spD D f x), .slice va (spM D f x).length vc, .int .i64 0]) ∧ w'.ownsRow w.heap.size 39 6 (.slice va (spM D f x).length vc) (spM D f x).length (flatM (spM D f x)) ∧ (∀ k, (Value.slice va (spM D f x).length vc).ownBlock = some k → ¬ FK nb cb rb G2 v2 K k) ∧ KN w0 D f (spN D f x) nb cb rb qb G2 v2 K w' ∧ StN (FK nb cb rb G v K) (FK nb cb rb G2 v2 K) w w' := by
  have SF := knsafe0 h
  rw [hs] at SF
  have he : x.q.isEmpty = false := by
    unfold safe at hs
    cases g : x.q.isEmpty
    · rfl
    · rw [g] at hs; simp at hs
  obtain ⟨m, hm⟩ : ∃ m, x.q.headD Q.zeroM = m := ⟨_, rfl⟩
  have hhd : hd x = m := hm
  obtain ⟨⟨T, b, c⟩, d, e, g⟩ := m
  have POP := knpop h hm he
  obtain ⟨F, hF⟩ : ∃ F, nthF D.fs f = F := ⟨_, rfl⟩
  obtain ⟨x1, hx1⟩ : ∃ x1 : Nd, { x with q := x.q.tail } = x1 := ⟨_, rfl⟩
  have hst1 : x1.st = x.st := by rw [← hx1]
  have hsn1 : x1.sn = x.sn := by rw [← hx1]
  have hlg1 : x1.lg = x.lg := by rw [← hx1]
  obtain ⟨P, hP⟩ : ∃ P, stp F.rs x.st e = P := ⟨_, rfl⟩
  obtain ⟨s1, os⟩ := P
  have hos : os.length ≤ 20 := by
    have := stp_len (stp_three h.wd h.hf).2 x.st e
    rw [hF, hP] at this
    exact this
  have hspS : spS D f x = (s1, os) := by unfold spS; rw [hhd, hF]; exact hP
  have hspD : spD D f x = ⟨⟨T, b, c, d, e, g⟩, s1⟩ := by unfold spD; rw [hspS, hhd]; rfl
  have hspM : spM D f x = spr D f x.sn T g os := by unfold spM; rw [hspS, hhd]
  have hspN : spN D f x = { x with st := s1, sn := x.sn + os.length, q := x.q.tail, lg := x.lg ++ [⟨⟨T, b, c, d, e, g⟩, s1⟩] } := by unfold spN; rw [hspS, hspD]
  have HPOP : Hid (∀ W, Below w.heap.size w W → W.heap[w.heap.size]? = some (.cells (dcs zeroD) 46 (0, 0)) → w.heap.size < W.heap.size → Calls Tryz.prog 42 #[.pointer (some ⟨qb, 0, none⟩)] W fun en w' => en = .returned (.tuple #[.agg (mc6 T b c d e g), .bool true]) ∧ ∃ G2, Mn w0 w D f x1 nb cb rb qb G G2 v v K w.heap.size w'.heap.size (mc6 T b c d e g) (w'.alloc (.cells (mc6 T b c d e g) 39)) ∧ (∀ k, G2 k → k < w'.heap.size) ∧ w.heap.size < w'.heap.size) := by rw [← hx1]; exact POP
  have HN7 : Hid (∀ W, Below w.heap.size w W → W.cell? ⟨nb, 1, none⟩ = some (.pointer (some ⟨qb, 0, none⟩)) ∧ nb < W.heap.size) := fun W hb => ⟨(h.below hb).cells.2.1, (h.below hb).lt nb (.inl rfl)⟩
  obtain ⟨L, hL⟩ : ∃ L, spr D f x.sn T g os = L := ⟨_, rfl⟩
  rw [hspD, hspM, hspN, hL]
  have HLL : Hid _ := hL
  clear hL
  have Hx1 : Hid _ := hx1
  have HltF : Hid _ := h.lt
  have HW0 : Hid (w0.heap.size ≤ w.heap.size) := h.bel.size
  have hfd : ∀ w : World, (Instr.field 71 (.agg #[.int .i64 F.kd, .int .i64 F.lk, .int .i64 F.st, .slice F.ra F.rs.length F.rc, .slice F.pa F.ps.length F.pc, .slice F.sa F.ss.length F.sc, .slice F.ia F.is.length F.ic]) 3).run Tryz.prog w = .ok (.slice F.ra F.rs.length F.rc) w := fun _ => by kernel_rfl
  simp only [mc6] at HPOP
  clear POP hm hhd hspS hspD hspM hspN hx1 h he hs
  go_enter Tryz.func13, Tryz.ntmps13
  go_wp2_with (first
    | (go_at_call 18; refine SF.mono ?_; rintro en w2 ⟨rfl, bx, hb2, hlt2⟩; obtain ⟨n7, lnb⟩ := Hid.out HN7 _ hb2; have HB2 : Hid _ := And.intro hb2 (And.intro bx hlt2); clear bx hb2 SF)
    | (go_at_call 42; refine (Hid.out HPOP _ (Hid.out HB2).1 (Hid.out HB2).2.1 (Hid.out HB2).2.2).mono ?_; rintro en w3 ⟨rfl, G2, hM3, hG2, hlt3⟩; have HM3 : Hid _ := hM3; have HG2 : Hid _ := hG2; obtain ⟨⟨y1, y2, y3, y4, y5, y6, y7, y8⟩, z0, z1, z2, z3, z4, z5⟩ := hM3.reads; clear hM3 hG2 HPOP))
  obtain ⟨W4, hW4⟩ : ∃ W4, W4 = w3.alloc (.cells #[.int .i64 T, .int .i64 b, .int .i64 c, .int .i64 d, .int .i64 e, .int .i64 g] 39) := ⟨_, rfl⟩
  obtain ⟨B, hB⟩ : ∃ B, w3.heap.size = B := ⟨_, rfl⟩
  try simp only [mc6] at HM3
  rw [← hW4, hB] at HM3
  rw [← hW4] at y1 y2 y3 y4 y5 y6 y7 y8 z0 z1 z2 z3 z4 z5 ⊢
  rw [hB] at z0 z1 z2 z3 z4 z5 HG2 hlt3
  try simp only [hB]
  have hB4 : B < W4.heap.size := by rw [hW4, ← hB]; simp
  rw [hst1] at y6
  rw [hsn1] at y7
  clear hW4 hB n7 lnb HN7 HB2
  have HFE : Hid (Calls Tryz.prog 44 #[.pointer (some ⟨nb, 0, none⟩)] W4.drew fun e w' => e = .returned (.agg #[.int .i64 F.kd, .int .i64 F.lk, .int .i64 F.st, .slice F.ra F.rs.length F.rc, .slice F.pa F.ps.length F.pc, .slice F.sa F.ss.length F.sc, .slice F.ia F.is.length F.ic]) ∧ Below W4.heap.size W4 w') := by
    have := knfed (HM3.out.on (below_drew W4)).kn
    rw [hF] at this
    exact this.mono fun e w' ⟨h1, h2⟩ => ⟨h1, ⟨h2.os, h2.tape, h2.output, h2.size, h2.block⟩⟩
  have HST : Hid (∀ w4, Below W4.heap.size W4 w4 → Calls Tryz.prog 43 #[.slice F.ra F.rs.length F.rc, .int .i64 x.st, .int .i64 e] w4 fun en w' => ∃ a' c', en = .returned (.tuple #[.int .i64 s1, .slice a' os.length c']) ∧ w'.ownsRow W4.heap.size 104 3 (.slice a' os.length c') os.length (flatO os) ∧ Mn w0 w D f x1 nb cb rb qb G G2 v v K w.heap.size B (mc6 T b c d e g) w' ∧ W4.heap.size ≤ w'.heap.size) := fun w4 hb => by
    have := mn_step (HM3.out.on hb) x.st e
    rw [hF, hP] at this
    refine this.mono fun en w' ⟨a', c', h1, h2, h3, h4⟩ => ⟨a', c', h1, ⟨h2.1, ?_⟩, h3, Nat.le_trans hb.size h4⟩
    rcases h2.2 with g | ⟨g, cap, cur, q1, q2, q3, q4⟩
    · exact .inl g
    · exact .inr ⟨g, cap, cur, q1, Nat.le_trans hb.size q2, q3, q4⟩
  have HKP : Hid (∀ w4, Below W4.heap.size W4 w4 → w4.cell? ⟨nb, 6, none⟩ = some (.int .i64 x.st) ∧ w4.cell? ⟨B, 4, none⟩ = some (.int .i64 e)) := fun w4 hb => by
    have hr := (HM3.out.on hb).reads
    exact ⟨hr.1.2.2.2.2.2.1.trans (by rw [hst1]), hr.2.2.2.2.2.1⟩
  go_region_held3 (fun w' => w'.cell? ⟨nb, 6, none⟩ = some (.int .i64 x.st) ∧ w'.cell? ⟨B, 4, none⟩ = some (.int .i64 e)) (first | (go_keep; done) | exact Hid.out KEEP2 | exact Hid.out KEEP) (first
    | (go_at_call 44; refine (Hid.out HFE).mono ?_; rintro en w4 ⟨rfl, b4⟩; have HB4 : Hid _ := b4; have KEEP : Hid _ := Hid.out HKP _ b4; clear b4 HFE)
    | (go_at_call 43; refine (Hid.out HST _ (Hid.out HB4)).mono ?_; rintro en w5 ⟨a1, c1, rfl, hro, hM5, hsz5⟩; have HRO : Hid _ := hro; have HM5 : Hid _ := hM5; obtain ⟨⟨p1, p2, p3, p4, p5, p6, p7, p8⟩, q0, q1, q2, q3, q4, q5⟩ := hM5.reads; have KEEP2 : Hid _ := And.intro (p6.trans (by rw [hst1])) q4; clear hro hM5 HST))
  clear KEEP KEEP2 y1 y2 y3 y4 y5 y6 y7 y8 z0 z1 z2 z3 z4 z5 HM3 HKP HB4
  rw [hsn1] at p7
  rw [hst1] at p6
  have hB5 : B < w5.heap.size := by omega
  have HSP : Hid (Calls Tryz.prog 45 #[.agg #[.slice D.pa D.ps.length D.pc, .slice D.fa D.fs.length D.fc, .int .i64 D.en], .int .i64 f, .int .i64 x.sn, .int .i64 T, .int .i64 g, .slice a1 os.length c1] w5.drew fun en w' => ∃ va vc, en = .returned (.slice va L.length vc) ∧ w'.ownsRow w5.heap.size 39 6 (.slice va L.length vc) L.length (flatM L) ∧ Mn w0 w D f x1 nb cb rb qb G G2 v v K w.heap.size B (mc6 T b c d e g) w' ∧ w5.heap.size ≤ w'.heap.size) := by
    have := mn_spread (HM5.out.on (below_drew w5)) T g (own_rdO (own_below HRO.out (below_drew w5))) hos (cp := c1)
    rw [hsn1, HLL.out] at this
    refine this.mono fun en w' ⟨vm, h1, h2, h3, h4⟩ => ?_
    obtain ⟨va, vc, rfl⟩ := shape_of h2
    exact ⟨va, vc, h1, h2, h3, h4⟩
  go_wp2
  go_region_held3 (fun w' => w'.cell? ⟨nb, 2, none⟩ = some (.slice D.pa D.ps.length D.pc) ∧ w'.cell? ⟨nb, 3, none⟩ = some (.slice D.fa D.fs.length D.fc) ∧ w'.cell? ⟨nb, 4, none⟩ = some (.int .i64 D.en) ∧ w'.cell? ⟨nb, 5, none⟩ = some (.int .i64 f) ∧ w'.cell? ⟨nb, 7, none⟩ = some (.int .i64 x.sn) ∧ w'.cell? ⟨B, 0, none⟩ = some (.int .i64 T) ∧ w'.cell? ⟨B, 5, none⟩ = some (.int .i64 g)) (first | (go_keep; done) | exact Hid.out KEEP) (first
    | (go_at_call 45; refine (Hid.out HSP).mono ?_; rintro en w7 ⟨va, vc, rfl, hrm, hM7, hsz7⟩; have HRM : Hid _ := hrm; have HM7 : Hid _ := hM7; obtain ⟨⟨y1, y2, y3, y4, y5, y6, y7, y8⟩, z0, z1, z2, z3, z4, z5⟩ := hM7.reads; have KEEP : Hid _ := And.intro y2 (And.intro y3 (And.intro y4 (And.intro y5 (And.intro (y7.trans (by rw [hsn1])) (And.intro z0 z5))))); clear hrm hM7 HSP))
  clear KEEP p1 p2 p3 p4 p5 p6 p7 p8 q0 q1 q2 q3 q4 q5 HM5
  rw [hsn1] at y7
  have hs0 : 0 ≤ x.sn := by have := HM7.out.kn.s0; rw [hsn1] at this; exact this
  have hos' : (os.length : Int) ≤ 20 := by omega
  obtain ⟨n2, hn2⟩ : ∃ n2, x.sn + (os.length : Int) = n2 := ⟨_, rfl⟩
  have lnbW : nb < w.heap.size := HltF.out nb (.inl rfl)
  obtain ⟨dd, hdd⟩ : ∃ dd : Dn, dd = ⟨⟨T, b, c, d, e, g⟩, s1⟩ := ⟨_, rfl⟩
  have hdc : (#[.int .i64 T, .int .i64 b, .int .i64 c, .int .i64 d, .int .i64 e, .int .i64 g, .int .i64 s1] : Array Value) = dcs dd := by rw [hdd]
  obtain ⟨CB, hCB⟩ : ∃ CB, w7.heap.size = CB := ⟨_, rfl⟩
  obtain ⟨W8, hW8⟩ : ∃ W8, w7.alloc (.cells #[.int .i64 T, .int .i64 b, .int .i64 c, .int .i64 d, .int .i64 e, .int .i64 g, .int .i64 s1] 46) = W8 := ⟨_, rfl⟩
  have hsz8 : W8.heap.size = CB + 1 := by rw [← hW8, ← hCB]; simp
  have hb78 : Below w7.heap.size w7 W8 := by rw [← hW8]; exact al w7 _
  have hbx8 : W8.heap[CB]? = some (.cells (dcs dd) 46 (0, 0)) := by rw [← hW8, ← hCB, hdc]; exact (MapKept.heap_alloc w7 _).1
  have HM8 : Hid (Mn w0 w D f x1 nb cb rb qb G G2 v v K w.heap.size B (mc6 T b c d e g) W8) := HM7.out.on hb78
  obtain ⟨W9, hW9⟩ : ∃ W9, W8.setCell ⟨nb, 6, none⟩ (.int .i64 s1) = W9 := ⟨_, rfl⟩
  have HM9 : Hid (Mn w0 w D f { x1 with st := s1, sn := x1.sn } nb cb rb qb G G2 v v K w.heap.size B (mc6 T b c d e g) W9) := by
    rw [← hW9]
    exact HM8.out.own rfl HM8.out.kn.s0 HM8.out.kn.s1
  obtain ⟨x2, hx2⟩ : ∃ x2 : Nd, { x1 with st := s1, sn := x1.sn } = x2 := ⟨_, rfl⟩
  rw [hx2] at HM9
  have hsn2 : x2.sn = x.sn := by rw [← hx2]; exact hsn1
  have hlg2 : x2.lg = x.lg := by rw [← hx2]; exact hlg1
  have Hx2 : Hid _ := hx2
  obtain ⟨W10, hW10⟩ : ∃ W10, W9.setCell ⟨nb, 7, none⟩ (.int .i64 n2) = W10 := ⟨_, rfl⟩
  have HM10 : Hid (Mn w0 w D f { x2 with st := x2.st, sn := n2 } nb cb rb qb G G2 v v K w.heap.size B (mc6 T b c d e g) W10) := by
    rw [← hW10]
    exact HM9.out.own rfl (by omega) (by omega)
  obtain ⟨x3, hx3⟩ : ∃ x3 : Nd, { x2 with st := x2.st, sn := n2 } = x3 := ⟨_, rfl⟩
  rw [hx3] at HM10
  have hlg3 : x3.lg = x.lg := by rw [← hx3]; exact hlg2
  have Hx3 : Hid _ := hx3
  have f8a := HM8.out.kn.froz 6
  have f9a := HM9.out.kn.froz 7
  have g6 := HM8.out.kn.cells.2.2.2.2.2.2.1
  rw [hst1] at g6
  have g7 := HM9.out.kn.cells.2.2.2.2.2.2.2.1
  rw [hsn2] at g7
  have hnbC : ¬ nb = CB := by have := HM7.out.kn.lt nb (.inl rfl); omega
  have hCnb : ¬ CB = nb := fun e => hnbC e.symm
  have lnb8 : nb < W8.heap.size := by have := HM7.out.kn.lt nb (.inl rfl); omega
  have lnb9 : nb < W9.heap.size := by rw [← hW9]; simpa using lnb8
  have hszw : w.heap.size ≤ CB := by have := HM7.out.st.1.size; omega
  have HDC : Hid _ := hdc
  have HDD : Hid _ := hdd
  clear hx2 hx3 hdc hdd
  go_wp2
  have hs9 : W9.heap.size = W8.heap.size := by rw [← hW9]; simp
  have hs10 : W10.heap.size = CB + 1 := by rw [← hW10]; simp; omega
  have hbx10 : W10.heap[CB]? = some (.cells (dcs dd) 46 (0, 0)) := by
    rw [← hW10]
    refine ((frN W9 nb 7 (.int .i64 n2)).block CB (by omega) hCnb).trans ?_
    rw [← hW9]
    exact ((frN W8 nb 6 (.int .i64 s1)).block CB (by omega) hCnb).trans hbx8
  have hM10 : Mn w0 w D f x3 nb cb rb qb G G2 v v K w.heap.size B (mc6 T b c d e g) W10.drew := HM10.out.on (below_drew W10)
  obtain ⟨a', c', w11, hrun, hc8, hf8, hF11, hnw, hM12⟩ := hM10.log dd (by rw [hlg3]; omega) 56
  obtain ⟨n1, hvn⟩ : ∃ n1, x3.lg.length + 1 = n1 := ⟨_, rfl⟩
  rw [hvn] at hrun hM12 hnw
  have HNW : Hid (∀ k, (Value.slice a' n1 c').ownBlock = some k → v.ownBlock = some k ∨ W10.heap.size < k) := hnw
  clear hnw
  obtain ⟨W12, hW12⟩ : ∃ W12, w11.setCell ⟨nb, 8, none⟩ (.slice a' n1 c') = W12 := ⟨_, rfl⟩
  rw [hW12] at hM12
  have hrun' : (Builtin.append_ #[56, 56] 56 #[v, .slice (some ⟨W10.heap.size, 0, none⟩) 1 1]).run Tryz.prog (W10.alloc (.cells #[.int .i64 T, .int .i64 b, .int .i64 c, .int .i64 d, .int .i64 e, .int .i64 g, .int .i64 s1] 46)).drew = .ok (.slice a' n1 c') w11 := by
    rw [HDC.out]
    exact hrun
  have HRUN : Hid _ := hrun'
  have hsz11 : W10.heap.size ≤ w11.heap.size := hF11.size
  have hsz12 : w11.heap.size = W12.heap.size := by rw [← hW12]; simp
  have lv : ∀ k, v.ownBlock = some k → k < w.heap.size := fun k g => HltF.out k (.inr (.inr (.inr (.inr (.inl g)))))
  have hbx12 : W12.heap[CB]? = some (.cells (dcs dd) 46 (0, 0)) := by
    rw [← hW12]
    refine ((frN w11 nb 8 (.slice a' n1 c')).block _ (by omega) hCnb).trans ((hF11.block _ (by show _ < W10.heap.size; omega) (fun g => by have := lv _ g; omega)).trans hbx10)
  obtain ⟨t0, t1, t2, t3, t4, t5, t6, tf⟩ := dn_cells hbx12
  obtain ⟨u0, u1, u2, u3, u4, u5, u6, uf⟩ := dn_cells hM12.bA
  rw [HDD.out] at t0 t1 t2 t3 t4 t5 t6
  dsimp only [zeroD] at t0 t1 t2 t3 t4 t5 t6 u0 u1 u2 u3 u4 u5 u6
  have k10 : W10.cell? ⟨nb, 8, none⟩ = some v := hM10.kn.cells.2.2.2.2.2.2.2.2
  obtain ⟨j0, j1, j2, j3, j4, j5, j6, jf⟩ := dn_cells hbx10
  rw [HDD.out] at j0 j1 j2 j3 j4 j5 j6
  dsimp only at j0 j1 j2 j3 j4 j5 j6
  have hA12 : w.heap.size < W12.heap.size := by omega
  have hC12 : CB < W12.heap.size := by omega
  have hC10 : CB < W10.heap.size := by omega
  have lnb10 : nb < W10.heap.size := by omega
  have nA1 : ¬ w.heap.size = CB := by have := HM7.out.st.1.size; have := HM7.out.lB; have := (Array.getElem?_eq_some_iff.1 HM7.out.bB).1; omega
  have nA2 : ¬ CB = w.heap.size := fun e => nA1 e.symm
  have HM12 : Hid _ := hM12
  have HRM12 : Hid (W12.ownsRow w.heap.size 39 6 (.slice va L.length vc) L.length (flatM L) ∧ ∀ k, (Value.slice va L.length vc).ownBlock = some k → B < k ∧ k < CB) := by
    have hk : ∀ k, (Value.slice va L.length vc).ownBlock = some k → B < k ∧ k < CB := fun k g => by
      have h1 := own_lt HRM.out g
      omega
    refine ⟨?_, hk⟩
    have h8 := own_below HRM.out hb78
    have h9 := own_keep h8 (frN W8 nb 6 (.int .i64 s1)) (fun k g e => by have := hk k g; omega)
    rw [hW9] at h9
    have h10 := own_keep h9 (frN W9 nb 7 (.int .i64 n2)) (fun k g e => by have := hk k g; omega)
    rw [hW10] at h10
    have h11 := own_keep (own_below h10 (below_drew W10)) hF11 (fun k g g2 => by have := hk k g; have := lv k g2; omega)
    have h12 := own_keep h11 (frN w11 nb 8 (.slice a' n1 c')) (fun k g e => by have := hk k g; omega)
    rw [hW12] at h12
    refine ⟨h12.1, ?_⟩
    rcases h12.2 with g | ⟨g, cap, cur, e1, e2, e3, e4⟩
    · exact .inl g
    · exact .inr ⟨g, cap, cur, e1, by omega, e3, e4⟩
  have HSZ : Hid _ := And.intro hs10 (And.intro hsz11 hsz12)
  clear hM10 hM12 hrun hrun' hbx10 hbx12 hvn hF11 hbx8 hW9 hW10 hW8 hs9 hs10 hsz8 hsz12 hsz11 HRM HM7 HM8 HM9 HM10 g6 g7 f8a f9a y1 y2 y3 y4 y5 y6 y7 y8 z0 z1 z2 z3 z4 z5 hb78
  go_region_law (refine step_append_run rfl (.tmp 75) (.tmp 77) 56 rfl (by simp [Act.eval]) (by simp [Act.eval]) HRUN.out ?_)
  all_goals
    go_wp2_with fail
    generalize hwf : World.setCell _ _ _ = WF
    have hWF : WF = set7 W12 w.heap.size ⟨⟨T, b, c, d, e, g⟩, s1⟩ := hwf.symm
    have hFF := set7_heap (W := W12) (z := zeroD) HM12.out.bA ⟨⟨T, b, c, d, e, g⟩, s1⟩
    have hF7 := set7_fr (Fr.refl (fun k => k = w.heap.size) W12) (.inl rfl) (A := w.heap.size) ⟨⟨T, b, c, d, e, g⟩, s1⟩
    rw [← hWF] at hFF hF7
    obtain ⟨m0, m1, m2, m3, m4, m5, m6, _⟩ := dn_cells hFF
    dsimp only at m0 m1 m2 m3 m4 m5 m6
    refine bodyPost_ret (v := .tuple #[dv ⟨⟨T, b, c, d, e, g⟩, s1⟩, .slice va L.length vc, .int .i64 0]) (by simp [results, Tryz.results13, go_sem, m0, m1, m2, m3, m4, m5, m6]) rfl ⟨va, vc, G2, .slice a' n1 c', rfl, ?_, ?_, ?_, ?_⟩
    · exact own_keep HRM12.out.1 hF7 (fun k q e => by have := HRM12.out.2 k q; omega)
    · intro k q
      have hk := HRM12.out.2 k q
      have hsz := HSZ.out
      have hK := HM12.out.kn.kl k
      rintro (e | e | e | g2 | g2 | g2)
      · omega
      · have := HltF.out k (.inr (.inl e)); omega
      · have := HltF.out k (.inr (.inr (.inl e))); omega
      · have := HG2.out k g2; omega
      · rcases HNW.out k g2 with q2 | q2
        · have := lv k q2; omega
        · omega
      · have := HltF.out k (.inr (.inr (.inr (.inr (.inr g2))))); omega
    · have e4 : ({ x3 with lg := x3.lg ++ [dd] } : Nd) = { x with st := s1, sn := x.sn + os.length, q := x.q.tail, lg := x.lg ++ [⟨⟨T, b, c, d, e, g⟩, s1⟩] } := by
        have q1 := Hx1.out
        have q2 := Hx2.out
        have q3 := Hx3.out
        rw [HDD.out, ← q3, ← q2, ← q1]
        simp [← hn2]
      have := HM12.out.kn.keep hF7 (fun k g2 e => by subst e; exact HM12.out.nA g2) (fun k e => by have := HW0.out; omega)
      rw [e4] at this
      exact this
    · refine ⟨HM12.out.st.1.trans hF7 (fun k hk e => by omega), HM12.out.st.2⟩
end Go.Proofs.YtadmojehemdoaaaGreat
/- Proved: contracts of the program's New. -/
namespace Go.Proofs.YtadmojehemdoaaaGreat
open Go.RowKit Go.Shelf
set_option linter.unusedVariables false
set_option maxRecDepth 100000

theorem boxf7 {w : World} {D : Wd} (h : Ww w D) {f : Nat} (hf : f < D.fs.length) {F : Fd} (hF : nthF D.fs f = F) : ∃ fb off, D.fa = some ⟨fb, off, none⟩ ∧ ∀ W, Below w.heap.size w W → W.cell? ⟨fb, off + f * 7, none⟩ = some (.int .i64 F.kd) ∧ W.cell? ⟨fb, off + f * 7 + 1, none⟩ = some (.int .i64 F.lk) ∧ W.cell? ⟨fb, off + f * 7 + 2, none⟩ = some (.int .i64 F.st) ∧ W.cell? ⟨fb, off + f * 7 + 3, none⟩ = some (.slice F.ra F.rs.length F.rc) ∧ W.cell? ⟨fb, off + f * 7 + 4, none⟩ = some (.slice F.pa F.ps.length F.pc) ∧ W.cell? ⟨fb, off + f * 7 + 5, none⟩ = some (.slice F.sa F.ss.length F.sc) ∧ W.cell? ⟨fb, off + f * 7 + 6, none⟩ = some (.slice F.ia F.is.length F.ic) := by
  obtain ⟨fb, off, hfa, _⟩ := h.f.cells hf hF
  refine ⟨fb, off, hfa, fun W hb => ?_⟩
  obtain ⟨fb2, off2, e, _, hc⟩ := (h.below hb).f.cells hf hF
  rw [hfa] at e
  cases e
  exact hc

set_option maxHeartbeats 1000000 in
theorem knnew_err (w : World) (D : Wd) (f : Int) (h : Ww w D) {N E : Int} (hw : wldE D = (N, E)) (hE : E ≠ 0) :
    Calls Tryz.prog 9 #[wv D, .int .i64 f] w fun en w' => en = .returned (.tuple #[.pointer none, .int .i64 E]) ∧ Below w.heap.size w w' := by
  have BX := BoxW.new h
  have CK := wcheck_any _ D BX.ok
  rw [hw] at CK
  have c0 := BX.c0
  have c1 := BX.c1
  have c2 := BX.c2
  have hb0 : Hid _ := al w (.cells (wcs D) 25)
  have d0 : (E != 0) = true := by simpa using hE
  dsimp only [wv, wcs] at CK c0 c1 c2 hb0 ⊢
  clear BX hw hE
  go_enter Tryz.func9, Tryz.ntmps9
  go_wp2_with (go_at_call 30; refine CK.mono ?_; rintro en w2 ⟨rfl, b2⟩; have HB : Hid (Below w.heap.size w w2) := hb0.out.trans (b2.mono hb0.out.size); clear b2 CK)
  go_ret2
  exact ⟨rfl, HB.out⟩
set_option maxHeartbeats 2000000 in
theorem knnew_no (w : World) (D : Wd) (f : Int) (h : Ww w D) (hw : wldE D = (-1, 0)) (hf : ¬ (0 ≤ f ∧ f < D.fs.length ∧ (nthF D.fs f.toNat).kd = 0)) :
    Calls Tryz.prog 9 #[wv D, .int .i64 f] w fun en w' => en = .returned (.tuple #[.pointer none, .int .i64 1]) ∧ Below w.heap.size w w' := by
  have BX := BoxW.new h
  have CK := wcheck_any _ D BX.ok
  rw [hw] at CK
  obtain ⟨hn1, hn8⟩ := wld_n hw
  have HBX : Hid _ := BX
  have hb0 : Hid _ := al w (.cells (wcs D) 25)
  dsimp only [wcs] at HBX
  dsimp only [wv, wcs] at CK hb0 ⊢
  have c0 := HBX.out.c0
  have c1 := HBX.out.c1
  have c2 := HBX.out.c2
  by_cases h1 : ¬ (0 ≤ f ∧ f < (D.fs.length : Int))
  · have CN : Hid (∀ w2, Calls Tryz.prog 31 #[.int .i64 (D.fs.length : Int), .int .i64 f] w2 fun e w' => e = .returned (.tuple #[.pointer none, .int .i64 1]) ∧ w2 = w') := fun w2 => C.new_no w2 _ _ (fun g => h1 ⟨g.2.2.1, g.2.2.2⟩)
    clear BX hw hf h1
    go_enter Tryz.func9, Tryz.ntmps9
    go_wp2_with (first
      | (go_at_call 30; refine CK.mono ?_; rintro en w2 ⟨rfl, b2⟩; have HB : Hid (Below w.heap.size w w2) := hb0.out.trans (b2.mono hb0.out.size); have k1 := (HBX.out.below b2).c1; clear b2 CK)
      | (go_at_call 31; refine (Hid.out CN _).mono ?_; rintro en w3 ⟨rfl, rfl⟩; clear CN))
    go_ret2
    exact ⟨rfl, HB.out⟩
  have h1' : 0 ≤ f ∧ f < (D.fs.length : Int) := Classical.byContradiction h1
  obtain ⟨k, rfl⟩ := Int.eq_ofNat_of_zero_le h1'.1
  have hk : k < D.fs.length := by omega
  obtain ⟨F, hF⟩ : ∃ F, nthF D.fs k = F := ⟨_, rfl⟩
  obtain ⟨fb, off, hfa, hcs⟩ := boxf7 h hk hF
  have d1 : (F.kd != 0) = true := by
    have : ¬ F.kd = 0 := fun e => hf ⟨by omega, by omega, by rw [show ((k : Int)).toNat = k from rfl, hF]; exact e⟩
    simpa using this
  have hkI : (k : Int) < (D.fs.length : Int) := by omega
  have CN : Hid (∀ w2, Calls Tryz.prog 31 #[.int .i64 (D.fs.length : Int), .int .i64 (k : Int)] w2 fun e w' => ∃ p, e = .returned (.tuple #[.pointer p, .int .i64 0]) ∧ Below w2.heap.size w2 w') := fun w2 => (C.new_ok w2 _ _ hn1 hn8 hk).mono fun e w' ⟨he, _, hb⟩ => ⟨_, he, hb⟩
  have HCS : Hid _ := hcs
  rw [hfa] at CK c1
  have hb0' := hb0.out
  rw [hfa] at hb0' ⊢
  have HB0 : Hid _ := hb0'
  have HK1 : Hid (∀ w2, Below (w.alloc (.cells #[.slice D.pa D.ps.length D.pc, .slice D.fa D.fs.length D.fc, .int .i64 D.en] 25)).heap.size (w.alloc (.cells #[.slice D.pa D.ps.length D.pc, .slice D.fa D.fs.length D.fc, .int .i64 D.en] 25)) w2 → w2.cell? ⟨w.heap.size, 1, none⟩ = some (.slice D.fa D.fs.length D.fc)) := fun w2 b2 => (HBX.out.below b2).c1
  rw [hfa] at HK1
  clear BX hw hf hcs hF hb0 hb0' HBX h1 h1'
  go_enter Tryz.func9, Tryz.ntmps9
  go_wp2_with (first
    | (go_at_call 30; refine CK.mono ?_; rintro en w2 ⟨rfl, b2⟩; have hbb : Below w.heap.size w w2 := HB0.out.trans (b2.mono HB0.out.size); have HB : Hid _ := And.intro hbb b2; have k1 := Hid.out HK1 _ b2; clear b2 hbb CK)
    | (go_at_call 31; refine (Hid.out CN _).mono ?_; rintro en w3 ⟨p, rfl, b3⟩; have hb3 := (Hid.out HB).2.trans (b3.mono (Hid.out HB).2.size); have hbb3 := (Hid.out HB).1.trans (b3.mono (Hid.out HB).1.size); have HB3 : Hid _ := hbb3; have l1 := Hid.out HK1 _ hb3; obtain ⟨y0, y1, y2, y3, y4, y5, y6⟩ := Hid.out HCS _ hbb3; clear b3 hb3 hbb3 CN))
  go_ret2
  exact ⟨rfl, HB3.out.trans ((al w3 _).mono HB3.out.size)⟩

set_option maxHeartbeats 4000000 in
theorem knnew_ok (w : World) (D : Wd) (f : Nat) (h : Ww w D) (hw : wldE D = (-1, 0)) (hf : f < D.fs.length) (hkd : (nthF D.fs f).kd = 0) :
    Calls Tryz.prog 9 #[wv D, .int .i64 (f : Int)] w fun en w' => ∃ nb cb rb qb G K D', en = .returned (.tuple #[.pointer (some ⟨nb, 0, none⟩), .int .i64 0]) ∧ LikP f D' D ∧ KN w D' f (nd0 D f) nb cb rb qb G (.slice none 0 0) K w' := by
  have BX := BoxW.new h
  have CK := wcheck_any _ D BX.ok
  rw [hw] at CK
  obtain ⟨hn1, hn8⟩ := wld_n hw
  have HBX : Hid _ := BX
  have hb0 := al w (.cells (wcs D) 25)
  obtain ⟨F, hF⟩ : ∃ F, nthF D.fs f = F := ⟨_, rfl⟩
  obtain ⟨fb, off, hfa, hcs⟩ := boxf7 h hf hF
  rw [hF] at hkd
  have d1 : (F.kd != 0) = false := by simpa using hkd
  have hfI : (f : Int) < (D.fs.length : Int) := by omega
  have hn8I : (D.fs.length : Int) ≤ 8 := by omega
  have HK : Hid (∀ w2, Below (w.alloc (.cells (wcs D) 25)).heap.size (w.alloc (.cells (wcs D) 25)) w2 → Below w.heap.size w w2 ∧ w.heap.size < w2.heap.size ∧ w2.cell? ⟨w.heap.size, 0, none⟩ = some (.slice D.pa D.ps.length D.pc) ∧ w2.cell? ⟨w.heap.size, 1, none⟩ = some (.slice (some ⟨fb, off, none⟩) D.fs.length D.fc) ∧ w2.cell? ⟨w.heap.size, 2, none⟩ = some (.int .i64 D.en)) := fun w2 b2 => by
    have hb := HBX.out.below b2
    have hs : (w.alloc (.cells (wcs D) 25)).heap.size = w.heap.size + 1 := by simp
    refine ⟨hb0.trans (b2.mono hb0.size), by have := b2.size; omega, hb.c0, by rw [← hfa]; exact hb.c1, hb.c2⟩
  have HCS : Hid _ := hcs
  have HNC : Hid (∀ w2, Below (w.alloc (.cells (wcs D) 25)).heap.size (w.alloc (.cells (wcs D) 25)) w2 → Calls Tryz.prog 31 #[.int .i64 (D.fs.length : Int), .int .i64 (f : Int)] w2 fun en w' => en = .returned (.tuple #[.pointer (some ⟨w2.heap.size + 1, 0, none⟩), .int .i64 0]) ∧ C.PC D.fs.length f C.noC 0 (w2.heap.size + 1) w2.heap.size w' ∧ Below w2.heap.size w2 w') := fun w2 b2 => C.new_ok w2 D.fs.length f hn1 hn8 hf
  have HBEL : Hid (∀ w2 w3, Below (w.alloc (.cells (wcs D) 25)).heap.size (w.alloc (.cells (wcs D) 25)) w2 → Below w2.heap.size w2 w3 → Below (w.alloc (.cells (wcs D) 25)).heap.size (w.alloc (.cells (wcs D) 25)) w3) := fun w2 w3 b2 b3 => b2.trans (b3.mono b2.size)
  have HKE : Hid (∀ w2, Below w.heap.size w w2 → Calls Tryz.prog 33 #[.agg #[.slice D.pa D.ps.length D.pc, .slice (some ⟨fb, off, none⟩) D.fs.length D.fc, .int .i64 D.en], .int .i64 (f : Int)] w2 fun e w' => ∃ D', e = .returned (.agg #[.slice D'.pa D'.ps.length D'.pc, .slice D'.fa D'.fs.length D'.fc, .int .i64 D'.en]) ∧ LikP f D' D ∧ Ww (mask (fun k => decide (k < w2.heap.size)) w') D' ∧ Below w2.heap.size w2 w') := fun w2 b2 => by
    have := kept_any w2 D f (h.below b2) hf
    dsimp only [wv] at this
    rw [hfa] at this
    exact this
  have c1 := BX.c1
  have c0 := BX.c0
  have c2 := BX.c2
  have HW : Hid _ := h
  have HOK : Hid _ := hw
  dsimp only [wcs] at HK HNC HBEL c0 c1 c2
  dsimp only [wv, wcs] at CK ⊢
  rw [hfa] at CK c1 HK HNC HBEL c0 c2 ⊢
  clear BX HBX hcs hb0 hkd h hw
  go_enter Tryz.func9, Tryz.ntmps9
  go_wp2_with (first
    | (go_at_call 30; refine CK.mono ?_; rintro en w2 ⟨rfl, b2⟩; obtain ⟨hbb, hlt2, k0, k1, k2⟩ := Hid.out HK _ b2; have HB2 : Hid _ := b2; clear b2 hbb CK)
    | (go_at_call 31; refine (Hid.out HNC _ (Hid.out HB2)).mono ?_; rintro en w3 ⟨rfl, hck, b3⟩; have HCK : Hid _ := hck; have hb3 := Hid.out HBEL _ _ (Hid.out HB2) b3; have HB3 : Hid _ := hb3; obtain ⟨hbb, hlt3, k0, k1, k2⟩ := Hid.out HK _ hb3; obtain ⟨y0, y1, y2, y3, y4, y5, y6⟩ := Hid.out HCS _ hbb; have HBW : Hid _ := And.intro hbb (And.intro b3 hlt2); clear hck b3 hb3 hbb HNC))
  obtain ⟨rb, hrb⟩ : ∃ rb, w2.heap.size = rb := ⟨_, rfl⟩
  obtain ⟨cb, hcb⟩ : ∃ cb, rb + 1 = cb := ⟨_, rfl⟩
  rw [hrb, hcb] at HCK
  try simp only [hrb, hcb]
  obtain ⟨W5, hW5⟩ : ∃ W5, W5 = w3.alloc (.cells #[.int .i64 F.kd, .int .i64 F.lk, .int .i64 F.st, .slice F.ra F.rs.length F.rc, .slice F.pa F.ps.length F.pc, .slice F.sa F.ss.length F.sc, .slice F.ia F.is.length F.ic] 71) := ⟨_, rfl⟩
  obtain ⟨FB, hFB⟩ : ∃ FB, w3.heap.size = FB := ⟨_, rfl⟩
  have hb35 : Below w3.heap.size w3 W5 := by rw [hW5]; exact al _ _
  have bx5 : W5.heap[FB]? = some (.cells #[.int .i64 F.kd, .int .i64 F.lk, .int .i64 F.st, .slice F.ra F.rs.length F.rc, .slice F.pa F.ps.length F.pc, .slice F.sa F.ss.length F.sc, .slice F.ia F.is.length F.ic] 71 (0, 0)) := by rw [hW5, ← hFB]; exact World.alloc_heap_new w3 _
  have hb5 := HBEL.out _ _ HB3.out hb35
  have HB5 : Hid _ := hb5
  have lF5 : FB < W5.heap.size := (Array.getElem?_eq_some_iff.1 bx5).1
  rw [← hW5]
  try simp only [hFB]
  have HKX : Hid (∀ W, Below W5.heap.size W5 W → Below w.heap.size w W ∧ FB < W.heap.size ∧ w.heap.size < W.heap.size ∧ (W.cell? ⟨w.heap.size, 0, none⟩ = some (.slice D.pa D.ps.length D.pc) ∧ W.cell? ⟨w.heap.size, 1, none⟩ = some (.slice (some ⟨fb, off, none⟩) D.fs.length D.fc) ∧ W.cell? ⟨w.heap.size, 2, none⟩ = some (.int .i64 D.en) ∧ W.cell? ⟨FB, 2, none⟩ = some (.int .i64 F.st) ∧ W.cell? ⟨FB, 6, none⟩ = some (.slice F.ia F.is.length F.ic))) := fun W hW => by
    obtain ⟨q1, q2, q3, q4, q5⟩ := HK.out W (hb5.trans (hW.mono hb5.size))
    have bxW := (hW.block FB lF5).trans bx5
    exact ⟨q1, Nat.lt_of_lt_of_le lF5 hW.size, q2, q3, q4, q5, cellN bxW 2, cellN bxW 6⟩
  have HQN : Hid (Calls Tryz.prog 32 #[.int .i64 64] W5.drew fun en w' => ∃ qb G, en = .returned (.pointer (some ⟨qb, 0, none⟩)) ∧ Q.IsQ w' G qb 64 [] ∧ (∀ k, G k → W5.heap.size ≤ k) ∧ Below W5.heap.size W5 w') := by
    refine (Q.new_any 64 W5.drew (by unfold Q.i64; omega)).mono fun en w' ⟨qb, G, he, hq, hg, hb⟩ => ⟨qb, G, he, hq, hg, ⟨hb.os, hb.tape, hb.output, hb.size, hb.block⟩⟩
  obtain ⟨_, _, _, r0, r1, r2, r3, r4⟩ := HKX.out W5 (Below.refl _ _)
  have HB35 : Hid _ := hb35
  have HFB : Hid _ := hFB
  have HRB : Hid _ := And.intro hrb hcb
  clear hrb hcb hFB hW5 bx5 hb5 hb35 k0 k1 k2 y0 y1 y2 y3 y4 y5 y6 hlt2 hlt3
  go_wp2_with fail
  go_region_held3 (fun w' => w'.cell? ⟨w.heap.size, 0, none⟩ = some (.slice D.pa D.ps.length D.pc) ∧ w'.cell? ⟨w.heap.size, 1, none⟩ = some (.slice (some ⟨fb, off, none⟩) D.fs.length D.fc) ∧ w'.cell? ⟨w.heap.size, 2, none⟩ = some (.int .i64 D.en) ∧ w'.cell? ⟨FB, 2, none⟩ = some (.int .i64 F.st) ∧ w'.cell? ⟨FB, 6, none⟩ = some (.slice F.ia F.is.length F.ic)) (first | (go_keep; done) | exact Hid.out KEEP2 | exact Hid.out KEEP) (first
    | (go_at_call 32; refine (Hid.out HQN).mono ?_; rintro en w6 ⟨qb, G, rfl, hq, hg, b6⟩; have HQ6 : Hid _ := And.intro hq (And.intro hg b6); obtain ⟨hbb, l6, l7, hc⟩ := Hid.out HKX _ b6; have KEEP : Hid _ := hc; have HBB : Hid _ := hbb; clear hq hg b6 hbb hc HQN)
    | (go_at_call 33; refine (Hid.out HKE _ (Hid.out HBB)).mono ?_; rintro en w8 ⟨D', rfl, hlik, hww, b8⟩; have HD8 : Hid _ := And.intro hlik (And.intro hww b8); obtain ⟨hbb8, l8, l9, hc8⟩ := Hid.out HKX _ ((Hid.out HQ6).2.2.trans (b8.mono (Hid.out HQ6).2.2.size)); have KEEP2 : Hid _ := hc8; have HBB8 : Hid _ := hbb8; clear hlik hww b8 hbb8 hc8 HKE))
  go_wp2
  go_ret2
  obtain ⟨hq, hg, b6⟩ := HQ6.out
  obtain ⟨hlik, hww, b8⟩ := HD8.out
  obtain ⟨hrb, hcb⟩ := HRB.out
  have hFB := HFB.out
  have hck := (HCK.out.below HB35.out).below b6
  have hbx := al w8 (.cells (pcs D' f F.st F.is.length cb qb (.slice none 0 0)) 58)
  have hB : Below w.heap.size w (w8.alloc (.cells (pcs D' f F.st F.is.length cb qb (.slice none 0 0)) 58)) := HBB8.out.trans (hbx.mono HBB8.out.size)
  have hq4 := hq.lt
  have l1 := HCK.out.lt
  have l2 := HCK.out.mlt
  have hs35 := HB35.out.size
  have hs56 := b6.size
  have hs68 := b8.size
  have hlw : w.heap.size < rb := by have := HBW.out.2.2; omega
  have hmem : nthF D.fs f ∈ D.fs := by unfold nthF; simp [hf]
  have hil : (nthF D.fs f).is.length ≤ 20 := (HW.out.lt _ hmem).i
  rw [hF] at hil
  have hs8 : (w8.alloc (.cells (pcs D' f F.st F.is.length cb qb (.slice none 0 0)) 58)).heap[w8.heap.size]? = some (.cells (pcs D' f F.st F.is.length cb qb (.slice none 0 0)) 58 (0, 0)) := (MapKept.heap_alloc w8 _).1
  have hsz8 : (w8.alloc (.cells (pcs D' f F.st F.is.length cb qb (.slice none 0 0)) 58)).heap.size = w8.heap.size + 1 := by simp
  have e0 : nd0 D f = ⟨F.st, F.is.length, C.noC, 0, [], []⟩ := by unfold nd0; rw [hF]
  have hKi : ∀ k, decide (w6.heap.size ≤ k ∧ k < w8.heap.size) = true ↔ w6.heap.size ≤ k ∧ k < w8.heap.size := fun k => by simp
  have hKo : ∀ k, (¬ (w6.heap.size ≤ k ∧ k < w8.heap.size)) → decide (w6.heap.size ≤ k ∧ k < w8.heap.size) = false := fun k g => by simpa using g
  have hKN : KN w D' f (nd0 D f) w8.heap.size cb rb qb G (.slice none 0 0) (fun k => decide (w6.heap.size ≤ k ∧ k < w8.heap.size)) (w8.alloc (.cells (pcs D' f F.st F.is.length cb qb (.slice none 0 0)) 58)) := by
    rw [e0]
    refine ⟨hww.sub (sub_mask hbx.size (fun k hk hS => ⟨?_, hbx.block k hk⟩)), hB, hs8, ?_, (hq.below b8).below hbx, World.ownsRow_nil _ _ _ _, ?_, fun k g => ?_, by omega, by omega, fun g => ?_, fun g => ?_, fun g => ?_, by simp [Value.ownBlock], by simp [Value.ownBlock], by simp [Value.ownBlock], fun k g => by simp [Value.ownBlock] at g, hKo _ (by omega), hKo _ (by omega), hKo _ (by omega), fun k g => hKo _ (by have := hq4 k g; omega), fun k g => by simp [Value.ownBlock] at g, by rw [hlik.fl]; exact hf, by show (0 : Int) ≤ (F.is.length : Int); omega, by show (F.is.length : Int) ≤ 1000000; omega⟩
    · have hk2 : w6.heap.size ≤ k := by simpa using hS
      have : decide (w6.heap.size ≤ k ∧ k < w8.heap.size) = true := (hKi k).2 ⟨hk2, hk⟩
      show (!decide (w6.heap.size ≤ k ∧ k < w8.heap.size)) = false
      rw [this]
      rfl
    · rw [hlik.fl]
      exact (hck.below b8).below hbx
    · rintro k (e | e | e | g | g | g)
      · have := HBB8.out.size; omega
      · omega
      · omega
      · have := hg k g; omega
      · simp [Value.ownBlock] at g
      · have := (hKi k).1 g; omega
    · have := (hKi k).1 g; omega
    · have := hq4 _ g; omega
    · have := hg _ g; omega
    · have := hg _ g; omega
  exact ⟨_, cb, rb, qb, G, _, D', rfl, hlik, hKN⟩
end Go.Proofs.YtadmojehemdoaaaGreat
/- Proved: the program's node keeps all contracts that the statements' walks ask. -/
namespace Go.Proofs.YtadmojehemdoaaaGreat
open Go.RowKit Go.Shelf
set_option linter.unusedVariables false
set_option maxRecDepth 100000

/-- The program's node: it has a copy of its own of what it needs of the federation. -/
def PN (w0 : World) (D : Wd) (f : Nat) (x : Nd) (nb : Nat) (F : Nat → Prop) (W : World) : Prop :=
  ∃ D' cb rb qb G v K, LikP f D' D ∧ KN w0 D' f x nb cb rb qb G v K W ∧ F = FK nb cb rb G v K
theorem face : Face PN where
  lt := by
    rintro w0 D f x nb F W ⟨D', cb, rb, qb, G, v, K, hl, hk, rfl⟩
    exact hk.lt
  lo := by
    rintro w0 D f x nb F W ⟨D', cb, rb, qb, G, v, K, hl, hk, rfl⟩
    exact hk.lo
  bel := by
    rintro w0 D f x nb F W ⟨D', cb, rb, qb, G, v, K, hl, hk, rfl⟩
    exact hk.bel
  keep := by
    rintro S w0 D f x nb F W W2 ⟨D', cb, rb, qb, G, v, K, hl, hk, rfl⟩ hf hs h0
    exact ⟨D', cb, rb, qb, G, v, K, hl, hk.keep hf hs h0, rfl⟩
  new := by
    intro w D f h hw hf hkd
    refine (knnew_ok w D f h hw hf hkd).mono ?_
    rintro en w' ⟨nb, cb, rb, qb, G, K, D', he, hl, hk⟩
    exact ⟨nb, _, he, D', cb, rb, qb, G, _, K, hl, hk, rfl⟩
  hear := by
    rintro w0 D f x nb F w ⟨D', cb, rb, qb, G, v, K, hl, hk, rfl⟩ fr k co T b c d e g h1 h2
    have := knhear hk fr k co T b c d e g h1 h2
    rw [hl.fl] at this
    refine this.mono ?_
    rintro en w' ⟨he, G2, h3, h4⟩
    exact ⟨_, he, ⟨D', cb, rb, qb, G2, v, K, hl, h3, rfl⟩, h4⟩
  safe := by
    rintro w0 D f x nb F w ⟨D', cb, rb, qb, G, v, K, hl, hk, rfl⟩
    have := knsafe hk
    rw [hl.safe] at this
    exact this
  idle := by
    rintro w0 D f x nb F w ⟨D', cb, rb, qb, G, v, K, hl, hk, rfl⟩ hs
    exact knstep_idle hk (by rw [hl.safe]; exact hs)
  step := by
    rintro w0 D f x nb F w ⟨D', cb, rb, qb, G, v, K, hl, hk, rfl⟩ hs h1 h2
    have := knstep_go hk (by rw [hl.safe]; exact hs) h1 h2
    rw [hl.spD, hl.spM, hl.spN] at this
    refine this.mono ?_
    rintro en w' ⟨va, vc, G2, v2, he, h3, h4, h5, h6⟩
    exact ⟨va, vc, _, he, h3, h4, ⟨D', cb, rb, qb, G2, v2, K, hl, h5, rfl⟩, h6⟩
  tell := by
    rintro w0 D f x nb F w ⟨D', cb, rb, qb, G, v, K, hl, hk, rfl⟩
    have := kntell hk
    rw [hl.teT, hl.teB, hl.teN] at this
    refine this.mono ?_
    rintro en w' ⟨he, h3, h4⟩
    exact ⟨_, he, ⟨D', cb, rb, qb, G, v, K, hl, h3, rfl⟩, h4⟩
  log := by
    rintro w0 D f x nb F w ⟨D', cb, rb, qb, G, v, K, hl, hk, rfl⟩ hlen
    exact knlog hk hlen
  bound := by
    rintro w0 D f x nb F w ⟨D', cb, rb, qb, G, v, K, hl, hk, rfl⟩
    have := C.bound_any hk.ck
    rw [hl.fl] at this
    exact ⟨cb, hk.cells.1, this⟩
end Go.Proofs.YtadmojehemdoaaaGreat
/- Proved: the program's node keeps the contracts that only some statements ask: State, Waiting, New where there is none. -/
namespace Go.Proofs.YtadmojehemdoaaaGreat
open Go.RowKit Go.Shelf
set_option linter.unusedVariables false
set_option maxRecDepth 100000

set_option maxHeartbeats 1000000 in
theorem knstate {w0 : World} {D : Wd} {f : Nat} {x : Nd} {nb cb rb qb : Nat} {G : Nat → Prop} {v : Value} {K : Nat → Bool} {w : World} (h : KN w0 D f x nb cb rb qb G v K w) :
    Calls Tryz.prog 20 #[.pointer (some ⟨nb, 0, none⟩)] w fun e w' => e = .returned (.int .i64 x.st) ∧ w = w' := by
  obtain ⟨n0, n1, n2, n3, n4, n5, n6, n7, n8⟩ := h.cells
  go_enter Tryz.func20, Tryz.ntmps20
  go_wp2
  go_ret
  exact ⟨rfl, rfl⟩
set_option maxHeartbeats 1000000 in
theorem knwaiting {w0 : World} {D : Wd} {f : Nat} {x : Nd} {nb cb rb qb : Nat} {G : Nat → Prop} {v : Value} {K : Nat → Bool} {w : World} (h : KN w0 D f x nb cb rb qb G v K w) :
    Calls Tryz.prog 24 #[.pointer (some ⟨nb, 0, none⟩)] w fun e w' => ∃ u, e = .returned u ∧ Q.Own w' u x.q ∧ (∀ k, u.ownBlock = some k → w.heap.size ≤ k) ∧ Below w.heap.size w w' := by
  obtain ⟨n0, n1, n2, n3, n4, n5, n6, n7, n8⟩ := h.cells
  have C := Q.list_any h.qu
  go_enter Tryz.func24, Tryz.ntmps24
  go_wp2_with (go_at_call 55; refine C.mono ?_; rintro e w' ⟨u, rfl, h1, h2, h3⟩; have H : Hid _ := And.intro h1 (And.intro h2 h3); clear h1 h2 h3)
  go_ret
  exact ⟨u, rfl, H.out⟩
theorem faceW : FaceW PN := { face with
  state := by
    rintro w0 D f x nb F w ⟨D', cb, rb, qb, G, v, K, hl, hk, rfl⟩
    exact knstate hk
  waiting := by
    rintro w0 D f x nb F w ⟨D', cb, rb, qb, G, v, K, hl, hk, rfl⟩
    refine (knwaiting hk).mono ?_
    rintro en w' ⟨u, he, h1, h2, h3⟩
    obtain ⟨a, cap, rfl, _⟩ := h1.rd
    exact ⟨a, cap, he, h1, h2, h3⟩
  err := fun w D f h {N E} hw hE => knnew_err w D f h hw hE
  no := fun w D f h hw hf => knnew_no w D f h hw hf }
end Go.Proofs.YtadmojehemdoaaaGreat
