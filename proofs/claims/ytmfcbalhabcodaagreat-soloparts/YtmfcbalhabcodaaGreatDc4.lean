/- Proved: the walk of the document's Next, where there is a next message. -/
import Derived.Test.YtmfcbalhabcodaaGreatDcm
namespace Go.Proofs.YtmfcbalhabcodaaGreat
open Go.RowKit Go.Shelf
set_option linter.unusedVariables false

set_option maxRecDepth 100000 in
set_option maxHeartbeats 4000000 in
theorem dnext_walk {w0 w : World} {db : Nat} {D : Wd} {F : Nat → Prop} {st sq : List Int} {m : M} {rest : List M} {dn : List Dn} {sg qg tg n N sc qc tc : Nat} {uv : Value} {f : Nat} {P : Int × List O} {new : List M}
    (hw0 : Ww w0 D) (hL : DLay w db D st sq (m :: rest) dn (.slice (some ⟨sg, 0, none⟩) n sc) (.slice (some ⟨qg, 0, none⟩) n qc) (.slice (some ⟨tg, 0, none⟩) N tc) uv) (hN : (m :: rest).length = N) (hF : ∀ k, FD db (.slice (some ⟨sg, 0, none⟩) n sc) (.slice (some ⟨qg, 0, none⟩) n qc) (.slice (some ⟨tg, 0, none⟩) N tc) uv k ↔ F k) (hFb : ∀ k, F k → w0.heap.size ≤ k) (hb : Below w0.heap.size w0 w) (hd : m.dst = (f : Int)) (hf : f < n) (hst : st.length = n) (hsq : sq.length = n) (hfD : f < D.fs.length) (ht : m.t < D.en) (hP : stp (nthF D.fs f).rs (nthI st f) m.cl = P) (hnew : spr D (f : Int) (nthI sq f) m.t m.bd P.2 = new)
    (hq0 : 0 ≤ nthI sq f) (hq1 : nthI sq f ≤ 100000) (hdl : dn.length ≤ 100000) (hlen : (m :: rest).length + new.length ≤ 20000) :
    Calls Tryz.prog 13 #[.pointer (some ⟨db, 0, none⟩)] w fun e' w' => e' = .returned (.tuple #[dv ⟨m, P.1⟩, .bool true]) ∧ ∃ (tv' uv' : Value), DLay w' db D (st.set f P.1) (sq.set f (nthI sq f + P.2.length)) (putL rest new) (dn ++ [⟨m, P.1⟩]) (.slice (some ⟨sg, 0, none⟩) n sc) (.slice (some ⟨qg, 0, none⟩) n qc) tv' uv' ∧ Fr F w w' ∧ (∀ k, tv'.ownBlock = some k → w.heap.size ≤ k) ∧ (∀ k, uv'.ownBlock = some k → uv.ownBlock = some k ∨ w.heap.size ≤ k) := by
  have mixed : Tryz.prog.follows .mixedOrders = true := by kernel_rfl
  obtain ⟨W0, hW0⟩ : ∃ W0, W0 = w.alloc (.cells #[.int .i64 0, .int .i64 0, .int .i64 0, .int .i64 0, .int .i64 0, .int .i64 0, .int .i64 0] 40) := ⟨_, rfl⟩
  have hb0 : Below w.heap.size w W0 := by rw [hW0]; exact al _ _
  have hL0 := hL.below hb0
  have hA0 : W0.heap[w.heap.size]? = some (.cells (dcs zeroD) 40 (0, 0)) := by rw [hW0]; exact World.alloc_heap_new w _
  obtain ⟨A, hA⟩ : ∃ A, w.heap.size = A := ⟨_, rfl⟩
  have hb00 := hb.trans (hb0.mono hb.size)
  obtain ⟨sv, hsv⟩ : ∃ sv, Value.slice (some ⟨sg, 0, none⟩) n sc = sv := ⟨_, rfl⟩
  obtain ⟨qv, hqv⟩ : ∃ qv, Value.slice (some ⟨qg, 0, none⟩) n qc = qv := ⟨_, rfl⟩
  obtain ⟨tv, htv⟩ : ∃ tv, Value.slice (some ⟨tg, 0, none⟩) N tc = tv := ⟨_, rfl⟩
  have HM : Hid (∀ W, Below W0.heap.size W0 W → W.heap[W0.heap.size]? = some (.cells (mcs m) 38 (0, 0)) → DMid w0 w F db D A W0.heap.size m W st sq (m :: rest) dn (.slice (some ⟨sg, 0, none⟩) n sc) (.slice (some ⟨qg, 0, none⟩) n qc) (.slice (some ⟨tg, 0, none⟩) N tc) uv) := fun W h1 hx => by
    have h4 := hb0.trans (h1.mono hb0.size)
    have lA : A < W0.heap.size := by rw [← hA]; exact (Array.getElem?_eq_some_iff.1 hA0).1
    exact ⟨hL.below h4, Fr.of_below h4, hb00.trans (h1.mono hb00.size), hx, (h1.block A lA).trans (by rw [← hA]; exact hA0), Nat.le_of_eq hA, lA⟩
  have hlt : Hid (∀ k, FD db (.slice (some ⟨sg, 0, none⟩) n sc) (.slice (some ⟨qg, 0, none⟩) n qc) (.slice (some ⟨tg, 0, none⟩) N tc) uv k → k < w.heap.size) := hL.lt
  obtain ⟨g, hg⟩ : ∃ g, nthF D.fs f = g := ⟨_, rfl⟩
  obtain ⟨b, off, hfa, _⟩ := hw0.f.cells hfD hg
  rw [hg] at hP
  have hPl : P.2.length ≤ 20 := by rw [← hP]; exact stp_len (hw0.lt g (hg ▸ nthF_mem hfD)).r _ _
  obtain ⟨sf, hsf⟩ : ∃ sf, nthI st f = sf := ⟨_, rfl⟩
  obtain ⟨qf, hqf⟩ : ∃ qf, nthI sq f = qf := ⟨_, rfl⟩
  rw [hsf] at hP
  rw [hqf] at hnew hq0 hq1 ⊢
  -- the cells, wherever the middle is
  have HFC : Hid (∀ MB W st' sq' wt' tv', DMid w0 w F db D A MB m W st' sq' wt' dn (.slice (some ⟨sg, 0, none⟩) n sc) (.slice (some ⟨qg, 0, none⟩) n qc) tv' uv → st'.length = n → sq'.length = n → W.cell? ⟨db, 0, none⟩ = some (.slice D.pa D.ps.length D.pc) ∧ W.cell? ⟨db, 1, none⟩ = some (.slice (some ⟨b, off, none⟩) D.fs.length D.fc) ∧ W.cell? ⟨db, 2, none⟩ = some (.int .i64 D.en) ∧ W.cell? ⟨db, 3, none⟩ = some (.slice (some ⟨sg, 0, none⟩) n sc) ∧ W.cell? ⟨db, 4, none⟩ = some (.slice (some ⟨qg, 0, none⟩) n qc) ∧ W.cell? ⟨db, 5, none⟩ = some tv' ∧ W.cell? ⟨db, 6, none⟩ = some uv ∧ (∀ j, W.frozen? ⟨db, j, none⟩ = false) ∧ W.cell? ⟨MB, 0, none⟩ = some (.int .i64 m.t) ∧ W.cell? ⟨MB, 1, none⟩ = some (.int .i64 m.fr) ∧ W.cell? ⟨MB, 2, none⟩ = some (.int .i64 m.sq) ∧ W.cell? ⟨MB, 3, none⟩ = some (.int .i64 f) ∧ W.cell? ⟨MB, 4, none⟩ = some (.int .i64 m.cl) ∧ W.cell? ⟨MB, 5, none⟩ = some (.int .i64 m.bd) ∧ W.cell? ⟨b, off + f * 7 + 3, none⟩ = some (.slice g.ra g.rs.length g.rc) ∧ W.cell? ⟨sg, f, none⟩ = some (.int .i64 (nthI st' f)) ∧ W.cell? ⟨qg, f, none⟩ = some (.int .i64 (nthI sq' f)) ∧ W.frozen? ⟨sg, f, none⟩ = false ∧ W.frozen? ⟨qg, f, none⟩ = false ∧ db < W.heap.size ∧ MB < W.heap.size ∧ sg < W.heap.size ∧ qg < W.heap.size ∧ RdR W g.ra g.rs ∧ Lt g.rs ∧ Ww W D) := fun MB W st' sq' wt' tv' hM h1 h2 => by
    obtain ⟨a0, a1, a2, a3, a4, a5, a6, a7⟩ := hM.lay.cells
    obtain ⟨b0, b1, b2, b3, b4, b5, _⟩ := hM.bm.cells
    have hww := hw0.below hM.b0
    obtain ⟨b', off', e1, _, _, _, _, z3, _⟩ := hww.f.cells hfD hg
    rw [hfa] at e1 a1
    simp at e1
    obtain ⟨rfl, rfl⟩ := e1
    rw [hd] at b3
    have s1 := hM.lay.s
    have q1 := hM.lay.q
    rw [h1] at s1
    rw [h2] at q1
    obtain ⟨s2, s3⟩ := own_int s1 h1 hf
    obtain ⟨q2, q3⟩ := own_int q1 h2 hf
    exact ⟨a0, a1, a2, a3, a4, a5, a6, a7, b0, b1, b2, b3, b4, b5, z3, s2, q2, s3, q3, clt a0, clt b0, clt s2, clt q2, (hww.f.at hfD hg).r, (hww.lt g (hg ▸ nthF_mem hfD)).r, hww⟩
  obtain ⟨L, hLL⟩ : ∃ L, putL rest new = L := ⟨_, rfl⟩
  rw [hLL]
  have hrl1 : rest.length = N - 1 := by rw [← hN]; simp
  have hnewl : new.length ≤ 20000 ∧ rest.length + new.length ≤ 20000 := by simp at hlen; omega
  have HST : Hid (∀ W ra rc, DMid w0 w F db D A W0.heap.size m W st sq (m :: rest) dn (.slice (some ⟨sg, 0, none⟩) n sc) (.slice (some ⟨qg, 0, none⟩) n qc) (.slice (some ⟨tg, 0, none⟩) N tc) uv → W.ownsRow 0 38 6 (.slice ra (N - 1) rc) rest.length (flatM rest) → (∀ k, (Value.slice ra (N - 1) rc).ownBlock = some k → W0.heap.size < k) → Calls Tryz.prog 36 #[.slice g.ra g.rs.length g.rc, .int .i64 sf, .int .i64 m.cl] W fun e' w' => ∃ a' c', e' = .returned (.tuple #[.int .i64 P.1, .slice a' P.2.length c']) ∧ DR w0 w F db D A W0.heap.size m w' st sq (m :: rest) dn (.slice (some ⟨sg, 0, none⟩) n sc) (.slice (some ⟨qg, 0, none⟩) n qc) (.slice (some ⟨tg, 0, none⟩) N tc) uv (.slice ra (N - 1) rc) (.slice a' P.2.length c') rest P.2) := fun W ra rc hM hr hrn => by
    obtain ⟨_, _, _, _, _, _, _, _, _, _, _, _, _, _, _, _, _, _, _, _, lm, _, _, h1, h2, _⟩ := HFC.out _ _ _ _ _ _ hM hst hsq
    have := rstep_any W g.ra g.rc g.rs sf m.cl h1 h2
    rw [hP] at this
    exact this.mono fun e' w' ⟨a', c', h3, h4⟩ => ⟨a', c', h3, hM.below h4.2, own_below hr h4.2, hrn, own_since h4.1 (Nat.zero_le _), fun k hk => by have := (own_lt h4.1 hk).2; omega⟩
  have HSP : Hid (∀ W st' rv a c, DR w0 w F db D A W0.heap.size m W st' sq (m :: rest) dn (.slice (some ⟨sg, 0, none⟩) n sc) (.slice (some ⟨qg, 0, none⟩) n qc) (.slice (some ⟨tg, 0, none⟩) N tc) uv rv (.slice a P.2.length c) rest P.2 → st'.length = n → Calls Tryz.prog 37 #[.agg #[.slice D.pa D.ps.length D.pc, .slice (some ⟨b, off, none⟩) D.fs.length D.fc, .int .i64 D.en], .int .i64 f, .int .i64 qf, .int .i64 m.t, .int .i64 m.bd, .slice a P.2.length c] W fun e' w' => ∃ a' c', e' = .returned (.slice a' new.length c') ∧ RdM w' a' new ∧ DR w0 w F db D A W0.heap.size m w' st' sq (m :: rest) dn (.slice (some ⟨sg, 0, none⟩) n sc) (.slice (some ⟨qg, 0, none⟩) n qc) (.slice (some ⟨tg, 0, none⟩) N tc) uv rv (.slice a P.2.length c) rest P.2) := fun W st' rv a c hD hs => by
    obtain ⟨_, _, _, _, _, _, _, _, _, _, _, _, _, _, _, _, _, _, _, _, _, _, _, _, _, hww⟩ := HFC.out _ _ _ _ _ _ hD.mid hs hsq
    have := rspread_any W D f qf m.t m.bd a c P.2 hww (own_rdO hD.o) hPl hq0 (by omega)
    rw [hnew] at this
    dsimp only [wv] at this
    rw [hfa] at this
    exact this.mono fun e' w' ⟨v, h3, h4⟩ => by
      obtain ⟨a2, c2, rfl, h5⟩ := h4.rd
      exact ⟨a2, c2, h3, h5, hD.below h4.2⟩
  have HPU : Hid (∀ W st' ra rc ov a c, DR w0 w F db D A W0.heap.size m W st' sq (m :: rest) dn (.slice (some ⟨sg, 0, none⟩) n sc) (.slice (some ⟨qg, 0, none⟩) n qc) (.slice (some ⟨tg, 0, none⟩) N tc) uv (.slice ra (N - 1) rc) ov rest P.2 → st'.length = n → RdM W a new → Calls Tryz.prog 30 #[.slice ra (N - 1) rc, .slice a new.length c] W fun e' w' => ∃ a' c', e' = .returned (.slice a' L.length c') ∧ DMid w0 w F db D A W0.heap.size m w' st' sq (m :: rest) dn (.slice (some ⟨sg, 0, none⟩) n sc) (.slice (some ⟨qg, 0, none⟩) n qc) (.slice (some ⟨tg, 0, none⟩) N tc) uv ∧ w'.ownsRow 0 38 6 (.slice a' L.length c') L.length (flatM L) ∧ (∀ k, (Value.slice a' L.length c').ownBlock = some k → W0.heap.size < k)) := fun W st' ra rc ov a c hD hs hr => by
    obtain ⟨_, _, _, _, _, _, _, _, _, _, _, _, _, _, _, _, _, _, _, _, lm, _⟩ := HFC.out _ _ _ _ _ _ hD.mid hs hsq
    have hDr := hD.r
    have hDn := hD.rn
    rw [← hrl1] at hDr hDn ⊢
    have := rput_any W ra rc rest a c new (own_rdM hDr) hr hnewl.2
    rw [hLL] at this
    refine this.mono fun e' w' ⟨a', c', h3, h4, h5, h6⟩ => ⟨a', c', h3, hD.mid.below h6, ?_, ?_⟩
    · rcases h4 with ⟨rfl, rfl, rfl⟩ | h4
      · exact own_below hDr h6
      · exact rowM_own h4
    · rcases h4 with ⟨rfl, rfl, rfl⟩ | h4
      · exact hDn
      · intro k hk
        have := rowM_ge h4 hk
        omega
  have HFS : Hid (F sg) := (hF sg).1 (.inr (.inl rfl))
  have HFQ : Hid (F qg) := (hF qg).1 (.inr (.inr (.inl rfl)))
  have HFD : Hid (F db) := (hF db).1 (.inl rfl)
  have HFU : Hid (∀ k, uv.ownBlock = some k → F k) := fun k hk => (hF k).1 (.inr (.inr (.inr (.inr hk))))
  have HLT4 : Hid (∀ k, (k = db ∨ (Value.slice (some ⟨sg, 0, none⟩) n sc).ownBlock = some k ∨ (Value.slice (some ⟨qg, 0, none⟩) n qc).ownBlock = some k ∨ uv.ownBlock = some k) → k < w.heap.size) := fun k hk => hlt.out k (hk.elim (fun h => .inl h) (fun h => h.elim (fun h => .inr (.inl h)) (fun h => h.elim (fun h => .inr (.inr (.inl h))) (fun h => .inr (.inr (.inr (.inr h)))))))
  have HSG : Hid (sg < w.heap.size) := hlt.out sg (.inr (.inl rfl))
  have HQG : Hid (qg < w.heap.size) := hlt.out qg (.inr (.inr (.inl rfl)))
  have HFB : Hid (∀ k, F k → w0.heap.size ≤ k) := hFb
  have hf' : (f : Int) < (n : Int) := by omega
  have hfD' : (f : Int) < (D.fs.length : Int) := by omega
  have hx0 := hL0.cells
  obtain ⟨_, _, x2, _, _, x5, _, _⟩ := hx0
  have y0 : ∀ c, c < 6 → W0.cell? ⟨tg, c, none⟩ = (encM m)[c]? := fun c hc => by
    have ho := hL0.t
    rw [hN] at ho
    have e1 := World.ownsRow.cellAt ho c (by rw [← hN]; simp; omega)
    rw [e1]
    show (encM m ++ flatM rest)[c]? = _
    rw [List.getElem?_append_left (by rw [encM_len]; exact hc)]
  have t0 := y0 0 (by omega)
  have t1 := y0 1 (by omega)
  have t2 := y0 2 (by omega)
  have t3 := y0 3 (by omega)
  have t4 := y0 4 (by omega)
  have t5 := y0 5 (by omega)
  simp only [encM, List.getElem?_cons_zero, List.getElem?_cons_succ] at t0 t1 t2 t3 t4 t5
  rw [hd] at t3
  have lt0 : tg < W0.heap.size := clt t0
  have ldb : db < W0.heap.size := clt x2
  have hN0 : (0 : Int) < (N : Int) := by rw [← hN]; simp
  have hN1 : ((N : Int) == 0) = false := by rw [beq_eq_false_iff_ne]; omega
  have hN2 : (1 : Int) ≤ (N : Int) := by omega
  have hge : ¬ m.t ≥ D.en := by omega
  have hge2 : ¬ D.en ≤ m.t := by omega
  have htcap : N ≤ tc ∧ tc ≤ maxLen := by
    rcases hL0.t.2 with ⟨e, _⟩ | ⟨g', cap, cur, e, _, _, hnc, hcm, _⟩
    · simp at e
    · simp at e
      obtain ⟨_, _, rfl⟩ := e
      exact ⟨hN ▸ hnc, hcm⟩
  unfold maxLen at htcap
  have HRT : Hid (∀ W, Below W0.heap.size W0 W → RdM W (some ⟨tg, 6, none⟩) rest) := fun W hW => by
    have ho := own_below hL0.t hW
    rw [hN] at ho
    refine fun g => ⟨tg, 6, rfl, Nat.lt_of_lt_of_le lt0 hW.size, fun i hi c hc => ?_⟩
    have e1 := World.ownsRow.cellAt ho (6 + i * 6 + c) (by rw [← hN]; simp; omega)
    rw [e1]
    show (encM m ++ flatM rest)[6 + i * 6 + c]? = _
    rw [List.getElem?_append_right (by rw [encM_len]; omega), encM_len, show 6 + i * 6 + c - 6 = i * 6 + c by omega]
    exact flatM_get rest i c hi hc
  have hN0n : 0 < N := by rw [← hN]; simp
  have HNr : Hid (N = rest.length + 1) := by show N = _; rw [← hN]; simp
  have HLEN : Hid _ := hlen
  have HW0 : Hid _ := hW0
  have HAE : Hid _ := hA
  have HDD : Hid _ := hd
  have HSF : Hid _ := hsf
  have HQF : Hid _ := hqf
  clear hL hL0 hb hb0 hb00 hA0 hW0 hF hsv hqv htv hd hg hfa hw0 y0 hA hsf hqf hN hlen ht hrl1 hLL hnew hP hFb
  go_enter Tryz.func13, Tryz.ntmps13
  go_wp2_with fail
  rw [← HW0.out]
  go_quiet (fail)
  obtain ⟨W1, hW1⟩ : ∃ W1, W1 = W0.drewN nq := ⟨_, rfl⟩
  have hb1 : Below W0.heap.size W0 W1 := by rw [hW1]; exact below_drewN _ _ _
  have s1 : W1.heap.size = W0.heap.size := by rw [hW1]; rfl
  rw [← hW1]
  have c1 := fun p (hp : p.block < W0.heap.size) => hb1.cell (p := p) hp
  have X5 := (c1 ⟨db, 5, none⟩ ldb).trans x5
  have T0 := (c1 ⟨tg, 0, none⟩ lt0).trans t0
  have T1 := (c1 ⟨tg, 1, none⟩ lt0).trans t1
  have T2 := (c1 ⟨tg, 2, none⟩ lt0).trans t2
  have T3 := (c1 ⟨tg, 3, none⟩ lt0).trans t3
  have T4 := (c1 ⟨tg, 4, none⟩ lt0).trans t4
  have T5 := (c1 ⟨tg, 5, none⟩ lt0).trans t5
  clear hW1 c1 x5 t0 t1 t2 t3 t4 t5 x2
  obtain ⟨W2, hW2⟩ : ∃ W2, W2 = (W1.alloc (.cells #[.int .i64 m.t, .int .i64 m.fr, .int .i64 m.sq, .int .i64 f, .int .i64 m.cl, .int .i64 m.bd] 38)) := ⟨_, rfl⟩
  have hb2 : Below W0.heap.size W0 W2 := by rw [hW2]; exact hb1.alloc hb1.size _
  have hM2 : DMid w0 w F db D A W0.heap.size m W2 st sq (m :: rest) dn (.slice (some ⟨sg, 0, none⟩) n sc) (.slice (some ⟨qg, 0, none⟩) n qc) (.slice (some ⟨tg, 0, none⟩) N tc) uv := by
    refine HM.out W2 hb2 ?_
    rw [hW2, ← s1]
    have := World.alloc_heap_new W1 (.cells (mcs m) 38)
    dsimp only [mcs] at this ⊢
    rw [HDD.out] at this ⊢
    exact this
  have hr2 := RowM.empty W2
  have hb3 := al W2 (.cells #[] 38)
  have hRT2 : RdM (W2.alloc (.cells #[] 38)) (if tc = 1 then some ⟨tg, 0, none⟩ else some ⟨tg, 6, none⟩) rest := by
    by_cases e : tc = 1
    · intro g
      exfalso
      have h1 := HNr.out
      have h2 := List.length_pos_iff.2 g
      omega
    · rw [if_neg e]
      exact HRT.out _ (hb2.trans (hb3.mono hb2.size))
  obtain ⟨s6, hif⟩ : ∃ s6, (if tc = 1 then (some ⟨tg, 0, none⟩ : Option Addr) else some ⟨tg, 6, none⟩) = s6 := ⟨_, rfl⟩
  rw [hif] at hRT2
  obtain ⟨ra, rc, W4, hrun, hr4⟩ := append_M (c := tc - 1) hr2 hRT2 (by simp) (by have := HLEN.out; simp at this; omega) 45 rest (by simp)
  have hrl1 : rest.length = N - 1 := by have := HNr.out; omega
  rw [hrl1] at hrun
  have hr4o := rowM_own hr4
  have hr4n := fun k hk => rowM_ge hr4 (k := k) hk
  rw [hrl1] at hr4o hr4n
  have hM4 := hM2.below hr4.2
  obtain ⟨a0, a1, a2, a3, a4, a5, a6, a7, b0, b1, b2, b3, b4, b5, z3, c0, c1, c2, c3, l0, l1, l2, l3, hrr, hrl, hww⟩ := HFC.out _ _ _ _ _ _ hM4 hst hsq
  have HM4 : Hid _ := hM4
  have s2 : W2.heap.size = W0.heap.size + 1 := by rw [hW2, ← s1]; simp
  rw [s2] at hr4n
  have HO4 : Hid (W4.ownsRow 0 38 6 (.slice ra (N - 1) rc) rest.length (flatM rest)) := by show World.ownsRow _ _ _ _ _ _ _; rw [hrl1]; exact hr4o
  have HN4 : Hid (∀ k, (Value.slice ra (N - 1) rc).ownBlock = some k → W0.heap.size < k) := hr4n
  rw [s2, hW2] at hrun
  have HRUN : Hid _ := hrun
  have HRR : Hid _ := hrr
  have HRL : Hid _ := hrl
  have HWW : Hid _ := hww
  rw [HSF.out] at c0
  rw [HQF.out] at c1
  clear hrun hr4 hr4o hr4n hM4 hM2 hr2 hb3 hRT2 hrl1 hb2 hb1 hrr hrl hww s2 hW2
  go_wp2_with (at_builtin; refine wpList_append_run _ rfl _ _ 45 rfl rfl rfl HRUN.out ?_)
  go_region_held3 (fun w' => w'.cell? ⟨db, 1, none⟩ = some (.slice (some ⟨b, off, none⟩) D.fs.length D.fc) ∧ w'.cell? ⟨b, off + f * 7 + 3, none⟩ = some (.slice g.ra g.rs.length g.rc) ∧ w'.cell? ⟨db, 3, none⟩ = some (.slice (some ⟨sg, 0, none⟩) n sc) ∧ w'.cell? ⟨sg, f, none⟩ = some (.int .i64 sf) ∧ w'.cell? ⟨W0.heap.size, 4, none⟩ = some (.int .i64 m.cl)) (go_keep) (first
    | (go_at_call 36; refine (HST.out _ _ _ ((HM4.out).below ((Below.refl _ _).drew)) (own_below HO4.out ((Below.refl _ _).drew)) HN4.out).mono ?_; rintro e' w6 ⟨a6', c6', rfl, hD6⟩; clear a0 a1 a2 a3 a4 a5 a6 a7 b0 b1 b2 b3 b4 b5 z3 c0 c1 c2 c3 l0 l1 l2 l3; obtain ⟨a0, a1, a2, a3, a4, a5, a6, a7, b0, b1, b2, b3, b4, b5, z3, c0, c1, c2, c3, l0, l1, l2, l3, _, _, _⟩ := HFC.out _ _ _ _ _ _  hD6.mid hst hsq; rw [HSF.out] at c0; rw [HQF.out] at c1; have HD6 : Hid _ := hD6; clear hD6))
  go_wp2_with fail
  obtain ⟨W8, hW8⟩ : ∃ W8, W8 = w6.setCell ⟨sg, f, none⟩ (.int .i64 P.1) := ⟨_, rfl⟩
  rw [← hW8]
  have hD8 := (Hid.out HD6).setS hst f P.1 (HFS.out) (HSG.out) HFB.out
  rw [← hW8] at hD8
  obtain ⟨st8, hst8⟩ : ∃ st8, st.set f P.1 = st8 := ⟨_, rfl⟩
  rw [hst8] at hD8
  have hsl8 : st8.length = n := by rw [← hst8, List.length_set]; exact hst
  clear a0 a1 a2 a3 a4 a5 a6 a7 b0 b1 b2 b3 b4 b5 z3 c0 c1 c2 c3 l0 l1 l2 l3 hW8
  obtain ⟨a0, a1, a2, a3, a4, a5, a6, a7, b0, b1, b2, b3, b4, b5, z3, c0, c1, c2, c3, l0, l1, l2, l3, _, _, _⟩ := HFC.out _ _ _ _ _ _  hD8.mid hsl8 hsq
  rw [HQF.out] at c1
  have HD8 : Hid _ := hD8
  have HST8 : Hid _ := hst8
  clear hD8 hst8
  go_region_held3 (fun w' => w'.cell? ⟨db, 0, none⟩ = some (.slice D.pa D.ps.length D.pc) ∧ w'.cell? ⟨db, 1, none⟩ = some (.slice (some ⟨b, off, none⟩) D.fs.length D.fc) ∧ w'.cell? ⟨db, 2, none⟩ = some (.int .i64 D.en) ∧ w'.cell? ⟨db, 4, none⟩ = some (.slice (some ⟨qg, 0, none⟩) n qc) ∧ w'.cell? ⟨qg, f, none⟩ = some (.int .i64 qf) ∧ w'.cell? ⟨W0.heap.size, 0, none⟩ = some (.int .i64 m.t) ∧ w'.cell? ⟨W0.heap.size, 5, none⟩ = some (.int .i64 m.bd)) (first | exact Hid.out KEEP | go_keep) (first
    | (go_at_call 30; refine (HPU.out _ _ _ _ _ _ _ HD9.out hsl8 HR9.out).mono ?_; rintro e' w10 ⟨a10, c10, rfl, hM10, ho10, hn10⟩; clear a0 a1 a2 a3 a4 a5 a6 a7 b0 b1 b2 b3 b4 b5 z3 c0 c1 c2 c3 l0 l1 l2 l3; obtain ⟨a0, a1, a2, a3, a4, a5, a6, a7, b0, b1, b2, b3, b4, b5, z3, c0, c1, c2, c3, l0, l1, l2, l3, _, _, _⟩ := HFC.out _ _ _ _ _ _  hM10 hsl8 hsq; rw [HQF.out] at c1; have hM11 := hM10.setT ho10 hn10 HLT4.out HFD.out HFB.out; obtain ⟨x0, x1, x2, _, x4, _, _, _, y0, _, _, _, _, y5, _, _, q1, _⟩ := HFC.out _ _ _ _ _ _ hM11 hsl8 hsq; rw [HQF.out] at q1; have KEEP : Hid _ := And.intro x0 (And.intro x1 (And.intro x2 (And.intro x4 (And.intro q1 (And.intro y0 y5))))); have HM11 : Hid _ := hM11; clear hM11 x0 x1 x2 x4 y0 y5 q1; have HM10 : Hid _ := hM10; have HO10 : Hid _ := ho10; have HN10 : Hid _ := hn10; clear hM10 ho10 hn10)
    | (go_at_call 37; refine (HSP.out _ _ _ _ _ ((HD8.out).below ((Below.refl _ _).drew)) hsl8).mono ?_; rintro e' w9 ⟨a9, c9, rfl, hr9, hD9⟩; clear a0 a1 a2 a3 a4 a5 a6 a7 b0 b1 b2 b3 b4 b5 z3 c0 c1 c2 c3 l0 l1 l2 l3; obtain ⟨a0, a1, a2, a3, a4, a5, a6, a7, b0, b1, b2, b3, b4, b5, z3, c0, c1, c2, c3, l0, l1, l2, l3, _, _, _⟩ := HFC.out _ _ _ _ _ _  hD9.mid hsl8 hsq; rw [HQF.out] at c1; have HD9 : Hid _ := hD9; have HR9 : Hid _ := hr9; clear hD9 hr9))
  obtain ⟨W11, hW11⟩ : ∃ W11, W11 = w10.setCell ⟨db, 5, none⟩ (.slice a10 L.length c10) := ⟨_, rfl⟩
  rw [← hW11] at HM11 ⊢
  clear a0 a1 a2 a3 a4 a5 a6 a7 b0 b1 b2 b3 b4 b5 z3 c0 c1 c2 c3 l0 l1 l2 l3 hW11 KEEP
  obtain ⟨a0, a1, a2, a3, a4, a5, a6, a7, b0, b1, b2, b3, b4, b5, z3, c0, c1, c2, c3, l0, l1, l2, l3, _, _, _⟩ := HFC.out _ _ _ _ _ _  HM11.out hsl8 hsq
  rw [HQF.out] at c1
  go_wp2_with fail
  go_region
  obtain ⟨W12, hW12⟩ : ∃ W12, W12 = (W11.setCell ⟨qg, f, none⟩ (.int .i64 (qf + P.2.length))).drew := ⟨_, rfl⟩
  rw [← hW12]
  have hM12 := ((Hid.out HM11).setQ hsq f (qf + P.2.length) HFQ.out HQG.out HFB.out).below ((Below.refl _ _).drew)
  rw [← hW12] at hM12
  obtain ⟨sq8, hsq8⟩ : ∃ sq8, sq.set f (qf + (P.2.length : Int)) = sq8 := ⟨_, rfl⟩
  rw [hsq8] at hM12
  have hql8 : sq8.length = n := by rw [← hsq8, List.length_set]; exact hsq
  clear a0 a1 a2 a3 a4 a5 a6 a7 b0 b1 b2 b3 b4 b5 z3 c0 c1 c2 c3 l0 l1 l2 l3 hW12
  obtain ⟨a0, a1, a2, a3, a4, a5, a6, a7, b0, b1, b2, b3, b4, b5, z3, c0, c1, c2, c3, l0, l1, l2, l3, _, _, _⟩ := HFC.out _ _ _ _ _ _  hM12 hsl8 hql8
  have hAl : A < W12.heap.size := Nat.lt_trans hM12.lM l1
  have hFI := hM12.finish ⟨m, P.1⟩ hdl 48 HFD.out HFU.out (fun k hk e => by
    have h1 := hM12.lA
    have h2 := hM12.lM
    rcases hk with hk | hk | hk | hk | hk
    · have := HLT4.out k (.inl hk); omega
    · have := HLT4.out k (.inr (.inl hk)); omega
    · have := HLT4.out k (.inr (.inr (.inl hk))); omega
    · have := HN10.out k hk; omega
    · have := HLT4.out k (.inr (.inr (.inr hk))); omega) hAl
  have HM12 : Hid _ := hM12
  have HSQ8 : Hid _ := hsq8
  dsimp only [dcs] at hFI
  rw [HDD.out] at hFI
  obtain ⟨a', c', w13, hrun, hfz, hcl, hDB, hAB, hLL, hFr, hbl⟩ := hFI
  have HRUN2 : Hid _ := hrun
  have hDBc := dn_cells (x := ⟨⟨m.t, m.fr, m.sq, f, m.cl, m.bd⟩, P.1⟩) hDB
  have hABc := dn_cells (x := zeroD) hAB
  dsimp only at hDBc hABc
  have HDB : Hid _ := hDBc
  have HAB : Hid _ := hABc
  have HABX : Hid _ := hAB
  have HFin : Hid _ := And.intro hLL (And.intro hFr hbl)
  have HAE2 := HAE.out
  subst HAE2
  obtain ⟨ua, uc, hua⟩ := shape_of hM12.lay.u
  clear hrun hDB hAB hDBc hABc hLL hFr hbl hM12 hsq8 HRUN
  subst hua
  go_wp2_with fail
  go_region_law (refine step_append_run rfl (.tmp 125) (.tmp 127) 48 rfl (by simp [Act.eval]) (by simp [Act.eval]) HRUN2.out ?_)
  all_goals
    obtain ⟨t0, t1, t2, t3, t4, t5, t6, tf⟩ := HDB.out
    obtain ⟨u0, u1, u2, u3, u4, u5, u6, uf⟩ := HAB.out
    obtain ⟨W14, hW14⟩ : ∃ W14, W14 = w13.setCell ⟨db, 6, none⟩ (.slice a' (dn.length + 1) c') := ⟨_, rfl⟩
    rw [← hW14] at t0 t1 t2 t3 t4 t5 t6 tf u0 u1 u2 u3 u4 u5 u6 uf HABX HFin ⊢
    have hA14 : w.heap.size < W14.heap.size := clt u0
    have hD14 : W12.heap.size < W14.heap.size := clt t0
    have nA1 : ¬ w.heap.size = W12.heap.size := by omega
    have nA2 : ¬ W12.heap.size = w.heap.size := by omega
    clear a0 a1 a2 a3 a4 a5 a6 a7 b0 b1 b2 b3 b4 b5 z3 c0 c1 c2 c3 l0 l1 l2 l3 hW14 HRUN2 hfz hcl
    go_wp2_with fail
    generalize hwf : World.setCell _ _ _ = WF
    have hWF : WF = set7 W14 w.heap.size ⟨m, P.1⟩ := by
      rw [← hwf]
      simp only [set7]
      rw [HDD.out]
    have hFF := set7_heap (W := W14) (z := zeroD) HABX.out ⟨m, P.1⟩
    obtain ⟨hLL, hFr, hbl⟩ := HFin.out
    rw [← hWF] at hFF hLL hFr
    obtain ⟨m0, m1, m2, m3, m4, m5, m6, _⟩ := dn_cells hFF
    dsimp only at m0 m1 m2 m3 m4 m5 m6
    refine bodyPost_ret (v := .tuple #[dv ⟨m, P.1⟩, .bool true]) (by simp [results, Tryz.results13, go_sem, m0, m1, m2, m3, m4, m5, m6]) rfl ⟨rfl, .slice a10 L.length c10, .slice a' (dn.length + 1) c', ?_, hFr, fun k hk => ?_, hbl⟩
    · rw [HST8.out, HSQ8.out]
      exact hLL
    · have h1 := HN10.out k hk
      have h2 := (HM12.out).lM
      omega
end Go.Proofs.YtmfcbalhabcodaaGreat
