/- Proved: what is called of two runs beside each other, one of them the document's. -/
import Derived.Test.YtmfcbalhabcodaaGreatDc8
namespace Go.Proofs.YtmfcbalhabcodaaGreat
open Go.RowKit Go.Shelf
set_option linter.unusedVariables false

set_option maxRecDepth 100000 in
set_option maxHeartbeats 1000000 in
theorem dstate_no {w : World} {db : Nat} {D : Wd} {r : Rn} {F : Nat → Prop} (h : DocF db D r w F) (f : Int) (hf : ¬ (0 ≤ f ∧ f < (D.fs.length : Int))) :
    Calls Tryz.prog 20 #[.pointer (some ⟨db, 0, none⟩), .int .i64 f] w fun e w' => e = .returned (.int .i64 (-1)) ∧ Below w.heap.size w w' := by
  obtain ⟨sv, qv, tv, uv, hL, hI, _⟩ := h
  have hls := hI.ls
  obtain ⟨sa, sc, hsv⟩ := shape_of hL.s
  subst hsv
  obtain ⟨_, _, _, x3, _⟩ := hL.cells
  have ldb : db < w.heap.size := clt x3
  clear hL hI
  by_cases h0 : f < 0
  · have d0 : decide (f < 0) = true := decide_eq_true h0
    go_enter Tryz.func20, Tryz.ntmps20
    go_wp2_with fail
    go_ret
    exact ⟨rfl, Below.refl _ _⟩
  · have d0 : decide (f < 0) = false := decide_eq_false h0
    have h1 : f ≥ (r.st.length : Int) := by omega
    have h2 : (r.st.length : Int) ≤ f := h1
    have d1 : decide (f ≥ (r.st.length : Int)) = true := decide_eq_true h1
    go_enter Tryz.func20, Tryz.ntmps20
    go_wp2_with fail
    go_ret
    exact ⟨rfl, Below.refl _ _⟩
theorem Td.stateZ {w0 : World} {D : Wd} {rb db : Nat} {r1 r2 : Rn} {W : World} (h : Td w0 D rb db r1 r2 W) (f : Int) :
    Calls Tryz.prog 20 #[.pointer (some ⟨db, 0, none⟩), .int .i64 f] W fun e w' => e = .returned (.int .i64 (staR r2 f)) ∧ Below W.heap.size W w' := by
  obtain ⟨F, hF⟩ := L2.seeQ h
  have hI : Inv D r2 := by
    obtain ⟨sv, qv, tv, uv, hL, hI, _⟩ := hF
    exact hI
  have hls := hI.ls
  by_cases hf : 0 ≤ f ∧ f < (D.fs.length : Int)
  · obtain ⟨i, rfl⟩ := Int.eq_ofNat_of_zero_le hf.1
    rw [show staR r2 (i : Int) = nthI r2.st i by unfold staR; rw [if_pos (by rw [hls]; exact hf)]; simp]
    exact dstate_any hF i (by omega)
  · rw [show staR r2 f = -1 by unfold staR; rw [if_neg (by rw [hls]; exact hf)]]
    exact dstate_no hF f hf
theorem Td.logB {w0 : World} {D : Wd} {rb db : Nat} {r1 r2 : Rn} {W : World} (h : Td w0 D rb db r1 r2 W) (f : Int) (hl : r2.dn.length ≤ 5000) :
    Calls Tryz.prog 23 #[.pointer (some ⟨db, 0, none⟩), .int .i64 f] W fun e w' => ∃ a c, e = .returned (.slice a (logR r2 f).length c) ∧ RdD w' a (logR r2 f) ∧ Below W.heap.size W w' := by
  obtain ⟨F, hF⟩ := L2.seeQ h
  exact dlog_any hF f hl
theorem Td.waitA {w0 : World} {D : Wd} {rb db : Nat} {r1 r2 : Rn} {W : World} (h : Td w0 D rb db r1 r2 W) (hl : r1.dn.length ≤ 400) :
    Calls Tryz.prog 17 #[.pointer (some ⟨rb, 0, none⟩)] W fun e w' => ∃ a c, e = .returned (.slice a r1.wt.length c) ∧ RdM w' a r1.wt ∧ Below W.heap.size W w' := by
  obtain ⟨F, hF⟩ := L2.seeP h
  refine (waiting_any hF hl).mono fun e w' ⟨a, c, h1, h2⟩ => ?_
  obtain ⟨a2, c2, e2, h3⟩ := h2.rd
  simp at e2
  obtain ⟨rfl, rfl⟩ := e2
  exact ⟨a, c, h1, h3, h2.2⟩
theorem Td.waitB {w0 : World} {D : Wd} {rb db : Nat} {r1 r2 : Rn} {W : World} (h : Td w0 D rb db r1 r2 W) (hl : r2.dn.length ≤ 400) :
    Calls Tryz.prog 18 #[.pointer (some ⟨db, 0, none⟩)] W fun e w' => ∃ a c, e = .returned (.slice a r2.wt.length c) ∧ RdM w' a r2.wt ∧ Below W.heap.size W w' := by
  obtain ⟨F, hF⟩ := L2.seeQ h
  exact dwaiting_any hF hl
theorem Td.wl {w0 : World} {D : Wd} {rb db : Nat} {r1 r2 : Rn} {W : World} (h : Td w0 D rb db r1 r2 W) : r1.wt.length ≤ 256 + 24 * r1.dn.length := by
  obtain ⟨F, ⟨lo, hi, D', fv, pv, pb, E, hR, _⟩⟩ := L2.seeP h
  exact hR.wl
theorem Td.noA {w0 : World} {D : Wd} {rb db : Nat} {r1 r2 : Rn} {W : World} (h : Td w0 D rb db r1 r2 W) (hn : nxt D r1 = none) :
    Calls Tryz.prog 12 #[.pointer (some ⟨rb, 0, none⟩)] W fun e w' => e = .returned (.tuple #[dv zeroD, .bool false]) ∧ Td w0 D rb db r1 r2 w' := by
  obtain ⟨F, hF⟩ := L2.seeP h
  exact (next_no hF hn).mono fun e w' ⟨e1, e2⟩ => ⟨e1, h.below e2⟩
theorem Td.yesA {w0 : World} {D : Wd} {rb db : Nat} {r1 r2 : Rn} {W : World} (h : Td w0 D rb db r1 r2 W) {p : Rn × Dn} (hn : nxt D r1 = some p) (hl : r1.dn.length ≤ 500) :
    Calls Tryz.prog 12 #[.pointer (some ⟨rb, 0, none⟩)] W fun e w' => e = .returned (.tuple #[dv p.2, .bool true]) ∧ Td w0 D rb db p.1 r2 w' :=
  (L2.callP h (thD _ _ _) (fun F hF => next_yes hF hn hl)).mono fun e w' ⟨h1, h2, _⟩ => ⟨h1, h2⟩
/-- The document's Next, where a box was made since. -/
theorem Td.noB {w0 : World} {D : Wd} {rb db : Nat} {r1 r2 : Rn} {W : World} (h : Td w0 D rb db r1 r2 W) (hn : nxt D r2 = none) (x : Dn) :
    Calls Tryz.prog 13 #[.pointer (some ⟨db, 0, none⟩)] (W.alloc (.cells (dcs x) 40)) fun e w' => e = .returned (.tuple #[dv zeroD, .bool false]) ∧ Td w0 D rb db r1 r2 w' ∧ w'.heap[W.heap.size]? = some (.cells (dcs x) 40 (0, 0)) := by
  have hb := al W (.cells (dcs x) 40)
  have h1 := h.below hb
  have hx := World.alloc_heap_new W (.cells (dcs x) 40)
  obtain ⟨W1, hW1⟩ : ∃ W1, W1 = W.alloc (.cells (dcs x) 40) := ⟨_, rfl⟩
  rw [← hW1] at h1 hx ⊢
  obtain ⟨F, hF⟩ := L2.seeQ h1
  exact (dnext_no hF hn).mono fun e w' ⟨e1, e2⟩ => ⟨e1, h1.below e2, (e2.block _ (Array.getElem?_eq_some_iff.1 hx).1).trans hx⟩
theorem Td.yesB {w0 : World} {D : Wd} {rb db : Nat} {r1 r2 : Rn} {W : World} (h : Td w0 D rb db r1 r2 W) (hw : Ww w0 D) {p : Rn × Dn} (hn : nxt D r2 = some p) (hl : r2.dn.length ≤ 500) (x : Dn) :
    Calls Tryz.prog 13 #[.pointer (some ⟨db, 0, none⟩)] (W.alloc (.cells (dcs x) 40)) fun e w' => e = .returned (.tuple #[dv p.2, .bool true]) ∧ Td w0 D rb db r1 p.1 w' ∧ w'.heap[W.heap.size]? = some (.cells (dcs x) 40 (0, 0)) := by
  have hb := al W (.cells (dcs x) 40)
  have hx := World.alloc_heap_new W (.cells (dcs x) 40)
  have hl1 : W.heap.size < (W.alloc (.cells (dcs x) 40)).heap.size := by simp
  obtain ⟨W1, hW1⟩ : ∃ W1, W1 = W.alloc (.cells (dcs x) 40) := ⟨_, rfl⟩
  rw [← hW1] at hb hx hl1 ⊢
  have h1 := L2.news h (thR _ _ _) (thD _ _ _) hb W.heap.size (Nat.le_refl _) hl1
  refine (L2.callQ' h1 (thR _ _ _) (fun F hF hk => dnext_yes hw hF hk h1.bel hn hl)).mono ?_
  rintro e w' ⟨e1, e2, e3⟩
  exact ⟨e1, e2.bare, (e3.block _ hl1 (fun g => g rfl)).trans hx⟩
end Go.Proofs.YtmfcbalhabcodaaGreat
