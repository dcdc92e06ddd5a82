/- Proved: contracts of has, Log and State. -/
import Derived.Test.YtmfcbalhabcodaaGreatNx3
namespace Go.Proofs.YtmfcbalhabcodaaGreat
open Go.RowKit Go.Shelf
set_option linter.unusedVariables false

set_option maxRecDepth 100000 in
set_option maxHeartbeats 400000 in
theorem has_no {w : World} {rb : Nat} {D : Wd} {r : Rn} {F : Nat → Prop} (h : RunF rb D r w F) (f : Int) (hf : ¬ (0 ≤ f ∧ f < (D.fs.length : Int))) :
    Calls Tryz.prog 39 #[.pointer (some ⟨rb, 0, none⟩), .int .i64 f] w fun e w' => e = .returned (.bool false) ∧ w' = w := by
  obtain ⟨lo, hi, D', fv, pv, pb, E, hR, _⟩ := h
  obtain ⟨_, _, _, x3, _⟩ := hR.lay.cellsR
  obtain ⟨a, c, rfl⟩ := shape_of hR.lay.row
  have hel := hR.el
  have hl2 := hR.ok.ln.2
  rw [hel] at x3
  clear hR hel
  by_cases h0 : 0 ≤ f
  · have h1 : ¬ f < (D.fs.length : Int) := fun g => hf ⟨h0, g⟩
    have d0 : decide (0 ≤ f) = true := decide_eq_true h0
    have d1 : decide (f < (D.fs.length : Int)) = false := decide_eq_false h1
    go_enter Tryz.func39, Tryz.ntmps39
    go_wp2
    go_ret
    exact ⟨rfl, rfl⟩
  · have d0 : decide (0 ≤ f) = false := decide_eq_false h0
    go_enter Tryz.func39, Tryz.ntmps39
    go_wp2
    go_ret
    exact ⟨rfl, rfl⟩
set_option maxRecDepth 100000 in
set_option maxHeartbeats 400000 in
theorem has_yes {w : World} {rb : Nat} {D : Wd} {r : Rn} {F : Nat → Prop} (h : RunF rb D r w F) (i : Nat) (hi' : i < D.fs.length) :
    Calls Tryz.prog 39 #[.pointer (some ⟨rb, 0, none⟩), .int .i64 i] w fun e w' => e = .returned (.bool true) ∧ w' = w := by
  obtain ⟨lo, hi, D', fv, pv, pb, E, hR, _⟩ := h
  obtain ⟨_, _, _, x3, _⟩ := hR.lay.cellsR
  obtain ⟨a, c, rfl⟩ := shape_of hR.lay.row
  have hel := hR.el
  have hl2 := hR.ok.ln.2
  rw [hel] at x3
  clear hR hel
  have d0 : decide ((0 : Int) ≤ (i : Int)) = true := decide_eq_true (by omega)
  have d1 : decide ((i : Int) < (D.fs.length : Int)) = true := decide_eq_true (by omega)
  go_enter Tryz.func39, Tryz.ntmps39
  go_wp2
  go_ret
  exact ⟨rfl, rfl⟩
theorem log_none {D : Wd} {r : Rn} (hI : Inv D r) {f : Int} (hf : ¬ (0 ≤ f ∧ f < (D.fs.length : Int))) : logR r f = [] := by
  unfold logR
  rw [List.filter_eq_nil_iff]
  intro d hd
  have := hI.mem d.m (by unfold allR; exact List.mem_append.2 (.inl (List.mem_map.2 ⟨d, hd, rfl⟩)))
  simp only [decide_eq_true_eq]
  intro e
  rw [e] at this
  exact hf this.2.1

set_option maxRecDepth 100000 in
set_option maxHeartbeats 1000000 in
theorem log_any {w : World} {rb : Nat} {D : Wd} {r : Rn} {F : Nat → Prop} (h : RunF rb D r w F) (f : Int) (hl : r.dn.length ≤ 5000) :
    Calls Tryz.prog 22 #[.pointer (some ⟨rb, 0, none⟩), .int .i64 f] w fun e w' => ∃ a c, e = .returned (.slice a (logR r f).length c) ∧ RdD w' a (logR r f) ∧ Below w.heap.size w w' := by
  by_cases hf : 0 ≤ f ∧ f < (D.fs.length : Int)
  · obtain ⟨i, rfl⟩ := Int.eq_ofNat_of_zero_le hf.1
    have hi' : i < D.fs.length := by omega
    have C := has_yes h i hi'
    obtain ⟨lo, hi, D', fv, pv, pb, E, hR, _⟩ := h
    have hel := hR.el
    obtain ⟨fb, fc, hfv⟩ := own_some' hR.lay.row (by omega)
    subst hfv
    obtain ⟨_, _, _, x3, _⟩ := hR.lay.cellsR
    obtain ⟨e, he⟩ : ∃ e, nthE E i = e := ⟨_, rfl⟩
    obtain ⟨c0, c1, c2, _⟩ := hR.lay.cellsF rfl (by omega) he
    obtain ⟨_, _, g3⟩ := hR.fe i hi'
    have hrow := hR.lay.lgs i (by omega)
    rw [he] at g3 hrow
    have hll : e.lg.length ≤ 5000 := by rw [g3]; have := logR_le r (i : Int); omega
    have K := cloneD_any w e.la e.lg.length e.lc (flatD e.lg) (flatD_len _) (by omega) (flatD_one _) (fun hn => (rdD_row hrow).flat hn)
    have hi2 : (i : Int) < (E.length : Int) := by omega
    rw [← g3]
    clear hR hrow g3 he hel c0 c1
    go_enter Tryz.func22, Tryz.ntmps22
    go_wp2_with fail
    refine C.mono ?_
    rintro e' w1 ⟨rfl, hw1⟩
    have hw1' := hw1.symm
    subst hw1'
    go_wp2_with fail
    refine K.mono ?_
    rintro e' w2 ⟨a, c, rfl, ho, hb⟩
    go_wp2_with fail
    go_ret
    exact ⟨_, _, rfl, rdD_row ho, hb⟩
  · have C := has_no h f hf
    have hln : logR r f = [] := by
      obtain ⟨lo, hi, D', fv, pv, pb, E, hR, _⟩ := h
      exact log_none hR.inv hf
    rw [hln]
    clear h hf hln
    go_enter Tryz.func22, Tryz.ntmps22
    go_wp2_with fail
    refine C.mono ?_
    rintro e' w1 ⟨rfl, hw1⟩
    have hw1' := hw1.symm
    subst hw1'
    go_wp2_with fail
    go_ret
    exact ⟨_, _, rfl, fun g => absurd rfl g, Below.refl _ _⟩

set_option maxRecDepth 100000 in
set_option maxHeartbeats 1000000 in
theorem state_any {w : World} {rb : Nat} {D : Wd} {r : Rn} {F : Nat → Prop} (h : RunF rb D r w F) (f : Int) :
    Calls Tryz.prog 19 #[.pointer (some ⟨rb, 0, none⟩), .int .i64 f] w fun e w' => e = .returned (.int .i64 (staR r f)) ∧ w' = w := by
  have hls : r.st.length = D.fs.length := by
    obtain ⟨lo, hi, D', fv, pv, pb, E, hR, _⟩ := h
    exact hR.inv.ls
  by_cases hf : 0 ≤ f ∧ f < (D.fs.length : Int)
  · obtain ⟨i, rfl⟩ := Int.eq_ofNat_of_zero_le hf.1
    have hi' : i < D.fs.length := by omega
    have C := has_yes h i hi'
    obtain ⟨lo, hi, D', fv, pv, pb, E, hR, _⟩ := h
    have hel := hR.el
    obtain ⟨fb, fc, hfv⟩ := own_some' hR.lay.row (by omega)
    subst hfv
    obtain ⟨_, _, _, x3, _⟩ := hR.lay.cellsR
    obtain ⟨e, he⟩ : ∃ e, nthE E i = e := ⟨_, rfl⟩
    obtain ⟨c0, c1, c2, _⟩ := hR.lay.cellsF rfl (by omega) he
    obtain ⟨g1, _, _⟩ := hR.fe i hi'
    rw [he] at g1
    have hi2 : (i : Int) < (E.length : Int) := by omega
    rw [show staR r (i : Int) = e.st by unfold staR; rw [if_pos (by rw [hls]; exact hf), g1]; simp]
    clear hR g1 he hel c1 c2 hls hf
    go_enter Tryz.func19, Tryz.ntmps19
    go_wp2_with fail
    refine C.mono ?_
    rintro e' w1 ⟨rfl, hw1⟩
    have hw1' := hw1.symm
    subst hw1'
    go_wp2_with fail
    go_ret
    exact ⟨rfl, rfl⟩
  · have C := has_no h f hf
    rw [show staR r f = -1 by unfold staR; rw [if_neg (by rw [hls]; exact hf)]]
    clear h hf hls
    go_enter Tryz.func19, Tryz.ntmps19
    go_wp2_with fail
    refine C.mono ?_
    rintro e' w1 ⟨rfl, hw1⟩
    have hw1' := hw1.symm
    subst hw1'
    go_wp2_with fail
    go_ret
    exact ⟨rfl, rfl⟩
end Go.Proofs.YtmfcbalhabcodaaGreat
