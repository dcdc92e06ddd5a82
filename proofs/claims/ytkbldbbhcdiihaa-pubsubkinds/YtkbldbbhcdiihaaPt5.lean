/- Proved: the program's Route at its table. -/
import Derived.Test.YtkbldbbhcdiihaaPt4
namespace Go.Proofs.Ytkbldbbhcdiihaa
open Go.RowKit Go.Shelf
set_option linter.unusedVariables false

theorem routeG_succ (zs : List Int) (s : Tab) (f c : Int) (n : Nat) : routeG zs s f c (n + 1) = routeG zs s f c n ++ (if (!((n : Int) == f) && hearB zs s (n : Int) c) = true then [(n : Int)] else []) := by
  unfold routeG
  rw [List.range_succ, List.filter_append, List.map_append]
  congr 1
  by_cases e : (!((n : Int) == f) && hearB zs s (n : Int) c) = true
  · simp [e, List.filter]
  · have e' : (!((n : Int) == f) && hearB zs s (n : Int) c) = false := by simpa using e
    simp [e', List.filter]
theorem routeG_len (zs : List Int) (s : Tab) (f c : Int) (n : Nat) : (routeG zs s f c n).length ≤ n := by
  unfold routeG
  rw [List.length_map]
  exact Nat.le_trans (List.length_filter_le _ _) (by simp)
theorem pubB_ok {n : Nat} {p : Tab} {f c : Int} (h : pubB n p f c = true) : okFC n f c = 0 := by
  unfold pubB at h
  simp at h
  exact h.1

set_option maxRecDepth 100000 in
set_option maxHeartbeats 2000000 in
theorem proute_any {w : World} {F : Nat → Prop} {tb : Nat} {zs : List Int} {p s : Tab} (h : PT tb zs p s w F) (f c : Int) :
    Calls Try.prog 14 #[.pointer (some ⟨tb, 0, none⟩), .int .i64 f, .int .i64 c] w fun e w' => ∃ a' c', e = .returned (.tuple #[.slice a' (toB zs p s f c).length c', .int .i64 (errB zs p f c)]) ∧ RdI w' w'.heap.size a' (toB zs p s f c) ∧ Below w.heap.size w w' := by
  obtain ⟨i0, hi, hz0, hz1, hz2⟩ := info_parts info3
  have PB := ppubs_any h f c
  have HT : Hid (PT tb zs p s w F) := h
  obtain ⟨U, V, az, cz, h⟩ := h
  have C := pchk_any w tb az cz zs f c h.c0
  clear h
  by_cases e : okFC zs.length f c = 0
  · by_cases hp : pubB zs.length p f c = true
    · have e1 : errB zs p f c = 0 := by unfold errB; rw [if_neg (fun g => g e), if_pos hp]
      have e2 : toB zs p s f c = routeG zs s f c 8 := by unfold toB; rw [if_pos hp]
      rw [e1, e2]
      rw [e] at C
      rw [hp] at PB
      obtain ⟨R, hR⟩ : ∃ R, routeG zs s f c 8 = R := ⟨_, rfl⟩
      rw [hR]
      have HR : Hid _ := hR
      clear hR e1 e2 e hp
      go_enter Try.func14, Try.ntmps14
      go_wp2_with (first | (go_at_call 29; refine C.mono ?_; rintro e w' ⟨rfl, rfl⟩; clear C) | (go_at_call 17; refine PB.mono ?_; rintro e w' ⟨rfl, rfl⟩; clear PB))
      go_loopw [9, 23] (fun s9 s10 wr => ∃ k : Nat, k ≤ 8 ∧ s10 = .int .i64 k ∧ Hid (Row w wr s9 (routeG zs s f c k))) (fun _ s10 _ => 8 - (intOf s10).toNat)
      case atStart => exact ⟨0, by omega, rfl, Row.nil w⟩
      case round =>
        obtain ⟨k, hk, rfl, HW⟩ := hrel
        have hs := routeG_succ zs s f c k
        have hlen := routeG_len zs s f c k
        by_cases hk8 : k < 8
        · have hk' : (k : Int) < 8 := by omega
          by_cases hkf : (k : Int) = f
          · have d1 : ((k : Int) == f) = true := by simpa using hkf
            rw [d1] at hs
            simp only [Bool.not_true, Bool.false_and, Bool.false_eq_true, if_false, List.append_nil] at hs
            have HN : Hid _ := hs
            clear hs
            subst hkf
            go_wp2
            go_roundw
            case rel => exact ⟨k + 1, by omega, by go_num, by show Row _ _ _ _; rw [HN.out]; exact HW.out⟩
            case measure => simp [intOf]; omega
          · have d1 : ((k : Int) == f) = false := by simpa using hkf
            rw [d1] at hs
            simp only [Bool.not_false, Bool.true_and] at hs
            have H1 := phears_any ((thP tb zs p s).below HT.out (Hid.out HW).2) (k : Int) c
            by_cases hh : hearB zs s (k : Int) c = true
            · rw [if_pos hh] at hs
              rw [hh] at H1
              have HN : Hid _ := hs
              obtain ⟨L, hL⟩ : ∃ L, routeG zs s f c k = L := ⟨_, rfl⟩
              rw [hL] at HN HW hlen
              clear hs hL hh
              go_wp2_with (first | (go_at_call 19; refine H1.mono ?_; rintro e w1 ⟨rfl, hb1⟩; have HW1 : Hid _ := Row.below HW.out hb1; clear H1) | (at_builtin; refine wpList_append_own _ rfl _ _ 22 rfl w.heap.size 3 i0 (.int .i64 0) 1 8 Try.underlying22 hi hz0 hz1 hz2 rfl (by decide) _ _ _ rfl (HW1.out.1.alloc _) ⟨w1.heap.size, 0, none⟩ 1 1 [.int .i64 k] rfl rfl (cell_one_new _ _ _) (by simp [Value.oneCell']) (by unfold maxLen; omega) (by omega) (by have := HW1.out.2.size; simp; omega) ?_))
              intro v' w2 hown' hgrow _
              have HW2 : Hid _ := Row.app HW1.out hown' hgrow
              clear hown' hgrow
              go_wp2
              go_roundw
              case rel => exact ⟨k + 1, by omega, by go_num, by show Row _ _ _ _; rw [HN.out]; exact HW2.out⟩
              case measure => simp [intOf]; omega
            · rw [if_neg hh, List.append_nil] at hs
              rw [show hearB zs s (k : Int) c = false by simpa using hh] at H1
              have HN : Hid _ := hs
              clear hs hh
              go_wp2_with (go_at_call 19; refine H1.mono ?_; rintro e w1 ⟨rfl, hb1⟩; have HW1 : Hid _ := Row.below HW.out hb1; clear H1)
              go_roundw
              case rel => exact ⟨k + 1, by omega, by go_num, by show Row _ _ _ _; rw [HN.out]; exact HW1.out⟩
              case measure => simp [intOf]; omega
        · obtain rfl : k = 8 := by omega
          have hW : Row _ _ _ _ := HW.out
          rw [HR.out] at hW
          obtain ⟨a', c', rfl, hRd⟩ := hW.rd
          have HRD2 : Hid _ := hRd
          clear hRd hs
          go_wp2
          go_ret2
          first | exact ⟨a', c', rfl, HRD2.out, hW.2⟩ | exact ⟨a', ⟨c', rfl⟩, HRD2.out, hW.2⟩
    · have hp' : pubB zs.length p f c = false := by simpa using hp
      have e1 : errB zs p f c = 211 := by unfold errB; rw [if_neg (fun g => g e), if_neg hp]
      have e2 : toB zs p s f c = [] := by unfold toB; rw [if_neg hp]
      rw [e1, e2]
      rw [e] at C
      rw [hp'] at PB
      clear e1 e2 e hp hp'
      go_enter Try.func14, Try.ntmps14
      go_wp2_with (first | (go_at_call 29; refine C.mono ?_; rintro e w' ⟨rfl, rfl⟩; clear C) | (go_at_call 17; refine PB.mono ?_; rintro e w' ⟨rfl, rfl⟩; clear PB))
      go_ret2
      exact ⟨none, 0, rfl, fun g => absurd rfl g, Below.refl _ _⟩
  · have hp : ¬ pubB zs.length p f c = true := fun g => e (pubB_ok g)
    have e1 : errB zs p f c = okFC zs.length f c := by unfold errB; rw [if_pos e]
    have e2 : toB zs p s f c = [] := by unfold toB; rw [if_neg hp]
    rw [e1, e2]
    obtain ⟨r, hr⟩ : ∃ r, okFC zs.length f c = r := ⟨_, rfl⟩
    rw [hr] at C e ⊢
    have d0 : (r == 0) = false := by simpa using e
    clear hr e1 e2 hp
    go_enter Try.func14, Try.ntmps14
    go_wp2_with (go_at_call 29; refine C.mono ?_; rintro e w' ⟨rfl, rfl⟩; clear C)
    go_ret2
    exact ⟨none, 0, rfl, fun g => absurd rfl g, Below.refl _ _⟩
end Go.Proofs.Ytkbldbbhcdiihaa
