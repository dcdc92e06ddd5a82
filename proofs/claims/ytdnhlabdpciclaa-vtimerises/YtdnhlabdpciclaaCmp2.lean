/- Contract of the document's own comparison of keys in layer 1. -/
import Derived.Test.YtdnhlabdpciclaaCmp1
namespace Go.Proofs.Ytdnhlabdpciclaa
open Go.RowKit
set_option linter.unusedVariables false

set_option maxHeartbeats 400000 in
theorem refcmp_lt1 (a1 a2 a3 b1 b2 b3 : Int) (w : World) (h : a1 < b1) :
    Calls Try.prog 16 #[.agg #[.int .i64 a1, .int .i64 a2, .int .i64 a3], .agg #[.int .i64 b1, .int .i64 b2, .int .i64 b3]] w
      fun e w' => e = .returned (.int .i64 (-1)) ∧ Below w.heap.size w w' := by
  have k1 : (a1 == b1) = false := by simp; omega
  go_enter Try.func16, Try.ntmps16
  go_wp2
  go_ret
  exact ⟨rfl, ((Below.refl _ _).alloc (Nat.le_refl _) _).alloc (by simp) _⟩

set_option maxHeartbeats 400000 in
theorem refcmp_gt1 (a1 a2 a3 b1 b2 b3 : Int) (w : World) (h : b1 < a1) :
    Calls Try.prog 16 #[.agg #[.int .i64 a1, .int .i64 a2, .int .i64 a3], .agg #[.int .i64 b1, .int .i64 b2, .int .i64 b3]] w
      fun e w' => e = .returned (.int .i64 1) ∧ Below w.heap.size w w' := by
  have k1 : (a1 == b1) = false := by simp; omega
  have k2 : ¬ a1 < b1 := by omega
  go_enter Try.func16, Try.ntmps16
  go_wp2
  go_ret
  exact ⟨rfl, ((Below.refl _ _).alloc (Nat.le_refl _) _).alloc (by simp) _⟩

set_option maxHeartbeats 400000 in
theorem refcmp_lt2 (a1 a2 a3 b2 b3 : Int) (w : World) (h : a2 < b2) :
    Calls Try.prog 16 #[.agg #[.int .i64 a1, .int .i64 a2, .int .i64 a3], .agg #[.int .i64 a1, .int .i64 b2, .int .i64 b3]] w
      fun e w' => e = .returned (.int .i64 (-1)) ∧ Below w.heap.size w w' := by
  have k1 : (a2 == b2) = false := by simp; omega
  go_enter Try.func16, Try.ntmps16
  go_wp2
  go_ret
  exact ⟨rfl, ((Below.refl _ _).alloc (Nat.le_refl _) _).alloc (by simp) _⟩

set_option maxHeartbeats 400000 in
theorem refcmp_gt2 (a1 a2 a3 b2 b3 : Int) (w : World) (h : b2 < a2) :
    Calls Try.prog 16 #[.agg #[.int .i64 a1, .int .i64 a2, .int .i64 a3], .agg #[.int .i64 a1, .int .i64 b2, .int .i64 b3]] w
      fun e w' => e = .returned (.int .i64 1) ∧ Below w.heap.size w w' := by
  have k1 : (a2 == b2) = false := by simp; omega
  have k2 : ¬ a2 < b2 := by omega
  go_enter Try.func16, Try.ntmps16
  go_wp2
  go_ret
  exact ⟨rfl, ((Below.refl _ _).alloc (Nat.le_refl _) _).alloc (by simp) _⟩

set_option maxHeartbeats 400000 in
theorem refcmp_lt3 (a1 a2 a3 b3 : Int) (w : World) (h : a3 < b3) :
    Calls Try.prog 16 #[.agg #[.int .i64 a1, .int .i64 a2, .int .i64 a3], .agg #[.int .i64 a1, .int .i64 a2, .int .i64 b3]] w
      fun e w' => e = .returned (.int .i64 (-1)) ∧ Below w.heap.size w w' := by
  have k1 : (a3 == b3) = false := by simp; omega
  go_enter Try.func16, Try.ntmps16
  go_wp2
  go_ret
  exact ⟨rfl, ((Below.refl _ _).alloc (Nat.le_refl _) _).alloc (by simp) _⟩

set_option maxHeartbeats 400000 in
theorem refcmp_gt3 (a1 a2 a3 b3 : Int) (w : World) (h : b3 < a3) :
    Calls Try.prog 16 #[.agg #[.int .i64 a1, .int .i64 a2, .int .i64 a3], .agg #[.int .i64 a1, .int .i64 a2, .int .i64 b3]] w
      fun e w' => e = .returned (.int .i64 1) ∧ Below w.heap.size w w' := by
  have k1 : (a3 == b3) = false := by simp; omega
  have k2 : ¬ a3 < b3 := by omega
  go_enter Try.func16, Try.ntmps16
  go_wp2
  go_ret
  exact ⟨rfl, ((Below.refl _ _).alloc (Nat.le_refl _) _).alloc (by simp) _⟩

set_option maxHeartbeats 400000 in
theorem refcmp_eq (a1 a2 a3 : Int) (w : World)  :
    Calls Try.prog 16 #[.agg #[.int .i64 a1, .int .i64 a2, .int .i64 a3], .agg #[.int .i64 a1, .int .i64 a2, .int .i64 a3]] w
      fun e w' => e = .returned (.int .i64 0) ∧ Below w.heap.size w w' := by
  go_enter Try.func16, Try.ntmps16
  go_wp2
  go_ret
  exact ⟨rfl, ((Below.refl _ _).alloc (Nat.le_refl _) _).alloc (by simp) _⟩

theorem refcmp_any (a1 a2 a3 b1 b2 b3 : Int) (w : World) :
    Calls Try.prog 16 #[.agg #[.int .i64 a1, .int .i64 a2, .int .i64 a3], .agg #[.int .i64 b1, .int .i64 b2, .int .i64 b3]] w
      fun e w' => e = .returned (.int .i64 (kcmp a1 a2 a3 b1 b2 b3)) ∧ Below w.heap.size w w' := by
  by_cases h1 : a1 < b1
  · rw [show kcmp a1 a2 a3 b1 b2 b3 = -1 from by simp [kcmp, or3, cmpI, h1]]
    exact refcmp_lt1 _ _ _ _ _ _ w h1
  · by_cases g1 : b1 < a1
    · rw [show kcmp a1 a2 a3 b1 b2 b3 = 1 from by simp [kcmp, or3, cmpI, h1, g1]]
      exact refcmp_gt1 _ _ _ _ _ _ w g1
    · obtain rfl : b1 = a1 := by omega
      by_cases h2 : a2 < b2
      · rw [show kcmp b1 a2 a3 b1 b2 b3 = -1 from by simp [kcmp, or3, cmpI, h2]]
        exact refcmp_lt2 _ _ _ _ _ w h2
      · by_cases g2 : b2 < a2
        · rw [show kcmp b1 a2 a3 b1 b2 b3 = 1 from by simp [kcmp, or3, cmpI, h2, g2]]
          exact refcmp_gt2 _ _ _ _ _ w g2
        · obtain rfl : b2 = a2 := by omega
          by_cases h3 : a3 < b3
          · rw [show kcmp b1 b2 a3 b1 b2 b3 = -1 from by simp [kcmp, or3, cmpI, h3]]
            exact refcmp_lt3 _ _ _ _ w h3
          · by_cases g3 : b3 < a3
            · rw [show kcmp b1 b2 a3 b1 b2 b3 = 1 from by simp [kcmp, or3, cmpI, h3, g3]]
              exact refcmp_gt3 _ _ _ _ w g3
            · obtain rfl : b3 = a3 := by omega
              rw [show kcmp b1 b2 b3 b1 b2 b3 = 0 from by simp [kcmp, or3, cmpI]]
              exact refcmp_eq _ _ _ w

theorem cmpI_range (x y : Int) : cmpI x y = -1 ∨ cmpI x y = 0 ∨ cmpI x y = 1 := by
  unfold cmpI; repeat' split
  all_goals omega
theorem cmpI_swap (x y : Int) : cmpI y x = - cmpI x y := by
  unfold cmpI; repeat' split
  all_goals omega
theorem kcmp_range (a1 a2 a3 b1 b2 b3 : Int) : kcmp a1 a2 a3 b1 b2 b3 = -1 ∨ kcmp a1 a2 a3 b1 b2 b3 = 0 ∨ kcmp a1 a2 a3 b1 b2 b3 = 1 := by
  have h1 := cmpI_range a1 b1
  have h2 := cmpI_range a2 b2
  have h3 := cmpI_range a3 b3
  unfold kcmp or3; repeat' split
  all_goals assumption
theorem kcmp_swap (a1 a2 a3 b1 b2 b3 : Int) : kcmp b1 b2 b3 a1 a2 a3 = - kcmp a1 a2 a3 b1 b2 b3 := by
  unfold kcmp or3
  rw [cmpI_swap a1 b1, cmpI_swap a2 b2, cmpI_swap a3 b3]
  repeat' split
  all_goals omega
/-- a key ahead of another, as a plain relation -/
def kle (s : Int) (a1 a2 a3 b1 b2 b3 : Int) : Prop := a1 < b1 ∨ (a1 = b1 ∧ (a2 < b2 ∨ (a2 = b2 ∧ a3 < b3 + s)))
theorem kcmp_neg (a1 a2 a3 b1 b2 b3 : Int) : kcmp a1 a2 a3 b1 b2 b3 < 0 ↔ kle 0 a1 a2 a3 b1 b2 b3 := by
  unfold kcmp or3 cmpI kle
  repeat' split
  all_goals omega
theorem kcmp_nonpos (a1 a2 a3 b1 b2 b3 : Int) : kcmp a1 a2 a3 b1 b2 b3 ≤ 0 ↔ kle 1 a1 a2 a3 b1 b2 b3 := by
  unfold kcmp or3 cmpI kle
  repeat' split
  all_goals omega
theorem kle_trans (s t u : Int) (hs : 0 ≤ s) (ht : 0 ≤ t) (hu : s + t ≤ u + 1) (hu1 : u ≤ 1) (hs1 : s ≤ 1) (ht1 : t ≤ 1) (hsu : u = 0 → s = 0 ∨ t = 0) (a1 a2 a3 b1 b2 b3 c1 c2 c3 : Int) (h : kle s a1 a2 a3 b1 b2 b3) (g : kle t b1 b2 b3 c1 c2 c3) : kle u a1 a2 a3 c1 c2 c3 := by
  unfold kle at *
  omega
end Go.Proofs.Ytdnhlabdpciclaa
