/- Joined: the texts that follow, each with its own sentence. -/
import Derived.Test.YtiaopafkfadmkaaGreatZQc
/- Proved: how one message is put behind others; the contract of a Queue's Below. -/
namespace Go.Proofs.YtiaopafkfadmkaaGreat.Q
open Go.RowKit Go.Sort
set_option linter.unusedVariables false
set_option maxRecDepth 100000

end Go.Proofs.YtiaopafkfadmkaaGreat.Q
/- Proved: the contract of the document's own comparison of keys, with what it leaves in memory. -/
namespace Go.Proofs.YtiaopafkfadmkaaGreat.Q
open Go.RowKit Go.Sort
set_option linter.unusedVariables false
set_option maxRecDepth 100000

theorem grow2_zero (w : World) (o1 o2 : Obj) : (w.alloc o1).alloc o2 = grow (w.drewN 0) (#[o1] ++ #[o2]) := by
  rw [alloc_eq_grow, alloc_eq_grow, grow_grow]
  rfl

set_option maxHeartbeats 400000 in
theorem refg_lt1 (a1 a2 a3 b1 b2 b3 : Int) (w : World) (h : a1 < b1) :
    Calls Tryz.prog 40 #[.agg #[.int .i64 a1, .int .i64 a2, .int .i64 a3], .agg #[.int .i64 b1, .int .i64 b2, .int .i64 b3]] w
      fun e w' => e = .returned (.int .i64 (-1)) ∧ ∃ q os, w' = grow (w.drewN q) os := by
  have k1 : (a1 == b1) = false := by simp; omega
  go_enter Tryz.func40, Tryz.ntmps40
  go_wp2
  go_ret
  exact ⟨rfl, 0, _, grow2_zero _ _ _⟩

set_option maxHeartbeats 400000 in
theorem refg_gt1 (a1 a2 a3 b1 b2 b3 : Int) (w : World) (h : b1 < a1) :
    Calls Tryz.prog 40 #[.agg #[.int .i64 a1, .int .i64 a2, .int .i64 a3], .agg #[.int .i64 b1, .int .i64 b2, .int .i64 b3]] w
      fun e w' => e = .returned (.int .i64 1) ∧ ∃ q os, w' = grow (w.drewN q) os := by
  have k1 : (a1 == b1) = false := by simp; omega
  have k2 : ¬ a1 < b1 := by omega
  go_enter Tryz.func40, Tryz.ntmps40
  go_wp2
  go_ret
  exact ⟨rfl, 0, _, grow2_zero _ _ _⟩

set_option maxHeartbeats 400000 in
theorem refg_lt2 (a1 a2 a3 b2 b3 : Int) (w : World) (h : a2 < b2) :
    Calls Tryz.prog 40 #[.agg #[.int .i64 a1, .int .i64 a2, .int .i64 a3], .agg #[.int .i64 a1, .int .i64 b2, .int .i64 b3]] w
      fun e w' => e = .returned (.int .i64 (-1)) ∧ ∃ q os, w' = grow (w.drewN q) os := by
  have k1 : (a2 == b2) = false := by simp; omega
  go_enter Tryz.func40, Tryz.ntmps40
  go_wp2
  go_ret
  exact ⟨rfl, 0, _, grow2_zero _ _ _⟩

set_option maxHeartbeats 400000 in
theorem refg_gt2 (a1 a2 a3 b2 b3 : Int) (w : World) (h : b2 < a2) :
    Calls Tryz.prog 40 #[.agg #[.int .i64 a1, .int .i64 a2, .int .i64 a3], .agg #[.int .i64 a1, .int .i64 b2, .int .i64 b3]] w
      fun e w' => e = .returned (.int .i64 1) ∧ ∃ q os, w' = grow (w.drewN q) os := by
  have k1 : (a2 == b2) = false := by simp; omega
  have k2 : ¬ a2 < b2 := by omega
  go_enter Tryz.func40, Tryz.ntmps40
  go_wp2
  go_ret
  exact ⟨rfl, 0, _, grow2_zero _ _ _⟩

set_option maxHeartbeats 400000 in
theorem refg_lt3 (a1 a2 a3 b3 : Int) (w : World) (h : a3 < b3) :
    Calls Tryz.prog 40 #[.agg #[.int .i64 a1, .int .i64 a2, .int .i64 a3], .agg #[.int .i64 a1, .int .i64 a2, .int .i64 b3]] w
      fun e w' => e = .returned (.int .i64 (-1)) ∧ ∃ q os, w' = grow (w.drewN q) os := by
  have k1 : (a3 == b3) = false := by simp; omega
  go_enter Tryz.func40, Tryz.ntmps40
  go_wp2
  go_ret
  exact ⟨rfl, 0, _, grow2_zero _ _ _⟩

set_option maxHeartbeats 400000 in
theorem refg_gt3 (a1 a2 a3 b3 : Int) (w : World) (h : b3 < a3) :
    Calls Tryz.prog 40 #[.agg #[.int .i64 a1, .int .i64 a2, .int .i64 a3], .agg #[.int .i64 a1, .int .i64 a2, .int .i64 b3]] w
      fun e w' => e = .returned (.int .i64 1) ∧ ∃ q os, w' = grow (w.drewN q) os := by
  have k1 : (a3 == b3) = false := by simp; omega
  have k2 : ¬ a3 < b3 := by omega
  go_enter Tryz.func40, Tryz.ntmps40
  go_wp2
  go_ret
  exact ⟨rfl, 0, _, grow2_zero _ _ _⟩

set_option maxHeartbeats 400000 in
theorem refg_eq (a1 a2 a3 : Int) (w : World)  :
    Calls Tryz.prog 40 #[.agg #[.int .i64 a1, .int .i64 a2, .int .i64 a3], .agg #[.int .i64 a1, .int .i64 a2, .int .i64 a3]] w
      fun e w' => e = .returned (.int .i64 0) ∧ ∃ q os, w' = grow (w.drewN q) os := by
  go_enter Tryz.func40, Tryz.ntmps40
  go_wp2
  go_ret
  exact ⟨rfl, 0, _, grow2_zero _ _ _⟩

theorem refg_any (a b : K) (w : World) :
    Calls Tryz.prog 40 #[kv a, kv b] w
      fun e w' => e = .returned (.int .i64 (kcmp a b)) ∧ ∃ q os, w' = grow (w.drewN q) os := by
  obtain ⟨a1, a2, a3⟩ := a
  obtain ⟨b1, b2, b3⟩ := b
  by_cases h1 : a1 < b1
  · rw [show kcmp (a1, a2, a3) (b1, b2, b3) = -1 from by simp [kcmp, or3, cmpI, h1]]
    exact refg_lt1 _ _ _ _ _ _ w h1
  · by_cases g1 : b1 < a1
    · rw [show kcmp (a1, a2, a3) (b1, b2, b3) = 1 from by simp [kcmp, or3, cmpI, h1, g1]]
      exact refg_gt1 _ _ _ _ _ _ w g1
    · obtain rfl : b1 = a1 := by omega
      by_cases h2 : a2 < b2
      · rw [show kcmp (b1, a2, a3) (b1, b2, b3) = -1 from by simp [kcmp, or3, cmpI, h2]]
        exact refg_lt2 _ _ _ _ _ w h2
      · by_cases g2 : b2 < a2
        · rw [show kcmp (b1, a2, a3) (b1, b2, b3) = 1 from by simp [kcmp, or3, cmpI, h2, g2]]
          exact refg_gt2 _ _ _ _ _ w g2
        · obtain rfl : b2 = a2 := by omega
          by_cases h3 : a3 < b3
          · rw [show kcmp (b1, b2, a3) (b1, b2, b3) = -1 from by simp [kcmp, or3, cmpI, h3]]
            exact refg_lt3 _ _ _ _ w h3
          · by_cases g3 : b3 < a3
            · rw [show kcmp (b1, b2, a3) (b1, b2, b3) = 1 from by simp [kcmp, or3, cmpI, h3, g3]]
              exact refg_gt3 _ _ _ _ w g3
            · obtain rfl : b3 = a3 := by omega
              rw [show kcmp (b1, b2, b3) (b1, b2, b3) = 0 from by simp [kcmp, or3, cmpI]]
              exact refg_eq _ _ _ w

end Go.Proofs.YtiaopafkfadmkaaGreat.Q
/- Proved: contracts of the document's Insert and Without. -/
namespace Go.Proofs.YtiaopafkfadmkaaGreat.Q
open Go.RowKit Go.Sort
set_option linter.unusedVariables false
set_option maxRecDepth 100000

def anyLt (l : List M) (m : M) : Bool := l.any (fun x => klt m.1 x.1)
theorem ins_end {l : List M} {m : M} (h : anyLt l m = false) : ins l m = l ++ [m] := by
  induction l with
  | nil => rfl
  | cons y r ih =>
    simp only [anyLt, List.any_cons, Bool.or_eq_false_iff] at h
    simp only [ins]
    rw [if_neg (by rw [h.1]; simp), ih h.2]; rfl
theorem below_grown {B : Nat} {w0 W : World} (hb : Below B w0 W) (hB : B ≤ W.heap.size) (n : Nat) (os : Array Obj) : Below B w0 (grow (W.drewN n) os) := hb.trans ((below_grow W n os).mono hB)
theorem below_drewN {B : Nat} {w0 W : World} (hb : Below B w0 W) (n : Nat) : Below B w0 (W.drewN n) := ⟨hb.os, hb.tape, hb.output, hb.size, hb.block⟩

end Go.Proofs.YtiaopafkfadmkaaGreat.Q
