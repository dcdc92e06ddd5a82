/- Contracts of what compares keys in layer 1: keys. -/
import Derived.Test.YtdnhlabdpciclaaCmp0
import Derived.Deep.RegionHeld3
namespace Go.Proofs.Ytdnhlabdpciclaa
open Go.RowKit
set_option linter.unusedVariables false
/-- how the keys (T, From, Seq) stand to one another -/
def kcmp (a1 a2 a3 b1 b2 b3 : Int) : Int := or3 (cmpI a1 b1) (cmpI a2 b2) (cmpI a3 b3)

theorem or_new (a b c : Int) (blk : Nat) (W : World) (hb : W.heap.size = blk) :
    Calls Try.prog 24 #[.slice (some ⟨blk, 0, none⟩) 3 3] (W.alloc (.cells #[.int .i64 a, .int .i64 b, .int .i64 c] 3)).drew
      fun e w' => e = .returned (.int .i64 (or3 a b c)) ∧ w' = (W.alloc (.cells #[.int .i64 a, .int .i64 b, .int .i64 c] 3)).drew := by
  subst hb
  refine or_any a b c _ 0 3 _ ?_ ?_ ?_
  · go_simp
  · go_simp
  · go_simp

set_option maxHeartbeats 1000000 in
theorem cmp_any (a1 a2 a3 b1 b2 b3 : Int) (w : World) :
    Calls Try.prog 15 #[.agg #[.int .i64 a1, .int .i64 a2, .int .i64 a3], .agg #[.int .i64 b1, .int .i64 b2, .int .i64 b3]] w
      fun e w' => e = .returned (.int .i64 (kcmp a1 a2 a3 b1 b2 b3)) ∧ Below w.heap.size w w' := by
  go_enter Try.func15, Try.ntmps15
  go_wp2_with fail
  go_region_held3 (fun w' => w'.cell? ⟨w.heap.size, 0, none⟩ = some (.int .i64 a1) ∧ w'.cell? ⟨w.heap.size, 1, none⟩ = some (.int .i64 a2) ∧ w'.cell? ⟨w.heap.size, 2, none⟩ = some (.int .i64 a3) ∧ w'.cell? ⟨w.heap.size + 1, 0, none⟩ = some (.int .i64 b1) ∧ w'.cell? ⟨w.heap.size + 1, 1, none⟩ = some (.int .i64 b2) ∧ w'.cell? ⟨w.heap.size + 1, 2, none⟩ = some (.int .i64 b3)) (go_keep) (first | (go_at_call 25; refine (compare_any _ _ _).mono ?_; rintro e w' ⟨rfl, rfl⟩) | (go_at_call 24; refine (or_new _ _ _ _ _ ?_).mono ?_; (focus simp); rintro e w' ⟨rfl, rfl⟩))
  go_wp2
  go_ret
  refine ⟨rfl, ?_⟩
  exact ((((Below.refl _ _).alloc (Nat.le_refl _) _).alloc (by simp) _).alloc (by simp; omega) _).drew

/-- keys are one where all their parts are -/
theorem kcmp_zero (a1 a2 a3 b1 b2 b3 : Int) : kcmp a1 a2 a3 b1 b2 b3 = 0 ↔ (a1 = b1 ∧ a2 = b2 ∧ a3 = b3) := by
  unfold kcmp or3 cmpI
  repeat' split
  all_goals omega
end Go.Proofs.Ytdnhlabdpciclaa
