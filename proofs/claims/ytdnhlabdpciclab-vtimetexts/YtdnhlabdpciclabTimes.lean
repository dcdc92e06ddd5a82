/- Contracts of the functions of layer 1 that reckon with times alone: each leaves the world as it is. -/
import Derived.Test.YtdnhlabdpciclabRows
import Derived.WalkKit
import Derived.WalkSpells
import Derived.WalkLawsBesides
import Derived.Test.YtdnhlabdpciclabPlain
namespace Go.Proofs.Ytdnhlabdpciclab
set_option linter.unusedVariables false

set_option maxHeartbeats 400000 in
theorem counted_any (t : Int) (w : World) :
    Calls Try.prog 18 #[.int .i64 t] w fun e w' => e = .returned (.int .i64 (cnt t)) ∧ w' = w := by
  by_cases h : 1099511627776 < t
  · rw [cnt_big h]
    go_enter Try.func18, Try.ntmps18
    go_wp2
    go_ret
    exact ⟨rfl, rfl⟩
  · by_cases h0 : t < 0
    · rw [cnt_low h0]
      go_enter Try.func18, Try.ntmps18
      go_wp2
      go_ret
      exact ⟨rfl, rfl⟩
    · rw [cnt_mid (by omega) (by omega)]
      go_enter Try.func18, Try.ntmps18
      go_wp2
      go_ret
      exact ⟨rfl, rfl⟩

set_option maxHeartbeats 400000 in
theorem time_any (t : Int) (w : World) :
    Calls Try.prog 19 #[.int .i64 t] w fun e w' => e = .returned (.int .i64 (cnt t)) ∧ w' = w := by
  by_cases h0 : t < 0
  · rw [cnt_low h0]
    go_enter Try.func19, Try.ntmps19
    go_wp2
    go_ret
    exact ⟨rfl, rfl⟩
  · by_cases h : 1099511627776 < t
    · rw [cnt_big h]
      go_enter Try.func19, Try.ntmps19
      go_wp2
      go_ret
      exact ⟨rfl, rfl⟩
    · rw [cnt_mid (by omega) (by omega)]
      go_enter Try.func19, Try.ntmps19
      go_wp2
      go_ret
      exact ⟨rfl, rfl⟩

def wthB (n m : Int) : Bool := decide (0 ≤ n ∧ n ≤ m)

set_option maxHeartbeats 400000 in
theorem within_any (n m : Int) (w : World) :
    Calls Try.prog 17 #[.int .i64 n, .int .i64 m] w fun e w' => e = .returned (.bool (wthB n m)) ∧ w' = w := by
  by_cases h : 0 ≤ n
  · by_cases g : n ≤ m
    · rw [show wthB n m = true from decide_eq_true ⟨h, g⟩]
      go_enter Try.func17, Try.ntmps17
      go_wp2
      go_ret
      exact ⟨rfl, rfl⟩
    · rw [show wthB n m = false from decide_eq_false (fun x => g x.2)]
      go_enter Try.func17, Try.ntmps17
      go_wp2
      go_ret
      exact ⟨rfl, rfl⟩
  · rw [show wthB n m = false from decide_eq_false (fun x => h x.1)]
    go_enter Try.func17, Try.ntmps17
    go_wp2
    go_ret
    exact ⟨rfl, rfl⟩

set_option maxHeartbeats 400000 in
theorem valid_any (t : Int) (w : World) :
    Calls Try.prog 8 #[.int .i64 t] w fun e w' => e = .returned (.bool (vldB t)) ∧ w' = w := by
  by_cases h : 0 ≤ t
  · by_cases g : t ≤ 1099511627776
    · rw [show vldB t = true from decide_eq_true (Or.inl ⟨h, g⟩)]
      go_enter Try.func8, Try.ntmps8
      go_wp2
      go_ret
      exact ⟨rfl, rfl⟩
    · by_cases k : t = 1125899906842624
      · rw [show vldB t = true from decide_eq_true (Or.inr k)]
        subst k
        go_enter Try.func8, Try.ntmps8
        go_wp2
        go_ret
        exact ⟨rfl, rfl⟩
      · rw [show vldB t = false from decide_eq_false (by omega)]
        have kb : (t == 1125899906842624) = false := by simpa using k
        go_enter Try.func8, Try.ntmps8
        go_wp2
        go_ret
        exact ⟨rfl, rfl⟩
  · rw [show vldB t = false from decide_eq_false (by omega)]
    have kb : (t == 1125899906842624) = false := by simp; omega
    go_enter Try.func8, Try.ntmps8
    go_wp2
    go_ret
    exact ⟨rfl, rfl⟩

set_option maxHeartbeats 400000 in
theorem refvalid_any (t : Int) (w : World) :
    Calls Try.prog 20 #[.int .i64 t] w fun e w' => e = .returned (.bool (vldB t)) ∧ w' = w := by
  by_cases h : 0 ≤ t
  · by_cases g : t ≤ 1099511627776
    · rw [show vldB t = true from decide_eq_true (Or.inl ⟨h, g⟩)]
      go_enter Try.func20, Try.ntmps20
      go_wp2
      go_ret
      exact ⟨rfl, rfl⟩
    · by_cases k : t = 1125899906842624
      · rw [show vldB t = true from decide_eq_true (Or.inr k)]
        subst k
        go_enter Try.func20, Try.ntmps20
        go_wp2
        go_ret
        exact ⟨rfl, rfl⟩
      · rw [show vldB t = false from decide_eq_false (by omega)]
        have kb : (t == 1125899906842624) = false := by simpa using k
        go_enter Try.func20, Try.ntmps20
        go_wp2
        go_ret
        exact ⟨rfl, rfl⟩
  · rw [show vldB t = false from decide_eq_false (by omega)]
    have kb : (t == 1125899906842624) = false := by simp; omega
    go_enter Try.func20, Try.ntmps20
    go_wp2
    go_ret
    exact ⟨rfl, rfl⟩

set_option maxHeartbeats 400000 in
theorem add_any (t d : Int) (w : World) :
    Calls Try.prog 9 #[.int .i64 t, .int .i64 d] w fun e w' => e = .returned (.int .i64 (vadd t d)) ∧ w' = w := by
  have h1 := cnt_lo t
  have h2 := cnt_hi t
  have h3 := cnt_lo d
  have h4 := cnt_hi d
  go_enter Try.func9, Try.ntmps9
  go_wp2_with (go_at_call 18; refine (counted_any _ _).mono ?_; rintro e w' ⟨rfl, rfl⟩)
  go_ret
  exact ⟨rfl, rfl⟩

end Go.Proofs.Ytdnhlabdpciclab
