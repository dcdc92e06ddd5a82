/- Proved: contracts of the functions that tell which numbers are times; no condition. -/
import Derived.Test.YtdfjmnckgcpmgaaBas
import Derived.Test.YtdfjmnckgcpmgaaCpl
namespace Go.Proofs.Ytdfjmnckgcpmgaa
open Go.RowKit Go.Shelf
open K (okT)
set_option linter.unusedVariables false

set_option maxHeartbeats 400000 in
theorem within_any (t m : Int) (w : World) :
    Calls Try.prog 36 #[.int .i64 t, .int .i64 m] w fun e w' => e = .returned (.bool (decide (0 ≤ t ∧ t ≤ m))) ∧ w = w' := by
  by_cases h : 0 ≤ t
  · by_cases h2 : t ≤ m
    · have e : decide (0 ≤ t ∧ t ≤ m) = true := by simp; omega
      rw [e]
      go_enter Try.func36, Try.ntmps36
      go_wp2
      go_ret
      exact ⟨rfl, rfl⟩
    · have e : decide (0 ≤ t ∧ t ≤ m) = false := by simp; omega
      rw [e]
      go_enter Try.func36, Try.ntmps36
      go_wp2
      go_ret
      exact ⟨rfl, rfl⟩
  · have e : decide (0 ≤ t ∧ t ≤ m) = false := by simp; omega
    rw [e]
    go_enter Try.func36, Try.ntmps36
    go_wp2
    go_ret
    exact ⟨rfl, rfl⟩
set_option maxHeartbeats 400000 in
theorem valid_any (t : Int) (w : World) :
    Calls Try.prog 26 #[.int .i64 t] w fun e w' => e = .returned (.bool (okT t)) ∧ w = w' := by
  have C := within_any t 1099511627776
  by_cases h : 0 ≤ t ∧ t ≤ 1099511627776
  · have e1 : decide (0 ≤ t ∧ t ≤ 1099511627776) = true := by simpa using h
    have e : okT t = true := by unfold okT K.inf; simp; omega
    rw [e]
    simp only [e1] at C
    clear h e1
    go_enter Try.func26, Try.ntmps26
    go_wp2_with (go_at_call 36; refine (C _).mono ?_; rintro e w' ⟨rfl, rfl⟩)
    go_ret
    exact ⟨rfl, rfl⟩
  · have e1 : decide (0 ≤ t ∧ t ≤ 1099511627776) = false := by simpa using h
    simp only [e1] at C
    by_cases h2 : t = 1125899906842624
    · have d : (t == 1125899906842624) = true := by simpa using h2
      have e : okT t = true := by unfold okT K.inf; simp; omega
      rw [e]
      clear h e1 h2
      go_enter Try.func26, Try.ntmps26
      go_wp2_with (go_at_call 36; refine (C _).mono ?_; rintro e w' ⟨rfl, rfl⟩)
      go_ret
      exact ⟨rfl, rfl⟩
    · have d : (t == 1125899906842624) = false := by simpa using h2
      have e : okT t = false := by unfold okT K.inf; simp; omega
      rw [e]
      clear h e1 h2
      go_enter Try.func26, Try.ntmps26
      go_wp2_with (go_at_call 36; refine (C _).mono ?_; rintro e w' ⟨rfl, rfl⟩)
      go_ret
      exact ⟨rfl, rfl⟩
set_option maxHeartbeats 400000 in
theorem refvalid_any (t : Int) (w : World) :
    Calls Try.prog 28 #[.int .i64 t] w fun e w' => e = .returned (.bool (okT t)) ∧ w = w' := by
  by_cases h0 : 0 ≤ t
  · by_cases h1 : t ≤ 1099511627776
    · have e : okT t = true := by unfold okT K.inf; simp; omega
      rw [e]
      go_enter Try.func28, Try.ntmps28
      go_wp2
      go_ret
      exact ⟨rfl, rfl⟩
    · by_cases h2 : t = 1125899906842624
      · have d : (t == 1125899906842624) = true := by simpa using h2
        have e : okT t = true := by unfold okT K.inf; simp; omega
        rw [e]
        clear h2
        go_enter Try.func28, Try.ntmps28
        go_wp2
        go_ret
        exact ⟨rfl, rfl⟩
      · have d : (t == 1125899906842624) = false := by simpa using h2
        have e : okT t = false := by unfold okT K.inf; simp; omega
        rw [e]
        clear h2
        go_enter Try.func28, Try.ntmps28
        go_wp2
        go_ret
        exact ⟨rfl, rfl⟩
  · have d : (t == 1125899906842624) = false := by simp; omega
    have e : okT t = false := by unfold okT K.inf; simp; omega
    rw [e]
    go_enter Try.func28, Try.ntmps28
    go_wp2
    go_ret
    exact ⟨rfl, rfl⟩
end Go.Proofs.Ytdfjmnckgcpmgaa
