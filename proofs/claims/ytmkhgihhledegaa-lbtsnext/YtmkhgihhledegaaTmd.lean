/- Proved: contracts of the document's functions that reckon with times; no condition. -/
import Derived.Test.YtmkhgihhledegaaBas
import Derived.Test.YtmkhgihhledegaaLbp
namespace Go.Proofs.Ytmkhgihhledegaa
open Go.RowKit Go.Shelf
open L (cnt vadd cnt_lo cnt_hi cnt_mid)
set_option linter.unusedVariables false

theorem cnt_big {t : Int} (h : 1099511627776 < t) : cnt t = 1125899906842624 := by unfold L.cnt; rw [if_pos h]
theorem cnt_low {t : Int} (h : t < 0) : cnt t = 0 := by unfold L.cnt; rw [if_neg (by omega), if_pos h]
set_option maxHeartbeats 400000 in
theorem time_any (t : Int) (w : World) :
    Calls Try.prog 22 #[.int .i64 t] w fun e w' => e = .returned (.int .i64 (cnt t)) ∧ w = w' := by
  by_cases h0 : t < 0
  · rw [cnt_low h0]
    go_enter Try.func22, Try.ntmps22
    go_wp2
    go_ret
    exact ⟨rfl, rfl⟩
  · by_cases h : 1099511627776 < t
    · rw [cnt_big h]
      go_enter Try.func22, Try.ntmps22
      go_wp2
      go_ret
      exact ⟨rfl, rfl⟩
    · rw [cnt_mid (by omega) (by omega)]
      go_enter Try.func22, Try.ntmps22
      go_wp2
      go_ret
      exact ⟨rfl, rfl⟩

theorem cnt_two (t : Int) : cnt t = 1125899906842624 ∨ cnt t ≤ 1099511627776 := by
  unfold L.cnt L.inf; split <;> (try split) <;> omega
set_option maxHeartbeats 400000 in
theorem refadd_any (t d : Int) (w : World) :
    Calls Try.prog 14 #[.int .i64 t, .int .i64 d] w fun e w' => e = .returned (.int .i64 (vadd t d)) ∧ w = w' := by
  have h1 := cnt_lo t
  have h3 := cnt_lo d
  rcases cnt_two t with ht | ht
  · have ev : vadd t d = 1125899906842624 := by unfold L.vadd; rw [ht]; exact cnt_big (by omega)
    rw [ev]
    have kb : (cnt t == 1125899906842624) = true := by simpa using ht
    clear ht
    go_enter Try.func14, Try.ntmps14
    go_wp2_with (go_at_call 22; refine (time_any _ _).mono ?_; rintro e w' ⟨rfl, rfl⟩)
    go_ret
    exact ⟨rfl, rfl⟩
  · have ka : (cnt t == 1125899906842624) = false := by simp; omega
    rcases cnt_two d with hd | hd
    · have ev : vadd t d = 1125899906842624 := by unfold L.vadd; rw [hd]; exact cnt_big (by omega)
      rw [ev]
      have kb : (cnt d == 1125899906842624) = true := by simpa using hd
      clear ht hd
      go_enter Try.func14, Try.ntmps14
      go_wp2_with (go_at_call 22; refine (time_any _ _).mono ?_; rintro e w' ⟨rfl, rfl⟩)
      go_ret
      exact ⟨rfl, rfl⟩
    · have kb : (cnt d == 1125899906842624) = false := by simp; omega
      go_enter Try.func14, Try.ntmps14
      go_wp2_with (go_at_call 22; refine (time_any _ _).mono ?_; rintro e w' ⟨rfl, rfl⟩)
      go_ret
      exact ⟨rfl, rfl⟩

set_option maxHeartbeats 400000 in
theorem dtime_any (t : Int) (w : World) :
    Calls Try.prog 25 #[.int .i64 t] w fun e w' => e = .returned (.int .i64 (cnt t)) ∧ w = w' := by
  have A := refadd_any t 0
  have e : vadd t 0 = cnt t := by
    unfold L.vadd
    rw [show cnt 0 = 0 by decide, Int.add_zero, L.cnt_cnt]
  simp only [e] at A
  clear e
  go_enter Try.func25, Try.ntmps25
  go_wp2_with (go_at_call 14; refine (A _).mono ?_; rintro e w' ⟨rfl, rfl⟩)
  go_ret
  exact ⟨rfl, rfl⟩
end Go.Proofs.Ytmkhgihhledegaa
