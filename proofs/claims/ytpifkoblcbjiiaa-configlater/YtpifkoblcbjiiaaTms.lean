/- Proved: contracts of the functions that reckon with times, and of the two that make a message that is sent; no condition. -/
import Derived.WalkKit
import Derived.WalkSpells
import Derived.WalkLawsBesides
import Derived.Below
import Derived.OwnWalk
import Derived.Deep.RegionHeld3
import Derived.Lib.QuietBelow
import Derived.Test.YtpifkoblcbjiiaaProg
namespace Go.Proofs.Ytpifkoblcbjiiaa
open Go.RowKit
set_option linter.unusedVariables false

/-- What a number counts as where a time is asked for. -/
def cnt (t : Int) : Int := if t > 1099511627776 then 1125899906842624 else if t < 0 then 0 else t
def vadd (t d : Int) : Int := cnt (cnt t + cnt d)
theorem cnt_lo (t : Int) : 0 ≤ cnt t := by unfold cnt; split <;> (try split) <;> omega
theorem cnt_hi (t : Int) : cnt t ≤ 1125899906842624 := by unfold cnt; split <;> (try split) <;> omega
theorem cnt_big {t : Int} (h : 1099511627776 < t) : cnt t = 1125899906842624 := by unfold cnt; rw [if_pos h]
theorem cnt_mid {t : Int} (h0 : 0 ≤ t) (h : t ≤ 1099511627776) : cnt t = t := by
  unfold cnt; rw [if_neg (by omega), if_neg (by omega)]
theorem cnt_low {t : Int} (h : t < 0) : cnt t = 0 := by
  unfold cnt; rw [if_neg (by omega), if_pos h]
theorem cnt_two (t : Int) : cnt t = 1125899906842624 ∨ cnt t ≤ 1099511627776 := by
  unfold cnt; split <;> (try split) <;> omega

set_option maxHeartbeats 400000 in
theorem counted_any (t : Int) (w : World) :
    Calls Try.prog 71 #[.int .i64 t] w fun e w' => e = .returned (.int .i64 (cnt t)) ∧ w = w' := by
  by_cases h : 1099511627776 < t
  · rw [cnt_big h]
    go_enter Try.func71, Try.ntmps71
    go_wp2
    go_ret
    exact ⟨rfl, rfl⟩
  · by_cases h0 : t < 0
    · rw [cnt_low h0]
      go_enter Try.func71, Try.ntmps71
      go_wp2
      go_ret
      exact ⟨rfl, rfl⟩
    · rw [cnt_mid (by omega) (by omega)]
      go_enter Try.func71, Try.ntmps71
      go_wp2
      go_ret
      exact ⟨rfl, rfl⟩

set_option maxHeartbeats 400000 in
theorem time_any (t : Int) (w : World) :
    Calls Try.prog 72 #[.int .i64 t] w fun e w' => e = .returned (.int .i64 (cnt t)) ∧ w = w' := by
  by_cases h0 : t < 0
  · rw [cnt_low h0]
    go_enter Try.func72, Try.ntmps72
    go_wp2
    go_ret
    exact ⟨rfl, rfl⟩
  · by_cases h : 1099511627776 < t
    · rw [cnt_big h]
      go_enter Try.func72, Try.ntmps72
      go_wp2
      go_ret
      exact ⟨rfl, rfl⟩
    · rw [cnt_mid (by omega) (by omega)]
      go_enter Try.func72, Try.ntmps72
      go_wp2
      go_ret
      exact ⟨rfl, rfl⟩

set_option maxHeartbeats 400000 in
theorem add_any (t d : Int) (w : World) :
    Calls Try.prog 55 #[.int .i64 t, .int .i64 d] w fun e w' => e = .returned (.int .i64 (vadd t d)) ∧ w = w' := by
  have h1 := cnt_lo t
  have h2 := cnt_hi t
  have h3 := cnt_lo d
  have h4 := cnt_hi d
  go_enter Try.func55, Try.ntmps55
  go_wp2_with (go_at_call 71; refine (counted_any _ _).mono ?_; rintro e w' ⟨rfl, rfl⟩)
  go_ret
  exact ⟨rfl, rfl⟩

set_option maxHeartbeats 400000 in
theorem refadd_any (t d : Int) (w : World) :
    Calls Try.prog 57 #[.int .i64 t, .int .i64 d] w fun e w' => e = .returned (.int .i64 (vadd t d)) ∧ w = w' := by
  have h1 := cnt_lo t
  have h3 := cnt_lo d
  rcases cnt_two t with ht | ht
  · have ev : vadd t d = 1125899906842624 := by unfold vadd; rw [ht]; exact cnt_big (by omega)
    rw [ev]
    have kb : (cnt t == 1125899906842624) = true := by simpa using ht
    clear ht
    go_enter Try.func57, Try.ntmps57
    go_wp2_with (go_at_call 72; refine (time_any _ _).mono ?_; rintro e w' ⟨rfl, rfl⟩)
    go_ret
    exact ⟨rfl, rfl⟩
  · have ka : (cnt t == 1125899906842624) = false := by simp; omega
    rcases cnt_two d with hd | hd
    · have ev : vadd t d = 1125899906842624 := by unfold vadd; rw [hd]; exact cnt_big (by omega)
      rw [ev]
      have kb : (cnt d == 1125899906842624) = true := by simpa using hd
      clear ht hd
      go_enter Try.func57, Try.ntmps57
      go_wp2_with (go_at_call 72; refine (time_any _ _).mono ?_; rintro e w' ⟨rfl, rfl⟩)
      go_ret
      exact ⟨rfl, rfl⟩
    · have kb : (cnt d == 1125899906842624) = false := by simp; omega
      go_enter Try.func57, Try.ntmps57
      go_wp2_with (go_at_call 72; refine (time_any _ _).mono ?_; rintro e w' ⟨rfl, rfl⟩)
      go_ret
      exact ⟨rfl, rfl⟩

theorem tmod_parts (n : Int) : -1000 < n.tmod 1000 ∧ n.tmod 1000 < 1000 ∧ ∃ q : Int, n = 1000 * q + n.tmod 1000 := by
  have h := Int.mul_tdiv_add_tmod n 1000
  by_cases h0 : 0 ≤ n
  · have e : n.tmod 1000 = n % 1000 := Int.tmod_eq_emod_of_nonneg h0
    exact ⟨by omega, by omega, _, h.symm⟩
  · have e : (-n).tmod 1000 = (-n) % 1000 := Int.tmod_eq_emod_of_nonneg (by omega)
    rw [Int.neg_tmod] at e
    exact ⟨by omega, by omega, _, h.symm⟩
theorem tmod_pos {n : Int} (h : 0 ≤ n) : n.tmod 1000 = n % 1000 := Int.tmod_eq_emod_of_nonneg h
theorem ref_eq (n a m b r : Int) (h1 : ∃ q : Int, n = 1000 * q + m) (h2 : ∃ q : Int, a = 1000 * q + b) (h3 : ∃ q : Int, m + b = 1000 * q + r) : (r + 1000) % 1000 = (n + a) % 1000 := by
  obtain ⟨q1, h1⟩ := h1
  obtain ⟨q2, h2⟩ := h2
  obtain ⟨q3, h3⟩ := h3
  omega
theorem two_eq (n a : Int) : (n % 1000 + a % 1000) % 1000 = (n + a) % 1000 := by omega

set_option maxHeartbeats 400000 in
theorem wrapped_any (n : Int) (w : World) :
    Calls Try.prog 56 #[.int .i64 n] w fun e w' => e = .returned (.int .i64 (n % 1000)) ∧ w = w' := by
  obtain ⟨h1, h2, q, hq⟩ := tmod_parts n
  obtain ⟨m, hm⟩ : ∃ m, n.tmod 1000 = m := ⟨_, rfl⟩
  rw [hm] at h1 h2 hq
  have h3 : (m + 1000) % 1000 = n % 1000 := by omega
  clear hq
  rw [← h3]
  clear h3
  go_enter Try.func56, Try.ntmps56
  go_wp2
  go_ret
  exact ⟨rfl, rfl⟩
end Go.Proofs.Ytpifkoblcbjiiaa
