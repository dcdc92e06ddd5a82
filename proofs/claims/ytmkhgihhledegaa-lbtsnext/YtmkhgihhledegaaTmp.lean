/- Proved: contracts of the program's functions that reckon with times; no condition. -/
import Derived.Test.YtmkhgihhledegaaMbr
namespace Go.Proofs.Ytmkhgihhledegaa
open Go.RowKit Go.Shelf
open L (cnt vadd cnt_lo cnt_hi cnt_mid)
set_option linter.unusedVariables false

set_option maxHeartbeats 400000 in
theorem counted_any (t : Int) (w : World) :
    Calls Try.prog 26 #[.int .i64 t] w fun e w' => e = .returned (.int .i64 (cnt t)) ∧ w = w' := by
  by_cases h : 1099511627776 < t
  · rw [cnt_big h]
    go_enter Try.func26, Try.ntmps26
    go_wp2
    go_ret
    exact ⟨rfl, rfl⟩
  · by_cases h0 : t < 0
    · rw [cnt_low h0]
      have e : max t 0 = 0 := by omega
      go_enter Try.func26, Try.ntmps26
      go_wp2
      go_ret
      exact ⟨rfl, rfl⟩
    · rw [cnt_mid (by omega) (by omega)]
      have e : max t 0 = t := by omega
      go_enter Try.func26, Try.ntmps26
      go_wp2
      go_ret
      exact ⟨rfl, rfl⟩
set_option maxHeartbeats 400000 in
theorem add_any (t d : Int) (w : World) :
    Calls Try.prog 23 #[.int .i64 t, .int .i64 d] w fun e w' => e = .returned (.int .i64 (vadd t d)) ∧ w = w' := by
  have h1 := cnt_lo t
  have h2 : cnt t ≤ 1125899906842624 := cnt_hi t
  have h3 := cnt_lo d
  have h4 : cnt d ≤ 1125899906842624 := cnt_hi d
  go_enter Try.func23, Try.ntmps23
  go_wp2_with (go_at_call 26; refine (counted_any _ _).mono ?_; rintro e w' ⟨rfl, rfl⟩)
  go_ret
  exact ⟨rfl, rfl⟩
/-- The least of the first k of some numbers, each as it counts; Inf of none. -/
def lsF (o : Nat → Int) : Nat → Int
  | 0 => 1125899906842624
  | k + 1 => min (lsF o k) (cnt (o k))
set_option maxHeartbeats 400000 in
theorem least_any {N : Nat → Prop} {w : World} {a : Option Addr} {c : Nat} {zs : List Int} (h : RdN cI N w a zs) (hl : zs.length ≤ 100000) :
    Calls Try.prog 20 #[.slice a zs.length c] w fun e w' => e = .returned (.int .i64 (lsF (fn zs) zs.length)) ∧ w = w' := by
  have HR : Hid _ := h
  clear h
  go_enter Try.func20, Try.ntmps20
  go_wp2
  go_loop [3, 8] (fun n i => ∃ k : Nat, k ≤ zs.length ∧ i = .int .i64 k ∧ n = .int .i64 (lsF (fn zs) k)) (fun _ i => zs.length - (intOf i).toNat)
  case atStart => exact ⟨0, Nat.zero_le _, rfl, rfl⟩
  case round =>
    obtain ⟨k, hk, rfl, rfl⟩ := hrel
    by_cases hlt : k < zs.length
    · obtain ⟨x, hx⟩ : ∃ x, zs.getD k 0 = x := ⟨_, rfl⟩
      obtain ⟨b, off, rfl, hb, hcell⟩ := RdN.int HR.out hlt hx
      obtain ⟨m, hm⟩ : ∃ m, lsF (fn zs) k = m := ⟨_, rfl⟩
      have HS : Hid (lsF (fn zs) (k + 1) = min m (cnt x)) := by
        show _ = _
        rw [← hm, ← hx]
        rfl
      rw [hm]
      clear hx hm
      go_wp2_with (go_at_call 26; refine (counted_any _ _).mono ?_; rintro e w' ⟨rfl, rfl⟩)
      go_round
      case rel => exact ⟨k + 1, by omega, by go_num, by rw [HS.out]⟩
      case measure => simp [intOf]; omega
    · obtain rfl : k = zs.length := by omega
      go_wp2
      go_ret
      exact ⟨rfl, rfl⟩
end Go.Proofs.Ytmkhgihhledegaa
