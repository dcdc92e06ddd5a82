/- Contracts of what tells the least of some numbers. -/
import Derived.Test.YtdnhlabdpciclaaTimes
import Derived.LoopTactic
import Derived.Outline
import Derived.Below
namespace Go.Proofs.Ytdnhlabdpciclaa
open Go.RowKit
set_option linter.unusedVariables false

/-- the least of the first k numbers, each as it counts; Inf of none -/
def lstTo (zs : List Int) : Nat → Int
  | 0 => 1125899906842624
  | k + 1 => if lstTo zs k ≤ cnt (zs.getD k 0) then lstTo zs k else cnt (zs.getD k 0)

theorem lst_vld (zs : List Int) (k : Nat) : vldB (lstTo zs k) = true := by
  induction k with
  | zero => rfl
  | succ k ih => unfold lstTo; split; exact ih; exact cnt_vld _

theorem lst_step (zs : List Int) (k : Nat) : lstTo zs (k + 1) ≤ lstTo zs k ∧ lstTo zs (k + 1) ≤ cnt (zs.getD k 0) := by
  constructor
  · rw [lstTo]; split <;> omega
  · rw [lstTo]; split <;> omega

theorem lst_mono (zs : List Int) (j k : Nat) (h : j ≤ k) : lstTo zs k ≤ lstTo zs j := by
  induction k with
  | zero => rw [Nat.le_zero.1 h]; exact Int.le_refl _
  | succ k ih =>
    rcases Nat.lt_or_eq_of_le h with h | h
    · exact Int.le_trans (lst_step zs k).1 (ih (by omega))
    · rw [h]; exact Int.le_refl _

theorem lst_le (zs : List Int) (j k : Nat) (h : j < k) : lstTo zs k ≤ cnt (zs.getD j 0) :=
  Int.le_trans (lst_mono zs (j + 1) k h) (lst_step zs j).2

/-- the numbers zs lie in block b from off on -/
def rowAt (w : World) (b off len : Nat) (zs : List Int) : Prop :=
  ∀ k, k < len → w.cell? ⟨b, off + k, none⟩ = some (.int .i64 (zs.getD k 0))

set_option maxHeartbeats 400000 in
theorem least_row (b off len cap : Nat) (zs : List Int) (w : World) (hbig : len ≤ 140737488355328) (hc : Hid (rowAt w b off len zs)) :
    Calls Try.prog 13 #[.slice (some ⟨b, off, none⟩) len cap] w fun e w' => e = .returned (.int .i64 (lstTo zs len)) ∧ w' = w := by
  go_enter Try.func13, Try.ntmps13
  go_wp2
  go_loop [3, 8] (fun n i => ∃ k : Nat, k ≤ len ∧ i = .int .i64 k ∧ n = .int .i64 (lstTo zs k)) (fun _ i => len - (intOf i).toNat)
  case atStart => exact ⟨0, Nat.zero_le _, rfl, rfl⟩
  case round =>
    obtain ⟨k, hk, rfl, rfl⟩ := hrel
    by_cases hlt : k < len
    · obtain ⟨x, HX⟩ : ∃ x, Hid (x = zs.getD k 0) := ⟨_, rfl⟩
      obtain ⟨m, HM⟩ : ∃ m, Hid (m = lstTo zs k) := ⟨_, rfl⟩
      have hcell : w.cell? ⟨b, off + k, none⟩ = some (.int .i64 x) := by rw [HX.out]; exact hc.out k hlt
      have HS : Hid (lstTo zs (k + 1) = if m ≤ cnt x then m else cnt x) := by rw [HX.out, HM.out]; rfl
      rw [← HM.out]
      by_cases hm : m ≤ cnt x
      · go_wp2_with (go_at_call 22; refine (counted_any _ _).mono ?_; rintro e w' ⟨rfl, rfl⟩)
        go_round
        case rel => exact ⟨k + 1, by omega, by go_num, by rw [HS.out, if_pos hm]⟩
        case measure => simp [intOf]; omega
      · go_wp2_with (go_at_call 22; refine (counted_any _ _).mono ?_; rintro e w' ⟨rfl, rfl⟩)
        go_round
        case rel => exact ⟨k + 1, by omega, by go_num, by rw [HS.out, if_neg (by omega)]⟩
        case measure => simp [intOf]; omega
    · obtain rfl : k = len := by omega
      go_wp2
      go_ret
      exact ⟨rfl, rfl⟩
set_option maxHeartbeats 400000 in
theorem refleast_row (b off len cap : Nat) (zs : List Int) (w : World) (hbig : len ≤ 140737488355328) (hc : Hid (rowAt w b off len zs)) :
    Calls Try.prog 14 #[.slice (some ⟨b, off, none⟩) len cap] w fun e w' => e = .returned (.int .i64 (lstTo zs len)) ∧ w' = w := by
  go_enter Try.func14, Try.ntmps14
  go_wp2
  go_loop [3, 4] (fun n i => ∃ k : Nat, k ≤ len ∧ i = .int .i64 k ∧ n = .int .i64 (lstTo zs k)) (fun _ i => len - (intOf i).toNat)
  case atStart => exact ⟨0, Nat.zero_le _, rfl, rfl⟩
  case round =>
    obtain ⟨k, hk, rfl, rfl⟩ := hrel
    by_cases hlt : k < len
    · obtain ⟨x, HX⟩ : ∃ x, Hid (x = zs.getD k 0) := ⟨_, rfl⟩
      obtain ⟨m, HM⟩ : ∃ m, Hid (m = lstTo zs k) := ⟨_, rfl⟩
      have hcell : w.cell? ⟨b, off + k, none⟩ = some (.int .i64 x) := by rw [HX.out]; exact hc.out k hlt
      have HS : Hid (lstTo zs (k + 1) = if m ≤ cnt x then m else cnt x) := by rw [HX.out, HM.out]; rfl
      rw [← HM.out]
      by_cases hm : m ≤ cnt x
      · go_wp2_with (go_at_call 23; refine (time_any _ _).mono ?_; rintro e w' ⟨rfl, rfl⟩)
        go_round
        case rel => exact ⟨k + 1, by omega, by go_num, by rw [HS.out, if_pos hm]⟩
        case measure => simp [intOf]; omega
      · go_wp2_with (go_at_call 23; refine (time_any _ _).mono ?_; rintro e w' ⟨rfl, rfl⟩)
        go_round
        case rel => exact ⟨k + 1, by omega, by go_num, by rw [HS.out, if_neg (by omega)]⟩
        case measure => simp [intOf]; omega
    · obtain rfl : k = len := by omega
      go_wp2
      go_ret
      exact ⟨rfl, rfl⟩

set_option maxHeartbeats 400000 in
theorem least_nil (a : Option Addr) (cap : Nat) (w : World) :
    Calls Try.prog 13 #[.slice a 0 cap] w fun e w' => e = .returned (.int .i64 1125899906842624) ∧ w' = w := by
  go_enter Try.func13, Try.ntmps13
  go_wp2
  go_loop [3, 8] (fun n i => i = .int .i64 0 ∧ n = .int .i64 1125899906842624) (fun _ i => 0)
  case atStart => exact ⟨rfl, rfl⟩
  case round =>
    obtain ⟨rfl, rfl⟩ := hrel
    go_wp2
    go_ret
    exact ⟨rfl, rfl⟩

set_option maxHeartbeats 400000 in
theorem refleast_nil (a : Option Addr) (cap : Nat) (w : World) :
    Calls Try.prog 14 #[.slice a 0 cap] w fun e w' => e = .returned (.int .i64 1125899906842624) ∧ w' = w := by
  go_enter Try.func14, Try.ntmps14
  go_wp2
  go_loop [3, 4] (fun n i => i = .int .i64 0 ∧ n = .int .i64 1125899906842624) (fun _ i => 0)
  case atStart => exact ⟨rfl, rfl⟩
  case round =>
    obtain ⟨rfl, rfl⟩ := hrel
    go_wp2
    go_ret
    exact ⟨rfl, rfl⟩

set_option maxHeartbeats 400000 in
theorem leastlaw_long (a : Option Addr) (len cap : Nat) (w : World) (h : 1024 < len) (hbig : len ≤ 9223372036854775807) :
    Calls Try.prog 4 #[.slice a len cap] w fun e w' => e = .returned (.bool true) ∧ w' = w := by
  have h' : (1024 : Int) < (len : Int) := by omega
  go_enter Try.func4, Try.ntmps4
  go_wp2
  go_ret
  exact ⟨rfl, rfl⟩

set_option maxHeartbeats 400000 in
theorem leastlaw_nil (a : Option Addr) (cap : Nat) (w : World) :
    Calls Try.prog 4 #[.slice a 0 cap] w fun e w' => e = .returned (.bool true) ∧ w' = w := by
  go_enter Try.func4, Try.ntmps4
  go_wp2_with (go_at_call 13; refine (least_nil _ _ _).mono ?_; rintro e w' ⟨rfl, rfl⟩)
  go_loop [4] (fun i => i = .int .i64 0) (fun i => 0)
  case atStart => exact rfl
  case round =>
    obtain rfl := hrel
    have hv : vldB 1125899906842624 = true := rfl
    go_wp2_with (first | (go_at_call 14; refine (refleast_nil _ _ _).mono ?_; rintro e w' ⟨rfl, rfl⟩) | (go_at_call 9; refine (valid_any _ _).mono ?_; rintro e w' ⟨rfl, rfl⟩))
    go_ret
    exact ⟨rfl, rfl⟩

theorem vadd_zero (t : Int) : vadd t 0 = cnt t := by
  have : cnt 0 = 0 := rfl
  unfold vadd; rw [this, Int.add_zero, cnt_cnt]

set_option maxHeartbeats 400000 in
theorem leastlaw_row (b off len cap : Nat) (zs : List Int) (w : World) (h : len ≤ 1024) (hc : Hid (rowAt w b off len zs)) :
    Calls Try.prog 4 #[.slice (some ⟨b, off, none⟩) len cap] w fun e w' => e = .returned (.bool true) ∧ w' = w := by
  have hbig : len ≤ 140737488355328 := by omega
  obtain ⟨m, HM⟩ : ∃ m, Hid (m = lstTo zs len) := ⟨_, rfl⟩
  have HV : Hid (vldB m = true) := by rw [HM.out]; exact lst_vld zs len
  have K1 : Hid (Calls Try.prog 13 #[.slice (some ⟨b, off, none⟩) len cap] w fun e w' => e = .returned (.int .i64 m) ∧ w' = w) := by rw [HM.out]; exact least_row b off len cap zs w hbig hc
  have K2 : Hid (Calls Try.prog 14 #[.slice (some ⟨b, off, none⟩) len cap] w fun e w' => e = .returned (.int .i64 m) ∧ w' = w) := by rw [HM.out]; exact refleast_row b off len cap zs w hbig hc
  go_enter Try.func4, Try.ntmps4
  go_wp2_with (go_at_call 13; refine K1.out.mono ?_; rintro e w' ⟨rfl, rfl⟩)
  go_loop [4] (fun i => ∃ k : Nat, k ≤ len ∧ i = .int .i64 k) (fun i => len - (intOf i).toNat)
  case atStart => exact ⟨0, Nat.zero_le _, rfl⟩
  case round =>
    obtain ⟨k, hk, rfl⟩ := hrel
    by_cases hlt : k < len
    · obtain ⟨x, HX⟩ : ∃ x, Hid (x = zs.getD k 0) := ⟨_, rfl⟩
      have hcell : w'.cell? ⟨b, off + k, none⟩ = some (.int .i64 x) := by rw [HX.out]; exact hc.out k hlt
      have hx : ¬ vadd x 0 < m := by rw [HX.out, HM.out, vadd_zero]; have := lst_le zs k len hlt; omega
      go_wp2_with (go_at_call 12; refine (refadd_any _ _ _).mono ?_; rintro e w'' ⟨rfl, rfl⟩)
      go_round
      case rel => exact ⟨k + 1, by omega, by go_num⟩
      case measure => simp [intOf]; omega
    · have hv := HV.out
      go_wp2_with (first | (go_at_call 14; refine K2.out.mono ?_; rintro e w'' ⟨rfl, rfl⟩) | (go_at_call 9; refine (valid_any _ _).mono ?_; rintro e w'' ⟨rfl, rfl⟩))
      go_ret
      exact ⟨rfl, rfl⟩
end Go.Proofs.Ytdnhlabdpciclaa
