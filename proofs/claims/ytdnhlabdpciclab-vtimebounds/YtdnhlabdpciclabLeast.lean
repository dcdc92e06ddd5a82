/- Contracts of what tells the least of some numbers. -/
import Derived.Test.YtdnhlabdpciclabTimes
import Derived.LoopTactic
import Derived.Outline
import Derived.Below
namespace Go.Proofs.Ytdnhlabdpciclab
open Go.RowKit
set_option linter.unusedVariables false

/-- the least of the first k numbers, each as it counts; Inf of none -/
def lstTo (zs : List Int) : Nat → Int
  | 0 => 1125899906842624
  | k + 1 => if lstTo zs k ≤ cnt (zs.getD k 0) then lstTo zs k else cnt (zs.getD k 0)

theorem lst_vld (zs : List Int) (k : Nat) : vldB (lstTo zs k) = true := by
  induction k with
  | zero => rfl
  | succ k ih => unfold lstTo; split; exact ih; exact cnt_vld _

theorem lst_step (zs : List Int) (k : Nat) : lstTo zs (k + 1) ≤ lstTo zs k ∧ lstTo zs (k + 1) ≤ cnt (zs.getD k 0) := by
  constructor
  · rw [lstTo]; split <;> omega
  · rw [lstTo]; split <;> omega

theorem lst_mono (zs : List Int) (j k : Nat) (h : j ≤ k) : lstTo zs k ≤ lstTo zs j := by
  induction k with
  | zero => rw [Nat.le_zero.1 h]; exact Int.le_refl _
  | succ k ih =>
    rcases Nat.lt_or_eq_of_le h with h | h
    · exact Int.le_trans (lst_step zs k).1 (ih (by omega))
    · rw [h]; exact Int.le_refl _

theorem lst_le (zs : List Int) (j k : Nat) (h : j < k) : lstTo zs k ≤ cnt (zs.getD j 0) :=
  Int.le_trans (lst_mono zs (j + 1) k h) (lst_step zs j).2

/-- the numbers zs lie in block b from off on -/
def rowAt (w : World) (b off len : Nat) (zs : List Int) : Prop :=
  ∀ k, k < len → w.cell? ⟨b, off + k, none⟩ = some (.int .i64 (zs.getD k 0))

set_option maxHeartbeats 400000 in
theorem least_row (b off len cap : Nat) (zs : List Int) (w : World) (hbig : len ≤ 140737488355328) (hc : Hid (rowAt w b off len zs)) :
    Calls Try.prog 10 #[.slice (some ⟨b, off, none⟩) len cap] w fun e w' => e = .returned (.int .i64 (lstTo zs len)) ∧ w' = w := by
  go_enter Try.func10, Try.ntmps10
  go_wp2
  go_loop [3, 8] (fun n i => ∃ k : Nat, k ≤ len ∧ i = .int .i64 k ∧ n = .int .i64 (lstTo zs k)) (fun _ i => len - (intOf i).toNat)
  case atStart => exact ⟨0, Nat.zero_le _, rfl, rfl⟩
  case round =>
    obtain ⟨k, hk, rfl, rfl⟩ := hrel
    by_cases hlt : k < len
    · obtain ⟨x, HX⟩ : ∃ x, Hid (x = zs.getD k 0) := ⟨_, rfl⟩
      obtain ⟨m, HM⟩ : ∃ m, Hid (m = lstTo zs k) := ⟨_, rfl⟩
      have hcell : w.cell? ⟨b, off + k, none⟩ = some (.int .i64 x) := by rw [HX.out]; exact hc.out k hlt
      have HS : Hid (lstTo zs (k + 1) = if m ≤ cnt x then m else cnt x) := by rw [HX.out, HM.out]; rfl
      rw [← HM.out]
      by_cases hm : m ≤ cnt x
      · go_wp2_with (go_at_call 18; refine (counted_any _ _).mono ?_; rintro e w' ⟨rfl, rfl⟩)
        go_round
        case rel => exact ⟨k + 1, by omega, by go_num, by rw [HS.out, if_pos hm]⟩
        case measure => simp [intOf]; omega
      · go_wp2_with (go_at_call 18; refine (counted_any _ _).mono ?_; rintro e w' ⟨rfl, rfl⟩)
        go_round
        case rel => exact ⟨k + 1, by omega, by go_num, by rw [HS.out, if_neg (by omega)]⟩
        case measure => simp [intOf]; omega
    · obtain rfl : k = len := by omega
      go_wp2
      go_ret
      exact ⟨rfl, rfl⟩
set_option maxHeartbeats 400000 in
theorem refleast_row (b off len cap : Nat) (zs : List Int) (w : World) (hbig : len ≤ 140737488355328) (hc : Hid (rowAt w b off len zs)) :
    Calls Try.prog 11 #[.slice (some ⟨b, off, none⟩) len cap] w fun e w' => e = .returned (.int .i64 (lstTo zs len)) ∧ w' = w := by
  go_enter Try.func11, Try.ntmps11
  go_wp2
  go_loop [3, 4] (fun n i => ∃ k : Nat, k ≤ len ∧ i = .int .i64 k ∧ n = .int .i64 (lstTo zs k)) (fun _ i => len - (intOf i).toNat)
  case atStart => exact ⟨0, Nat.zero_le _, rfl, rfl⟩
  case round =>
    obtain ⟨k, hk, rfl, rfl⟩ := hrel
    by_cases hlt : k < len
    · obtain ⟨x, HX⟩ : ∃ x, Hid (x = zs.getD k 0) := ⟨_, rfl⟩
      obtain ⟨m, HM⟩ : ∃ m, Hid (m = lstTo zs k) := ⟨_, rfl⟩
      have hcell : w.cell? ⟨b, off + k, none⟩ = some (.int .i64 x) := by rw [HX.out]; exact hc.out k hlt
      have HS : Hid (lstTo zs (k + 1) = if m ≤ cnt x then m else cnt x) := by rw [HX.out, HM.out]; rfl
      rw [← HM.out]
      by_cases hm : m ≤ cnt x
      · go_wp2_with (go_at_call 19; refine (time_any _ _).mono ?_; rintro e w' ⟨rfl, rfl⟩)
        go_round
        case rel => exact ⟨k + 1, by omega, by go_num, by rw [HS.out, if_pos hm]⟩
        case measure => simp [intOf]; omega
      · go_wp2_with (go_at_call 19; refine (time_any _ _).mono ?_; rintro e w' ⟨rfl, rfl⟩)
        go_round
        case rel => exact ⟨k + 1, by omega, by go_num, by rw [HS.out, if_neg (by omega)]⟩
        case measure => simp [intOf]; omega
    · obtain rfl : k = len := by omega
      go_wp2
      go_ret
      exact ⟨rfl, rfl⟩

theorem vadd_zero (t : Int) : vadd t 0 = cnt t := by
  have : cnt 0 = 0 := rfl
  unfold vadd; rw [this, Int.add_zero, cnt_cnt]

end Go.Proofs.Ytdnhlabdpciclab
