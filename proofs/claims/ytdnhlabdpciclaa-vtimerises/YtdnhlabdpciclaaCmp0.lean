/- Contracts of what compares keys in layer 1. -/
import Derived.Test.YtdnhlabdpciclaaRows
import Derived.WalkKit
import Derived.WalkSpells
import Derived.WalkLawsBesides
import Derived.RegionTactic
import Derived.LoopTactic
import Derived.Deep.RegionWith
import Derived.Outline
import Derived.RowKit3
namespace Go.Proofs.Ytdnhlabdpciclaa
open Go.RowKit
set_option linter.unusedVariables false

def cmpI (x y : Int) : Int := if x < y then -1 else if y < x then 1 else 0

set_option maxHeartbeats 400000 in
theorem isNaN_any (x : Int) (w : World) :
    Calls Try.prog 31 #[.int .i64 x] w fun e w' => e = .returned (.bool false) ∧ w' = w := by
  go_enter Try.func31, Try.ntmps31
  go_wp2
  go_ret
  exact ⟨rfl, rfl⟩

set_option maxHeartbeats 400000 in
theorem compare_any (x y : Int) (w : World) :
    Calls Try.prog 25 #[.int .i64 x, .int .i64 y] w fun e w' => e = .returned (.int .i64 (cmpI x y)) ∧ w' = w := by
  by_cases h : x < y
  · rw [show cmpI x y = -1 from if_pos h]
    go_enter Try.func25, Try.ntmps25
    go_wp2
    go_ret
    exact ⟨rfl, rfl⟩
  · by_cases g : y < x
    · rw [show cmpI x y = 1 from by unfold cmpI; rw [if_neg h, if_pos g]]
      go_enter Try.func25, Try.ntmps25
      go_wp2
      go_ret
      exact ⟨rfl, rfl⟩
    · rw [show cmpI x y = 0 from by unfold cmpI; rw [if_neg h, if_neg g]]
      go_enter Try.func25, Try.ntmps25
      go_wp2
      go_ret
      exact ⟨rfl, rfl⟩

def or3 (a b c : Int) : Int := if a ≠ 0 then a else if b ≠ 0 then b else c

theorem ret_int {k : IntKind} {a b : Int} (h : a = b) : Ending.returned (.int k a) = .returned (.int k b) := by rw [h]

set_option maxHeartbeats 400000 in
theorem or_any (a b c : Int) (blk off cap : Nat) (w : World)
    (h0 : w.cell? ⟨blk, off, none⟩ = some (.int .i64 a)) (h1 : w.cell? ⟨blk, off + 1, none⟩ = some (.int .i64 b))
    (h2 : w.cell? ⟨blk, off + 2, none⟩ = some (.int .i64 c)) :
    Calls Try.prog 24 #[.slice (some ⟨blk, off, none⟩) 3 cap] w fun e w' => e = .returned (.int .i64 (or3 a b c)) ∧ w' = w := by
  go_enter Try.func24, Try.ntmps24
  go_wp2
  go_loop [8] (fun i => i = .int .i64 0 ∨ (i = .int .i64 1 ∧ a = 0) ∨ (i = .int .i64 2 ∧ a = 0 ∧ b = 0) ∨ (i = .int .i64 3 ∧ a = 0 ∧ b = 0 ∧ c = 0)) (fun i => 3 - (intOf i).toNat)
  case atStart => exact Or.inl rfl
  case round =>
    rcases hrel with rfl | ⟨rfl, ha⟩ | ⟨rfl, ha, hb⟩ | ⟨rfl, ha, hb, hc⟩
    · by_cases ha : a = 0
      · have hk : (a != 0) = false := by simpa using ha
        have HA : Hid (a = 0) := ha
        clear ha
        go_wp2
        go_round
        case rel => exact Or.inr (Or.inl ⟨by go_num, HA.out⟩)
        case measure => simp [intOf]
      · have hk : (a != 0) = true := by simpa using ha
        go_wp2
        go_ret
        exact ⟨ret_int (by unfold or3; rw [if_pos ha]), rfl⟩
    · have HA : Hid (a = 0) := ha
      clear ha
      by_cases hb : b = 0
      · have hk : (b != 0) = false := by simpa using hb
        have HB : Hid (b = 0) := hb
        clear hb
        go_wp2
        go_round
        case rel => exact Or.inr (Or.inr (Or.inl ⟨by go_num, HA.out, HB.out⟩))
        case measure => simp [intOf]
      · have hk : (b != 0) = true := by simpa using hb
        go_wp2
        go_ret
        exact ⟨ret_int (by unfold or3; rw [if_neg (by simpa using HA.out), if_pos hb]), rfl⟩
    · have HA : Hid (a = 0) := ha
      have HB : Hid (b = 0) := hb
      clear ha hb
      by_cases hc : c = 0
      · have hk : (c != 0) = false := by simpa using hc
        have HC : Hid (c = 0) := hc
        clear hc
        go_wp2
        go_round
        case rel => exact Or.inr (Or.inr (Or.inr ⟨by go_num, HA.out, HB.out, HC.out⟩))
        case measure => simp [intOf]
      · have hk : (c != 0) = true := by simpa using hc
        go_wp2
        go_ret
        exact ⟨ret_int (by unfold or3; rw [if_neg (by simpa using HA.out), if_neg (by simpa using HB.out)]), rfl⟩
    · have HA : Hid (a = 0) := ha
      have HB : Hid (b = 0) := hb
      have HC : Hid (c = 0) := hc
      clear ha hb hc
      go_wp2
      go_ret
      exact ⟨ret_int (by unfold or3; rw [if_neg (by simpa using HA.out), if_neg (by simpa using HB.out), HC.out]), rfl⟩

end Go.Proofs.Ytdnhlabdpciclaa
