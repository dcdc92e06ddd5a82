/- Joined: the texts that follow, each with its own sentence. -/
import Derived.WalkKit
import Derived.WalkSpells
import Derived.WalkLawsBesides
import Derived.Below
import Derived.OwnWalk
import Derived.Deep.RegionHeld3
import Derived.Lib.QuietBelow
import Derived.Test.YtiaopafkfadmkaaGreatProg
set_option linter.unusedVariables false
set_option maxRecDepth 100000
namespace Go.Proofs.YtiaopafkfadmkaaGreat
open Go.RowKit
def cnt (t : Int) : Int := if t > 1099511627776 then 1125899906842624 else if t < 0 then 0 else t
def vadd (t d : Int) : Int := cnt (cnt t + cnt d)
theorem cnt_lo (t : Int) : 0 ≤ cnt t := by unfold cnt; split <;> (try split) <;> omega
theorem cnt_hi (t : Int) : cnt t ≤ 1125899906842624 := by unfold cnt; split <;> (try split) <;> omega
theorem cnt_big {t : Int} (h : 1099511627776 < t) : cnt t = 1125899906842624 := by unfold cnt; rw [if_pos h]
theorem cnt_mid {t : Int} (h0 : 0 ≤ t) (h : t ≤ 1099511627776) : cnt t = t := by
 unfold cnt; rw [if_neg (by omega), if_neg (by omega)]
theorem cnt_low {t : Int} (h : t < 0) : cnt t = 0 := by
 unfold cnt; rw [if_neg (by omega), if_pos h]
theorem cnt_two (t : Int) : cnt t = 1125899906842624 ∨ cnt t ≤ 1099511627776 := by
 unfold cnt; split <;> (try split) <;> omega
set_option maxHeartbeats 400000 in
theorem counted_any (t : Int) (w : World) :
  Calls Tryz.prog 128 #[.int .i64 t] w fun e w' => e = .returned (.int .i64 (cnt t)) ∧ w = w' := by
 by_cases h : 1099511627776 < t
 ·rw [cnt_big h]
  go_enter Tryz.func128, Tryz.ntmps128
  go_wp2
  go_ret
  exact ⟨rfl, rfl⟩
 ·by_cases h0 : t < 0
  ·rw [cnt_low h0]
   go_enter Tryz.func128, Tryz.ntmps128
   go_wp2
   go_ret
   exact ⟨rfl, rfl⟩
  ·rw [cnt_mid (by omega) (by omega)]
   go_enter Tryz.func128, Tryz.ntmps128
   go_wp2
   go_ret
   exact ⟨rfl, rfl⟩
set_option maxHeartbeats 400000 in
theorem add_any (t d : Int) (w : World) :
  Calls Tryz.prog 82 #[.int .i64 t, .int .i64 d] w fun e w' => e = .returned (.int .i64 (vadd t d)) ∧ w = w' := by
 have h1 := cnt_lo t
 have h2 := cnt_hi t
 have h3 := cnt_lo d
 have h4 := cnt_hi d
 go_enter Tryz.func82, Tryz.ntmps82
 go_wp2_with (go_at_call 128; refine (counted_any _ _).mono ?_; rintro e w' ⟨rfl, rfl⟩)
 go_ret
 exact ⟨rfl, rfl⟩
theorem tmod_parts (n : Int) : -1000 < n.tmod 1000 ∧ n.tmod 1000 < 1000 ∧ ∃ q : Int, n = 1000 * q + n.tmod 1000 := by
 have h := Int.mul_tdiv_add_tmod n 1000
 by_cases h0 : 0 ≤ n
 ·have e : n.tmod 1000 = n % 1000 := Int.tmod_eq_emod_of_nonneg h0
  exact ⟨by omega, by omega, _, h.symm⟩
 ·have e : (-n).tmod 1000 = (-n) % 1000 := Int.tmod_eq_emod_of_nonneg (by omega)
  rw [Int.neg_tmod] at e
  exact ⟨by omega, by omega, _, h.symm⟩
theorem tmod_pos {n : Int} (h : 0 ≤ n) : n.tmod 1000 = n % 1000 := Int.tmod_eq_emod_of_nonneg h
theorem ref_eq (n a m b r : Int) (h1 : ∃ q : Int, n = 1000 * q + m) (h2 : ∃ q : Int, a = 1000 * q + b) (h3 : ∃ q : Int, m + b = 1000 * q + r) : (r + 1000) % 1000 = (n + a) % 1000 := by
 obtain ⟨q1, h1⟩ := h1
 obtain ⟨q2, h2⟩ := h2
 obtain ⟨q3, h3⟩ := h3
 omega
theorem two_eq (n a : Int) : (n % 1000 + a % 1000) % 1000 = (n + a) % 1000 := by omega
set_option maxHeartbeats 400000 in
theorem wrapped_any (n : Int) (w : World) :
  Calls Tryz.prog 157 #[.int .i64 n] w fun e w' => e = .returned (.int .i64 (n % 1000)) ∧ w = w' := by
 obtain ⟨h1, h2, q, hq⟩ := tmod_parts n
 obtain ⟨m, hm⟩ : ∃ m, n.tmod 1000 = m := ⟨_, rfl⟩
 rw [hm] at h1 h2 hq
 have h3 : (m + 1000) % 1000 = n % 1000 := by omega
 clear hq
 rw [← h3]
 clear h3
 go_enter Tryz.func157, Tryz.ntmps157
 go_wp2
 go_ret
 exact ⟨rfl, rfl⟩
end Go.Proofs.YtiaopafkfadmkaaGreat
namespace Go.Proofs.YtiaopafkfadmkaaGreat
open Go.RowKit
abbrev sentV (f q n b c d a : Int) : Value := .agg #[.int .i64 (vadd n d), .int .i64 f, .int .i64 q, .int .i64 (-1), .int .i64 c, .int .i64 ((b + a) % 1000)]
set_option maxHeartbeats 1000000 in
theorem sent_any (w : World) (f q n b c d a : Int) :
  Calls Tryz.prog 113 #[.int .i64 f, .int .i64 q, .int .i64 n, .int .i64 b, .agg #[.int .i64 c, .int .i64 d, .int .i64 a]] w fun e w' => e = .returned (sentV f q n b c d a) ∧ Below w.heap.size w w' := by
 have mixed : Tryz.prog.follows .mixedOrders = true := by kernel_rfl
 have HA := fun W => add_any n d W
 have HB := fun W => wrapped_any b W
 have HC := fun W => wrapped_any a W
 have HD := fun W => wrapped_any (b % 1000 + a % 1000) W
 have h1 : 0 ≤ b % 1000 := by omega
 have h2 : b % 1000 < 1000 := by omega
 have h3 : 0 ≤ a % 1000 := by omega
 have h4 : a % 1000 < 1000 := by omega
 have e := two_eq b a
 obtain ⟨V, hV⟩ : ∃ V, vadd n d = V := ⟨_, rfl⟩
 obtain ⟨x, hx⟩ : ∃ x, b % 1000 = x := ⟨_, rfl⟩
 obtain ⟨y, hy⟩ : ∃ y, a % 1000 = y := ⟨_, rfl⟩
 obtain ⟨z, hz⟩ : ∃ z, (b + a) % 1000 = z := ⟨_, rfl⟩
 dsimp only [sentV]
 simp only [hx, hy, hz, hV] at HA HB HC HD h1 h2 h3 h4 e ⊢
 rw [e] at HD
 have hw : IntKind.i64.wrap (x + y) = x + y := by rw [IntKind.wrap_i64]; omega
 obtain ⟨s, hs⟩ : ∃ s, x + y = s := ⟨_, rfl⟩
 rw [hs] at hw HD
 clear hx hy hz hV e h1 h2 h3 h4
 go_enter Tryz.func113, Tryz.ntmps113
 go_wp2_with fail
 go_region_held3 (fun w' => w'.cell? ⟨w.heap.size, 0, none⟩ = some (.int .i64 c) ∧ w'.cell? ⟨w.heap.size, 1, none⟩ = some (.int .i64 d) ∧ w'.cell? ⟨w.heap.size, 2, none⟩ = some (.int .i64 a)) (go_keep) (first | (go_at_call 82; refine (HA _).mono ?_; rintro e w' ⟨rfl, rfl⟩) | (go_at_call 157; (first | refine (HD _).mono ?_ | refine (HB _).mono ?_ | refine (HC _).mono ?_); rintro e w' ⟨rfl, rfl⟩))
 all_goals go_wp2
 all_goals exact bodyPost_ret (v := .agg #[.int .i64 V, .int .i64 f, .int .i64 q, .int .i64 (-1), .int .i64 c, .int .i64 z]) (by simp [results, Tryz.results113, go_sem]) rfl ⟨rfl, (((Below.refl _ w).alloc (Nat.le_refl _) _).alloc (by simp) _).drew⟩
end Go.Proofs.YtiaopafkfadmkaaGreat
