/- Contracts of what reads numbers out of bytes. -/
import Derived.Test.YtdnhlabdpciclabTimes
import Derived.Test.YtdnhlabdpciclabBytes
import Derived.LoopTactic
import Derived.Outline
import Derived.Below
import Derived.Laws.BitsAllLaws
namespace Go.Proofs.Ytdnhlabdpciclab
open Go.RowKit
set_option linter.unusedVariables false

def cdB (a b c : Int) : Bool := vldB a && (wthB b 65535 && wthB c 281474976710655)

theorem take_snoc (s : ByteArray) (k : Nat) (h : k < s.size) : s.data.toList.take (k + 1) = s.data.toList.take k ++ [s[k]] := by
  rw [List.take_succ_eq_append_getElem (by simpa using h)]; rfl

set_option maxHeartbeats 400000 in
theorem codable_any (a b c : Int) (w : World) :
    Calls Try.prog 13 #[.agg #[.int .i64 a, .int .i64 b, .int .i64 c]] w fun e w' => e = .returned (.bool (cdB a b c)) ∧ Below w.heap.size w w' := by
  rcases ha : vldB a with _ | _
  · rw [show cdB a b c = false from by simp [cdB, ha]]
    go_enter Try.func13, Try.ntmps13
    go_wp2_with (first | (go_at_call 8; refine (valid_any _ _).mono ?_; rintro e w' ⟨rfl, rfl⟩) | (go_at_call 17; refine (within_any _ _ _).mono ?_; rintro e w' ⟨rfl, rfl⟩))
    go_ret
    exact ⟨rfl, (Below.refl _ _).alloc (Nat.le_refl _) _⟩
  · rcases hb : wthB b 65535 with _ | _
    · rw [show cdB a b c = false from by simp [cdB, ha, hb]]
      go_enter Try.func13, Try.ntmps13
      go_wp2_with (first | (go_at_call 8; refine (valid_any _ _).mono ?_; rintro e w' ⟨rfl, rfl⟩) | (go_at_call 17; refine (within_any _ _ _).mono ?_; rintro e w' ⟨rfl, rfl⟩))
      go_ret
      exact ⟨rfl, (Below.refl _ _).alloc (Nat.le_refl _) _⟩
    · rw [show cdB a b c = wthB c 281474976710655 from by simp [cdB, ha, hb]]
      go_enter Try.func13, Try.ntmps13
      go_wp2_with (first | (go_at_call 8; refine (valid_any _ _).mono ?_; rintro e w' ⟨rfl, rfl⟩) | (go_at_call 17; refine (within_any _ _ _).mono ?_; rintro e w' ⟨rfl, rfl⟩))
      go_ret
      exact ⟨rfl, (Below.refl _ _).alloc (Nat.le_refl _) _⟩

theorem ret_i64 {a b : Int} (h : a = b) : Ending.returned (.int .i64 a) = .returned (.int .i64 b) := by rw [h]

theorem or_i64 (v b : Nat) (hv : v < 72057594037927936) (hb : b < 256) :
    bits .or .i64 (wrap64 ((v : Int) * 256)) (wrap64 (b : Int)) = wrap64 (((v * 256 + b : Nat)) : Int) := by
  have e1 : (BitVec.ofInt 64 (wrap64 ((v : Int) * 256))).toNat = v * 256 := by
    rw [BitVec.toNat_ofInt]; unfold wrap64; omega
  have e2 : (BitVec.ofInt 64 (wrap64 (b : Int))).toNat = b := by
    rw [BitVec.toNat_ofInt]; unfold wrap64; omega
  have e3 : v * 256 ||| b = v * 256 + b := nat_join 8 (v * 256) b (by omega) (by omega)
  show IntKind.i64.wrap ((BitVec.ofInt 64 (wrap64 ((v : Int) * 256)) ||| BitVec.ofInt 64 (wrap64 (b : Int))).toNat : Int) = _
  have e4 : (BitVec.ofInt 64 (wrap64 ((v : Int) * 256)) ||| BitVec.ofInt 64 (wrap64 (b : Int))).toNat = v * 256 + b := by
    rw [BitVec.toNat_or]
    generalize (BitVec.ofInt 64 (wrap64 ((v : Int) * 256))).toNat = x at *
    generalize (BitVec.ofInt 64 (wrap64 (b : Int))).toNat = y at *
    subst e1 e2
    exact e3
  generalize (BitVec.ofInt 64 (wrap64 ((v : Int) * 256)) ||| BitVec.ofInt 64 (wrap64 (b : Int))).toNat = z at *
  subst e4
  rw [IntKind.wrap_i64]; unfold wrap64; rfl

theorem wrap64_id {n : Int} (h0 : -9223372036854775808 ≤ n) (h1 : n < 9223372036854775808) : wrap64 n = n := by
  unfold wrap64; omega

theorem val_take_lt (l : List UInt8) (k : Nat) (hk : k ≤ 7) : val (l.take k) < 72057594037927936 := by
  have h := val_lt (l.take k)
  have h2 : (l.take k).length ≤ 7 := by have := List.length_take_le k l; omega
  have : (256 : Nat) ^ (l.take k).length ≤ 256 ^ 7 := Nat.pow_le_pow_right (by omega) h2
  omega

theorem read_step (s : ByteArray) (k : Nat) (hlt : k < s.size) (hs : s.size ≤ 8) (v : Int) (hv : v = wrap64 (val (s.data.toList.take k))) :
    bits .or .i64 (wrap64 (v * 256)) (wrap64 (s[k].toNat : Int)) = wrap64 (val (s.data.toList.take (k + 1))) := by
  have h := val_take_lt s.data.toList k (by omega)
  rw [wrap64_id (by omega) (by omega)] at hv
  rw [hv, take_snoc s k hlt, val_snoc]
  exact or_i64 _ _ h (s[k].toNat_lt)

set_option maxHeartbeats 400000 in
theorem read_any (s : ByteArray) (w : World) (hs : s.size ≤ 8) :
    Calls Try.prog 12 #[.string s] w fun e w' => e = .returned (.int .i64 (wrap64 (val s.data.toList))) ∧ w' = w := by
  go_enter Try.func12, Try.ntmps12
  go_wp2
  go_loop [3, 7] (fun n i => ∃ k : Nat, ∃ v : Int, k ≤ s.size ∧ i = .int .i64 k ∧ n = .int .i64 v ∧ v = (wrap64 (val (s.data.toList.take k)))) (fun _ i => s.size - (intOf i).toNat)
  case atStart => exact ⟨0, 0, Nat.zero_le _, rfl, rfl, by simp [val, wrap64]⟩
  case round =>
    obtain ⟨k, v, hk, rfl, rfl, hv⟩ := hrel
    have HV : Hid (v = (wrap64 (val (s.data.toList.take k)))) := hv
    clear hv
    by_cases hlt : k < s.size
    · go_wp2
      go_round
      case rel => exact ⟨k + 1, _, by omega, by go_num, rfl, read_step s k hlt hs v HV.out⟩
      case measure => simp [intOf]; omega
    · go_wp2
      go_ret
      exact ⟨ret_i64 (by rw [HV.out, List.take_of_length_le (by simp; omega)]), rfl⟩

/-- what the document's own reading of a number tells: all of it, or something above all times -/
def numTo (l : List UInt8) : Nat → Int
  | 0 => 0
  | k + 1 => if 4503599627370496 < numTo l k then numTo l k else numTo l k * 256 + ((l.getD k 0).toNat : Int)

theorem numTo_lo (l : List UInt8) (k : Nat) : 0 ≤ numTo l k := by
  induction k with
  | zero => exact Int.le_refl _
  | succ k ih => rw [numTo]; split <;> omega
theorem numTo_hi (l : List UInt8) (k : Nat) : numTo l k ≤ 1152921504606847231 := by
  induction k with
  | zero => simp [numTo]
  | succ k ih => rw [numTo]; have := (l.getD k 0).toNat_lt; split <;> omega
theorem numTo_stay (l : List UInt8) (j k : Nat) (h : j ≤ k) (hj : 4503599627370496 < numTo l j) : numTo l k = numTo l j := by
  induction k with
  | zero => rw [Nat.le_zero.1 h]
  | succ k ih =>
    rcases Nat.lt_or_eq_of_le h with h | h
    · rw [numTo, ih (by omega), if_pos hj]
    · rw [h]
theorem numTo_val (l : List UInt8) (k : Nat) (hk : k ≤ l.length) : numTo l k = val (l.take k) ∨ (4503599627370496 < numTo l k ∧ 4503599627370496 < (val (l.take k) : Int)) := by
  induction k with
  | zero => left; simp [numTo, val]
  | succ k ih =>
    have e : l.take (k + 1) = l.take k ++ [l[k]'(by omega)] := List.take_succ_eq_append_getElem (by omega)
    have g : l.getD k 0 = l[k]'(by omega) := by simp [List.getD, List.getElem?_eq_getElem (show k < l.length by omega)]
    rw [numTo, e, val_snoc, g]
    rcases ih (by omega) with h | ⟨h1, h2⟩
    · by_cases c : 4503599627370496 < numTo l k
      · rw [if_pos c]; right; omega
      · rw [if_neg c]; left; omega
    · rw [if_pos h1]; right; omega

set_option maxHeartbeats 400000 in
theorem number_any (s : ByteArray) (w : World) (hs : s.size ≤ 8) :
    Calls Try.prog 14 #[.string s] w fun e w' => e = .returned (.int .i64 (numTo s.data.toList s.size)) ∧ w' = w := by
  go_enter Try.func14, Try.ntmps14
  go_wp2
  go_loop [3, 4] (fun n i => ∃ k : Nat, ∃ v : Int, k ≤ s.size ∧ i = .int .i64 k ∧ n = .int .i64 v ∧ v = numTo s.data.toList k) (fun _ i => s.size - (intOf i).toNat)
  case atStart => exact ⟨0, 0, Nat.zero_le _, rfl, rfl, rfl⟩
  case round =>
    obtain ⟨k, v, hk, rfl, rfl, hv⟩ := hrel
    have h0 : 0 ≤ v := by rw [hv]; exact numTo_lo _ _
    have HV : Hid (v = numTo s.data.toList k) := hv
    clear hv
    by_cases hlt : k < s.size
    · have HG : Hid (((s.data.toList.getD k 0).toNat : Int) = (s[k].toNat : Int)) := by
        have e : s.data.toList.getD k 0 = s[k] := by
          have hl : k < s.data.toList.length := by simpa using hlt
          simp only [List.getD, List.getElem?_eq_getElem hl, Option.getD_some]; rfl
        show ((s.data.toList.getD k 0).toNat : Int) = (s[k].toNat : Int)
        rw [e]
      have hb : (s[k].toNat : Int) < 256 := by have := s[k].toNat_lt; omega
      by_cases hc : 4503599627370496 < v
      · have HS : Hid (numTo s.data.toList s.size = v) := by
          show numTo s.data.toList s.size = v
          rw [HV.out] at hc ⊢; exact numTo_stay _ k _ (by omega) hc
        go_wp2
        go_ret
        exact ⟨ret_i64 HS.out.symm, rfl⟩
      · go_wp2
        go_round
        case rel => exact ⟨k + 1, _, by omega, by go_num, rfl, by rw [numTo, ← HV.out, if_neg (by omega), HG.out]⟩
        case measure => simp [intOf]; omega
    · obtain rfl : k = s.size := by omega
      go_wp2
      go_ret
      exact ⟨ret_i64 HV.out, rfl⟩
end Go.Proofs.Ytdnhlabdpciclab
