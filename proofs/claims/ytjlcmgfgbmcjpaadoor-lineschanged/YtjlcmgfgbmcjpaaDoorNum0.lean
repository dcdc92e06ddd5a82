/- Proved: of integers as decimal digits: what is written is read back, and what is read from digits is what they stand for. -/
import Derived.Lib.ItoaNum
import Derived.Lib.AtoiAllCases
import Derived.KernelRfl
namespace Go.Proofs.YtjlcmgfgbmcjpaaDoor
open Go.Lib

def isDig (c : UInt8) : Prop := 48 ≤ c.toNat ∧ c.toNat ≤ 57
/-- What digits behind a number come to. -/
def valFrom (n : Nat) (l : List UInt8) : Nat := l.foldl (fun m c => m * 10 + (c.toNat - 48)) n
def val (l : List UInt8) : Nat := valFrom 0 l
theorem val_snoc (l : List UInt8) (c : UInt8) : val (l ++ [c]) = val l * 10 + (c.toNat - 48) := by simp [val, valFrom]
theorem val_append (a b : List UInt8) : val (a ++ b) = valFrom (val a) b := by simp [val, valFrom]
theorem valFrom_ge (l : List UInt8) : ∀ n, n * 10 ^ l.length ≤ valFrom n l := by
  induction l with
  | nil => intro n; simp [valFrom]
  | cons c r ih =>
    intro n
    have h := ih (n * 10 + (c.toNat - 48))
    have e : valFrom n (c :: r) = valFrom (n * 10 + (c.toNat - 48)) r := rfl
    rw [e, List.length_cons, Nat.pow_succ]
    refine Nat.le_trans ?_ h
    rw [Nat.add_mul, Nat.mul_comm (10 ^ r.length) 10, ← Nat.mul_assoc]
    exact Nat.le_add_right _ _
theorem val_take_le (l : List UInt8) (k : Nat) : val (l.take k) ≤ val l := by
  have h := valFrom_ge (l.drop k) (val (l.take k))
  rw [← val_append, List.take_append_drop] at h
  exact Nat.le_trans (Nat.le_mul_of_pos_right _ (Nat.pow_pos (by decide))) h
theorem val_take_lt (l : List UInt8) (k : Nat) (hk : k < l.length) : val (l.take k) * 10 ≤ val l := by
  have h := valFrom_ge (l.drop k) (val (l.take k))
  rw [← val_append, List.take_append_drop] at h
  refine Nat.le_trans (Nat.mul_le_mul_left _ ?_) h
  rw [List.length_drop]
  obtain ⟨m, hm⟩ : ∃ m, l.length - k = m + 1 := ⟨l.length - k - 1, by omega⟩
  rw [hm, Nat.pow_succ]
  exact Nat.le_mul_of_pos_left _ (Nat.pow_pos (by decide))

theorem u8_add (u : Nat) (h : u < 10) : (UInt8.ofNat (48 + u)).toNat = 48 + u := by
  rw [UInt8.toNat_ofNat']; omega
theorem decDigits_dig (u : Nat) : ∀ c ∈ decDigits u, isDig c := by
  induction u using Nat.strongRecOn with
  | _ u ih =>
    intro c hc
    rw [decDigits] at hc
    split at hc
    · rename_i h
      rw [List.mem_singleton.1 hc]
      unfold isDig; rw [u8_add u h]; omega
    · rename_i h
      rcases List.mem_append.1 hc with hc | hc
      · exact ih (u / 10) (by omega) c hc
      · rw [List.mem_singleton.1 hc]
        unfold isDig; rw [u8_add (u % 10) (by omega)]; omega
theorem val_dec (u : Nat) : val (decDigits u) = u := by
  induction u using Nat.strongRecOn with
  | _ u ih =>
    rw [decDigits]
    split
    · rename_i h
      have := val_snoc [] (UInt8.ofNat (48 + u))
      rw [List.nil_append] at this
      rw [this, u8_add u h]; simp [val, valFrom]
    · rename_i h
      rw [val_snoc, ih (u / 10) (by omega), u8_add (u % 10) (by omega)]; omega
theorem nDigits_le : ∀ (k u : Nat), u < 10 ^ (k + 1) → nDigits u ≤ k + 1
  | 0, u, h => by rw [nDigits_small (by simpa using h)]; omega
  | k + 1, u, h => by
    by_cases h1 : u < 10
    · rw [nDigits_small h1]; omega
    · rw [nDigits_big h1]
      have := nDigits_le k (u / 10) (by rw [Nat.pow_succ] at h; omega)
      omega
theorem dec_ne (u : Nat) : decDigits u ≠ [] := by
  intro e
  have h := decDigits_length u
  have h2 := nDigits_pos u
  rw [e] at h
  simp at h; omega

theorem parse_dig (l : List UInt8) : ∀ acc, (∀ c ∈ l, isDig c) → valFrom acc l < 18446744073709551616 → parseUint10 acc l = .ok (valFrom acc l) := by
  induction l with
  | nil => intro acc _ _; rfl
  | cons c r ih =>
    intro acc hd hv
    have hc : 48 ≤ c.toNat ∧ c.toNat ≤ 57 := hd c (by simp)
    have e : valFrom acc (c :: r) = valFrom (acc * 10 + (c.toNat - 48)) r := rfl
    have h1 := valFrom_ge r (acc * 10 + (c.toNat - 48))
    rw [← e] at h1
    have h2 : acc * 10 + (c.toNat - 48) ≤ valFrom acc (c :: r) := Nat.le_trans (Nat.le_mul_of_pos_right _ (Nat.pow_pos (by decide))) h1
    rw [parseUint10, if_pos hc, if_neg (by omega), if_neg (by omega), ih _ (fun x hx => hd x (by simp [hx])) (by rw [← e]; exact hv), e]
theorem mag_dec (u : Nat) (h : u < 18446744073709551616) : parseMag (decDigits u) = .ok u := by
  rw [parseMag, if_neg (dec_ne u), parse_dig _ 0 (decDigits_dig u) (by have := val_dec u; unfold val at this; omega)]
  exact congrArg NumEnd.ok (val_dec u)
/-- WHAT IS WRITTEN IS READ BACK. -/
theorem atoi_itoa (n : Int) (h1 : -9223372036854775808 ≤ n) (h2 : n ≤ 9223372036854775807) : atoiAll (itoa n) = .ok n := by
  unfold itoa
  split
  · rename_i h
    rw [atoiAll_minus, mag_dec _ (by omega), signed, if_neg (by omega)]
    exact congrArg NumEnd.ok (by omega)
  · rename_i h
    have hm := mag_dec n.toNat (by omega)
    have hd := decDigits_dig n.toNat
    cases hl : decDigits n.toNat with
    | nil => exact absurd hl (dec_ne _)
    | cons c r =>
      rw [hl] at hm hd
      have hc := hd c (by simp)
      unfold isDig at hc
      rw [atoiAll_plain c r (by omega) (by omega), hm, signless, if_neg (by omega)]
      exact congrArg NumEnd.ok (by omega)

/-- The integer whose digits l are, if it is from -2^60 to 2^60. -/
def numOf (l : List UInt8) : Option Int := match atoiAll l with
  | .ok n => if itoa n = l ∧ -1152921504606846976 ≤ n ∧ n ≤ 1152921504606846976 then some n else none
  | _ => none
theorem numOf_itoa (n : Int) (h1 : -1152921504606846976 ≤ n) (h2 : n ≤ 1152921504606846976) : numOf (itoa n) = some n := by
  rw [numOf, atoi_itoa n (by omega) (by omega)]
  exact if_pos ⟨rfl, h1, h2⟩
theorem numOf_big (n : Int) (hb : -9223372036854775808 ≤ n ∧ n ≤ 9223372036854775807) (h : n < -1152921504606846976 ∨ 1152921504606846976 < n) : numOf (itoa n) = none := by
  rw [numOf, atoi_itoa n hb.1 hb.2]
  exact if_neg (by omega)
theorem numOf_some {l : List UInt8} {n : Int} (h : numOf l = some n) : itoa n = l ∧ -1152921504606846976 ≤ n ∧ n ≤ 1152921504606846976 := by
  unfold numOf at h
  split at h
  · split at h
    · rename_i hh; cases h; exact hh
    · cases h
  · cases h
theorem numOf_none {l : List UInt8} (h : ∀ n : Int, -1152921504606846976 ≤ n → n ≤ 1152921504606846976 → itoa n ≠ l) : numOf l = none := by
  cases hn : numOf l with
  | none => rfl
  | some n => obtain ⟨h1, h2, h3⟩ := numOf_some hn; exact absurd h1 (h n h2 h3)
/-- What Num tells. -/
def numN (l : List UInt8) : Int := (numOf l).getD 0
def numE (l : List UInt8) : Int := if (numOf l).isSome then 0 else 20
theorem num_some {l : List UInt8} {n : Int} (h : numOf l = some n) : numN l = n ∧ numE l = 0 := by simp [numN, numE, h]
theorem num_none {l : List UInt8} (h : numOf l = none) : numN l = 0 ∧ numE l = 20 := by simp [numN, numE, h]

/-- The digits behind the sign. -/
def magOf (l : List UInt8) : List UInt8 := if l.head? = some 45 then l.drop 1 else l
theorem mag_itoa (n : Int) : magOf (itoa n) = decDigits n.natAbs ∧ ((itoa n).head? = some 45 ↔ n < 0) := by
  unfold itoa
  split
  · rename_i h; simp [magOf, h]
  · rename_i h
    have e : n.toNat = n.natAbs := by omega
    rw [e]
    have hh : (decDigits n.natAbs).head? ≠ some 45 := by
      intro e2
      have := decDigits_dig n.natAbs 45 (List.mem_of_head? e2)
      unfold isDig at this
      simp at this
    rw [magOf, if_neg hh]
    exact ⟨rfl, by simp [hh, h]⟩
/-- What is refused ahead of the end is no number. -/
theorem num_len {l : List UInt8} (h : (magOf l).length < 1 ∨ 19 < (magOf l).length) : numOf l = none := by
  refine numOf_none fun n h1 h2 e => ?_
  rw [← e, (mag_itoa n).1, decDigits_length] at h
  have h3 := nDigits_pos n.natAbs
  have h4 := nDigits_le 18 n.natAbs (by omega)
  omega
theorem num_char {l : List UInt8} {c : UInt8} (hc : c ∈ magOf l) (h : ¬ isDig c) : numOf l = none := by
  refine numOf_none fun n h1 h2 e => h ?_
  rw [← e, (mag_itoa n).1] at hc
  exact decDigits_dig _ c hc
theorem num_more {l : List UInt8} {k : Nat} (hk : k < (magOf l).length) (h : 576460752303423488 < val ((magOf l).take k)) : numOf l = none := by
  refine numOf_none fun n h1 h2 e => ?_
  rw [← e, (mag_itoa n).1] at hk h
  have := val_take_lt _ k hk
  rw [val_dec] at this
  omega
theorem num_much {l : List UInt8} {k : Nat} (h : 1152921504606846976 < val ((magOf l).take k)) : numOf l = none := by
  refine numOf_none fun n h1 h2 e => ?_
  rw [← e, (mag_itoa n).1] at h
  have := val_take_le (decDigits n.natAbs) k
  rw [val_dec] at this
  omega
/-- What the digits stand for, with the sign. -/
def signedVal (l : List UInt8) : Int := if l.head? = some 45 then -(val (magOf l) : Int) else val (magOf l)
theorem signedVal_itoa (n : Int) : signedVal (itoa n) = n := by
  obtain ⟨h1, h2⟩ := mag_itoa n
  rw [signedVal, h1, val_dec]
  by_cases h : n < 0
  · rw [if_pos (h2.2 h)]; omega
  · rw [if_neg (fun e => h (h2.1 e))]; omega
theorem num_other {l : List UInt8} (h : itoa (signedVal l) ≠ l) : numOf l = none := by
  refine numOf_none fun n h1 h2 e => h ?_
  rw [← e, signedVal_itoa]
end Go.Proofs.YtjlcmgfgbmcjpaaDoor
