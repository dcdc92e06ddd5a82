/- Proved: of a sealed text of which one byte is another one. -/
import Derived.Test.YtjlcmgfgbmcjpaaDoorSeal1
namespace Go.Proofs.YtjlcmgfgbmcjpaaDoor
open Go.RowKit
set_option linter.unusedVariables false

theorem modS (t : Int) (n : Nat) (hn : 0 < n) : ∃ (u : Int) (k : Nat), t.tmod n = u ∧ -(n : Int) < u ∧ u < n ∧ (u + n).tmod n = k ∧ (u + n) % n = k ∧ k < n := by
  have h1 := Int.tmod_lt_of_pos t (b := (n : Int)) (by omega)
  have h2 := Int.lt_tmod_of_pos t (b := (n : Int)) (by omega)
  refine ⟨t.tmod n, ((t.tmod n + n) % n).toNat, rfl, h2, h1, ?_, ?_, ?_⟩
  · rw [Int.tmod_eq_emod_of_nonneg (by omega), Int.toNat_of_nonneg (Int.emod_nonneg _ (by omega))]
  · rw [Int.toNat_of_nonneg (Int.emod_nonneg _ (by omega))]
  · have h3 := Int.emod_nonneg (t.tmod n + n) (b := (n : Int)) (by omega)
    have h4 := Int.emod_lt_of_pos (t.tmod n + n) (b := (n : Int)) (by omega)
    omega
/-- The text with the byte D at k. -/
theorem put_data (X : ByteArray) (k : Nat) (D : UInt8) (hk : k < X.size) : (X.extract 0 k ++ (⟨#[D]⟩ : ByteArray) ++ X.extract (k + 1) X.size).data.toList = X.data.toList.take k ++ D :: X.data.toList.drop (k + 1) := by
  rw [bytesS, bytesS, Lib.extract_to_end]
  have e : (X.extract 0 k).data.toList = X.data.toList.take k := by simp [ByteArray.data_extract]
  rw [e]; simp
theorem put_same (X : ByteArray) (k : Nat) (hk : k < X.size) : X.extract 0 k ++ (⟨#[X[k]]⟩ : ByteArray) ++ X.extract (k + 1) X.size = X := by
  have h := put_data X k X[k] hk
  have e : X.data.toList.take k ++ X[k] :: X.data.toList.drop (k + 1) = X.data.toList := by
    have : X[k] = X.data.toList[k]'(by simpa using hk) := rfl
    rw [this, List.getElem_cons_drop, List.take_append_drop]
  rw [e] at h
  cases X
  exact (dataS h).trans (by simp)
theorem put_other (s : ByteArray) (k : Nat) (D : UInt8) (hk : k < (sealB s).size) (hD : (sealB s)[k] ≠ D) : sealedB ((sealB s).extract 0 k ++ (⟨#[D]⟩ : ByteArray) ++ (sealB s).extract (k + 1) (sealB s).size) = false := by
  refine decide_eq_false ?_
  rintro ⟨_, h⟩
  have h1 := congrArg (fun x : ByteArray => x.data.toList) h
  rw [sealB_data, put_data _ k D hk, sealB_data] at h1
  refine sealT_changed s.data.toList k D (by rw [sealT_length, sizeS]; rw [sealB_size] at hk; exact hk) ?_ _ h1
  have e : (sealB s)[k] = (sealT s.data.toList)[k]'(by rw [sealT_length, sizeS]; rw [sealB_size] at hk; exact hk) := by
    have h2 : (sealB s)[k] = (sealB s).data.toList[k]'(by simpa using hk) := rfl
    rw [h2]
    congr 1
  rw [← e]; exact hD
theorem u8_ne' {b : UInt8} (h : b ≠ 0) : ¬ ((b.toNat : Int) = 0) := fun e => h (UInt8.toNat_inj.1 (Int.natCast_inj.1 e))
theorem add_u8 (c b : UInt8) : ((c.toNat : Int) + (b.toNat : Int)) % 256 = ((c + b).toNat : Int) := by
  rw [UInt8.toNat_add]; omega
theorem add_ne {c b : UInt8} (h : b ≠ 0) : c ≠ c + b := by
  intro e
  apply h
  have h1 := congrArg UInt8.toNat e
  rw [UInt8.toNat_add] at h1
  have h2 := c.toNat_lt
  have h3 := b.toNat_lt
  apply UInt8.toNat_inj.1
  show b.toNat = 0
  omega
end Go.Proofs.YtjlcmgfgbmcjpaaDoor
