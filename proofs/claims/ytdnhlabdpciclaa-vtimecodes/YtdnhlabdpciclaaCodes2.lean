/- A key's code is read back: plain facts. -/
import Derived.Test.YtdnhlabdpciclaaDec3
namespace Go.Proofs.Ytdnhlabdpciclaa
open Go.RowKit

theorem back_facts {a b c : Int} (h : cdB a b c = true) :
    (codeS a b c).size = 16 ∧ decT (codeS a b c) = a ∧ decF (codeS a b c) = b ∧ decS (codeS a b c) = c ∧ decE (codeS a b c) = 0 := by
  have hv : vldB a = true := by unfold cdB at h; simp only [Bool.and_eq_true] at h; exact h.1
  have hS : codeS a b c = ⟨(code a.toNat b.toNat c.toNat).toArray⟩ := if_pos h
  obtain ⟨x, y, z, rfl, rfl, rfl, hx, hy, hz⟩ := cdB_nat h
  rw [hS]
  simp only [Int.toNat_natCast]
  generalize ht : (⟨(code x y z).toArray⟩ : ByteArray) = t
  have hl : t.data.toList = code x y z := by rw [← ht]
  have hs : t.size = 16 := by rw [← list_len, hl, code_length]
  have q1 : p1 t = be x 8 := by unfold p1; rw [hl, code, List.take_append_of_le_length (by rw [be_length]; omega), List.take_of_length_le (by rw [be_length]; omega)]
  have hd : t.data.toList.drop 8 = be y 2 ++ be z 6 := by rw [hl, code, List.drop_append_of_le_length (by rw [be_length]; omega), List.drop_of_length_le (by rw [be_length]; omega), List.nil_append]
  have q2 : p2 t = be y 2 := by unfold p2; rw [hd, List.take_append_of_le_length (by rw [be_length]; omega), List.take_of_length_le (by rw [be_length]; omega)]
  have q3 : p3 t = be z 6 := by
    unfold p3
    rw [show (10 : Nat) = 8 + 2 from rfl, ← List.drop_drop, hd, List.drop_append_of_le_length (by rw [be_length]; omega), List.drop_of_length_le (by rw [be_length]; omega), List.nil_append]
  have v1 : val (p1 t) = x := by rw [q1, val_be, Nat.mod_eq_of_lt (by omega)]
  have v2 : val (p2 t) = y := by rw [q2, val_be, Nat.mod_eq_of_lt (by omega)]
  have v3 : val (p3 t) = z := by rw [q3, val_be, Nat.mod_eq_of_lt (by omega)]
  have ho : okS t = true := by unfold okS; rw [v1, hv]; simp [hs]
  refine ⟨hs, ?_, ?_, ?_, ?_⟩
  · unfold decT; rw [if_pos ho, v1]
  · unfold decF; rw [if_pos ho, v2]
  · unfold decS; rw [if_pos ho, v3]
  · unfold decE; rw [if_pos ho]
end Go.Proofs.Ytdnhlabdpciclaa
