/- Codes are ordered as their keys are: plain facts. -/
import Derived.Test.YtdnhlabdpciclaaRise1
namespace Go.Proofs.Ytdnhlabdpciclaa
open Go.RowKit

theorem codeE_two (a b c : Int) : (codeE a b c = 0 ∧ cdB a b c = true) ∨ codeE a b c = 1 := by
  unfold codeE
  by_cases h : cdB a b c = true
  · left; exact ⟨if_pos h, h⟩
  · right; exact if_neg h

theorem codeS_list {a b c : Int} (h : cdB a b c = true) : (codeS a b c).toList = code a.toNat b.toNat c.toNat := by
  unfold codeS; rw [if_pos h, ByteArray.toList_mk]

theorem code_less {a1 a2 a3 b1 b2 b3 : Int} (ha : cdB a1 a2 a3 = true) (hb : cdB b1 b2 b3 = true) :
    Op.bytesLess (codeS a1 a2 a3).toList (codeS b1 b2 b3).toList = decide (kcmp a1 a2 a3 b1 b2 b3 < 0) := by
  rw [codeS_list ha, codeS_list hb]
  obtain ⟨x, y, z, rfl, rfl, rfl, hx, hy, hz⟩ := cdB_nat ha
  obtain ⟨p, q, r, rfl, rfl, rfl, hp, hq, hr⟩ := cdB_nat hb
  simp only [Int.toNat_natCast]
  rw [less_val _ _ (by rw [code_length, code_length]), val_code x y z (by omega) (by omega) (by omega), val_code p q r (by omega) (by omega) (by omega)]
  apply decide_eq_decide.2
  rw [kcmp_neg]
  unfold kle
  omega

theorem code_same {a1 a2 a3 b1 b2 b3 : Int} (ha : cdB a1 a2 a3 = true) (hb : cdB b1 b2 b3 = true) :
    ((codeS a1 a2 a3).toList == (codeS b1 b2 b3).toList) = decide (kcmp a1 a2 a3 b1 b2 b3 = 0) := by
  rw [codeS_list ha, codeS_list hb]
  obtain ⟨x, y, z, rfl, rfl, rfl, hx, hy, hz⟩ := cdB_nat ha
  obtain ⟨p, q, r, rfl, rfl, rfl, hp, hq, hr⟩ := cdB_nat hb
  simp only [Int.toNat_natCast]
  rw [Bool.eq_iff_iff, decide_eq_true_eq, beq_iff_eq, kcmp_zero]
  constructor
  · intro h
    have := congrArg val h
    rw [val_code x y z (by omega) (by omega) (by omega), val_code p q r (by omega) (by omega) (by omega)] at this
    omega
  · rintro ⟨h1, h2, h3⟩
    have e1 : x = p := by omega
    have e2 : y = q := by omega
    have e3 : z = r := by omega
    rw [e1, e2, e3]
end Go.Proofs.Ytdnhlabdpciclaa
