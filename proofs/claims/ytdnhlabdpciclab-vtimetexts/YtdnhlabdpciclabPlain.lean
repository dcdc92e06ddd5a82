/- Plain mathematics of layer 1: what a number counts as, what two come to, which numbers are times; no Go in sight. -/
import GoSem.Claim
namespace Go.Proofs.Ytdnhlabdpciclab

/-- what a number counts as where a time is asked for -/
def cnt (t : Int) : Int := if t > 1099511627776 then 1125899906842624 else if t < 0 then 0 else t
def vadd (t d : Int) : Int := cnt (cnt t + cnt d)
def vldB (t : Int) : Bool := decide ((0 ≤ t ∧ t ≤ 1099511627776) ∨ t = 1125899906842624)

theorem cnt_lo (t : Int) : 0 ≤ cnt t := by unfold cnt; split <;> (try split) <;> omega
theorem cnt_hi (t : Int) : cnt t ≤ 1125899906842624 := by unfold cnt; split <;> (try split) <;> omega
theorem cnt_vld (t : Int) : vldB (cnt t) = true := by
  unfold vldB cnt; apply decide_eq_true; split <;> (try split) <;> omega
theorem vadd_vld (t d : Int) : vldB (vadd t d) = true := cnt_vld _
theorem vadd_comm (t d : Int) : vadd d t = vadd t d := by unfold vadd; rw [Int.add_comm]
theorem vadd_lo (t d : Int) : 0 ≤ vadd t d := cnt_lo _
theorem vadd_hi (t d : Int) : vadd t d ≤ 1125899906842624 := cnt_hi _
theorem cnt_big {t : Int} (h : 1099511627776 < t) : cnt t = 1125899906842624 := by unfold cnt; rw [if_pos h]
theorem cnt_mid {t : Int} (h0 : 0 ≤ t) (h : t ≤ 1099511627776) : cnt t = t := by
  unfold cnt; rw [if_neg (by omega), if_neg (by omega)]
theorem cnt_low {t : Int} (h : t < 0) : cnt t = 0 := by
  unfold cnt; rw [if_neg (by omega), if_pos h]
theorem cnt_two (t : Int) : cnt t = 1125899906842624 ∨ cnt t ≤ 1099511627776 := by
  unfold cnt; split <;> (try split) <;> omega
theorem cnt_cnt (t : Int) : cnt (cnt t) = cnt t := by
  rcases cnt_two t with h | h
  · rw [h]; exact cnt_big (by omega)
  · exact cnt_mid (cnt_lo t) h
/-- a sum of which one part is counted: what is counted twice is counted once -/
theorem cnt_add (s z : Int) (hs : 0 ≤ s) (hz : 0 ≤ z) : cnt (cnt s + z) = cnt (s + z) := by
  by_cases h : s ≤ 1099511627776
  · rw [cnt_mid hs h]
  · rw [cnt_big (t := s) (by omega), cnt_big (by omega), cnt_big (by omega)]
theorem vadd_assoc (a b c : Int) : vadd (vadd a b) c = vadd a (vadd b c) := by
  have h1 := cnt_lo a
  have h2 := cnt_lo b
  have h3 := cnt_lo c
  unfold vadd
  rw [cnt_cnt, cnt_cnt, cnt_add _ _ (by omega) h3, Int.add_comm (cnt a) (cnt (cnt b + cnt c)), cnt_add _ _ (by omega) h1]
  congr 1
  omega
theorem vadd_ge (a b c : Int) : vadd a b ≤ vadd (vadd a b) c := by
  have h := vadd_hi a b
  have hl := vadd_lo a b
  have hv := vadd_vld a b
  generalize vadd a b = n at *
  have h3 := cnt_lo c
  unfold vldB at hv
  have hv := of_decide_eq_true hv
  unfold vadd
  generalize cnt c = z at *
  have hn : cnt n = n := by
    rcases hv with hv | hv
    · exact cnt_mid hv.1 hv.2
    · rw [hv]; exact cnt_big (by omega)
  rw [hn]
  by_cases g : n + z ≤ 1099511627776
  · rw [cnt_mid (by omega) g]; omega
  · rw [cnt_big (by omega)]; exact h
end Go.Proofs.Ytdnhlabdpciclab
