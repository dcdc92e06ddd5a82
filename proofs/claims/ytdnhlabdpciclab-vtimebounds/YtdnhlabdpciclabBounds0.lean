/- Plain facts for VtimeBounds. -/
import Derived.Test.YtdnhlabdpciclabLeast
namespace Go.Proofs.Ytdnhlabdpciclab
open Go.RowKit
theorem vadd_inf (d : Int) : vadd 1125899906842624 d = 1125899906842624 := by
  have h : cnt 1125899906842624 = 1125899906842624 := cnt_big (by omega)
  have := cnt_lo d
  unfold vadd; rw [h]; exact cnt_big (by omega)
theorem vadd_again (t d : Int) : vadd (vadd t d) 0 = vadd t d := by
  rw [vadd_zero]; unfold vadd; exact cnt_cnt _
theorem least_below (t d : Int) : lstTo [t, d] 2 ≤ vadd t d := by
  have h1 : lstTo [t, d] 2 ≤ cnt t := lst_le [t, d] 0 2 (by omega)
  have h2 := cnt_lo d
  have h3 := cnt_lo t
  have h4 := cnt_hi t
  unfold vadd
  by_cases g : cnt t + cnt d ≤ 1099511627776
  · rw [cnt_mid (by omega) g]; omega
  · rw [cnt_big (by omega)]; omega
end Go.Proofs.Ytdnhlabdpciclab
