/- Keys: what stands ahead of what stands ahead (or is one with it) stands ahead. -/
import Derived.Test.YtdnhlabdpciclaaCmp2
namespace Go.Proofs.Ytdnhlabdpciclaa
theorem order_lt {a1 a2 a3 b1 b2 b3 c1 c2 c3 : Int} (h : kcmp a1 a2 a3 b1 b2 b3 < 0) (g : kcmp b1 b2 b3 c1 c2 c3 ≤ 0) : kcmp a1 a2 a3 c1 c2 c3 = -1 := by
  have h' := (kcmp_neg _ _ _ _ _ _).1 h
  have g' := (kcmp_nonpos _ _ _ _ _ _).1 g
  have k : kcmp a1 a2 a3 c1 c2 c3 < 0 := (kcmp_neg _ _ _ _ _ _).2 (by unfold kle at *; omega)
  rcases kcmp_range a1 a2 a3 c1 c2 c3 with r | r | r <;> omega
end Go.Proofs.Ytdnhlabdpciclaa
