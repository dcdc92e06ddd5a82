/- Proved: the program's node keeps all contracts that the statements' walks ask. -/
import Derived.Test.YtkodjioofkdepaaPn4
import Derived.Test.YtkodjioofkdepaaPn5
import Derived.Test.YtkodjioofkdepaaFce
namespace Go.Proofs.Ytkodjioofkdepaa
open Go.RowKit Go.Shelf
set_option linter.unusedVariables false
set_option maxRecDepth 100000

/-- The program's node: it has a copy of its own of what it needs of the federation. -/
def PN (w0 : World) (D : Wd) (f : Nat) (x : Nd) (nb : Nat) (F : Nat → Prop) (W : World) : Prop :=
  ∃ D' cb rb qb G v K, LikP f D' D ∧ KN w0 D' f x nb cb rb qb G v K W ∧ F = FK nb cb rb G v K
theorem face : Face PN where
  lt := by
    rintro w0 D f x nb F W ⟨D', cb, rb, qb, G, v, K, hl, hk, rfl⟩
    exact hk.lt
  lo := by
    rintro w0 D f x nb F W ⟨D', cb, rb, qb, G, v, K, hl, hk, rfl⟩
    exact hk.lo
  bel := by
    rintro w0 D f x nb F W ⟨D', cb, rb, qb, G, v, K, hl, hk, rfl⟩
    exact hk.bel
  keep := by
    rintro S w0 D f x nb F W W2 ⟨D', cb, rb, qb, G, v, K, hl, hk, rfl⟩ hf hs h0
    exact ⟨D', cb, rb, qb, G, v, K, hl, hk.keep hf hs h0, rfl⟩
  new := by
    intro w D f h hw hf hkd
    refine (knnew_ok w D f h hw hf hkd).mono ?_
    rintro en w' ⟨nb, cb, rb, qb, G, K, D', he, hl, hk⟩
    exact ⟨nb, _, he, D', cb, rb, qb, G, _, K, hl, hk, rfl⟩
  hear := by
    rintro w0 D f x nb F w ⟨D', cb, rb, qb, G, v, K, hl, hk, rfl⟩ fr k co T b c d e g h1 h2
    have := knhear hk fr k co T b c d e g h1 h2
    rw [hl.fl] at this
    refine this.mono ?_
    rintro en w' ⟨he, G2, h3, h4⟩
    exact ⟨_, he, ⟨D', cb, rb, qb, G2, v, K, hl, h3, rfl⟩, h4⟩
  safe := by
    rintro w0 D f x nb F w ⟨D', cb, rb, qb, G, v, K, hl, hk, rfl⟩
    have := knsafe hk
    rw [hl.safe] at this
    exact this
  idle := by
    rintro w0 D f x nb F w ⟨D', cb, rb, qb, G, v, K, hl, hk, rfl⟩ hs
    exact knstep_idle hk (by rw [hl.safe]; exact hs)
  step := by
    rintro w0 D f x nb F w ⟨D', cb, rb, qb, G, v, K, hl, hk, rfl⟩ hs h1 h2
    have := knstep_go hk (by rw [hl.safe]; exact hs) h1 h2
    rw [hl.spD, hl.spM, hl.spN] at this
    refine this.mono ?_
    rintro en w' ⟨va, vc, G2, v2, he, h3, h4, h5, h6⟩
    exact ⟨va, vc, _, he, h3, h4, ⟨D', cb, rb, qb, G2, v2, K, hl, h5, rfl⟩, h6⟩
  tell := by
    rintro w0 D f x nb F w ⟨D', cb, rb, qb, G, v, K, hl, hk, rfl⟩
    have := kntell hk
    rw [hl.teT, hl.teB, hl.teN] at this
    refine this.mono ?_
    rintro en w' ⟨he, h3, h4⟩
    exact ⟨_, he, ⟨D', cb, rb, qb, G, v, K, hl, h3, rfl⟩, h4⟩
  log := by
    rintro w0 D f x nb F w ⟨D', cb, rb, qb, G, v, K, hl, hk, rfl⟩ hlen
    exact knlog hk hlen
  bound := by
    rintro w0 D f x nb F w ⟨D', cb, rb, qb, G, v, K, hl, hk, rfl⟩
    have := C.bound_any hk.ck
    rw [hl.fl] at this
    exact ⟨cb, hk.cells.1, this⟩
end Go.Proofs.Ytkodjioofkdepaa
