/- Proved: an array of four words that came in by value. -/
import Derived.Test.YtmkhgihhledegaaOpm
import Derived.Laws.IdiomArrays
namespace Go.Proofs.Ytmkhgihhledegaa
open Go.ChangeShapes Go.WideShapes Go.ChangeAt Go.RowKit Go.Deep Go.Joins
set_option linter.unusedVariables false

theorem cellsA : Try.prog.cellsOf 38 = 4 := by kernel_rfl
theorem open_arr4 {H : Type} {enc : TypeId × Value → H} {W : World} {base : Nat} {spare : Nat → Bool} {held : Bool} {r : Reach} {b0 : Nat} {v : Value} {d : DataW H} {p : List MemPlace}
    (hv : Value.okWide Try.prog W r b0 38 v) (h : DataW.Trod enc Try.prog W base spare held 38 v d p) :
    ∃ a b c e : Int, v = .agg #[.int .u16 a, .int .u16 b, .int .u16 c, .int .u16 e] ∧ (0 ≤ a ∧ a ≤ 65535) ∧ (0 ≤ b ∧ b ≤ 65535) ∧ (0 ≤ c ∧ c ≤ 65535) ∧ (0 ≤ e ∧ e ≤ 65535) := by
  obtain ⟨cs, rfl, hsz, _⟩ : ∃ cs, v = .agg cs ∧ cs.size = Try.prog.cellsOf 38 ∧ Row.okWide Try.prog W r b0 38 cs := by
    simpa [Value.okWide, Try.underlying38] using hv
  rw [cellsA] at hsz
  obtain ⟨c0, c1, c2, c3, rfl⟩ := array4 hsz
  obtain ⟨fuel, hf⟩ := h
  obtain ⟨y0, y1, y2, y3, m, hx, hy0, hy1, hy2, hy3⟩ := trod_array4 Try.underlying38 cellsW (by simpa [Value.cells] using hf)
  obtain ⟨x0, e0, w0⟩ := open_word1 hy0
  obtain ⟨x1, e1, w1⟩ := open_word1 hy1
  obtain ⟨x2, e2, w2⟩ := open_word1 hy2
  obtain ⟨x3, e3, w3⟩ := open_word1 hy3
  simp at e0 e1 e2 e3
  subst e0 e1 e2 e3
  exact ⟨x0, x1, x2, x3, rfl, w0, w1, w2, w3⟩
end Go.Proofs.Ytmkhgihhledegaa
