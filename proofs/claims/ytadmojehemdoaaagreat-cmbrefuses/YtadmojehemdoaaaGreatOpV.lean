/- Proved: a call that came in by value. -/
import Derived.Test.YtadmojehemdoaaaGreatOpc
import Derived.Lib.SmallJoins
namespace Go.Proofs.YtadmojehemdoaaaGreat
open Go.RowKit Go.Shelf Go.WideShapes
set_option linter.unusedVariables false

set_option maxRecDepth 100000 in
theorem open_opv {H : Type} {enc : TypeId × Value → H} {W : World} {base : Nat} {spare : Nat → Bool} {held : Bool} {r : Reach} {b0 : Nat} {v : Value} {d : DataW H} {p : List MemPlace}
    (hv : Value.okWide Tryz.prog W r b0 43 v) (h : DataW.Trod enc Tryz.prog W base spare held 43 v d p) :
    ∃ o : Oq, v = .agg (oqc o) ∧ wfO o := by
  obtain ⟨cs, rfl, hsz⟩ := okWide_struct Tryz.underlying43 hv
  obtain ⟨fuel, hf⟩ := h
  obtain ⟨o, e, hw⟩ := open_op (cs := cs.toList) (by simpa [Value.cells] using hf)
  refine ⟨o, ?_, hw⟩
  have e2 : cs = (encQ o).toArray := by rw [← e]
  rw [e2]
  rfl
end Go.Proofs.YtadmojehemdoaaaGreat
