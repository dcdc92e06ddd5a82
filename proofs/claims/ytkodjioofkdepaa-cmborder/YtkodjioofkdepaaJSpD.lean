/- Joined: the texts that follow, each with its own sentence. -/
import Derived.WalkKit
import Derived.WalkSpells
import Derived.WalkLawsBesides
import Derived.Below
import Derived.OwnWalk
import Derived.Deep.RegionHeld3
import Derived.Lib.QuietBelow
import Derived.Test.YtkodjioofkdepaaJSnt
import Derived.Test.YtkodjioofkdepaaJTre
import Derived.Test.YtkodjioofkdepaaJTab
import Derived.Test.YtkodjioofkdepaaJCfh
import Derived.Test.YtkodjioofkdepaaJSpr
/- Proved: contracts of the functions that reckon with times, and of the two that make a message that is sent; no condition. -/
namespace Go.Proofs.Ytkodjioofkdepaa
open Go.RowKit
set_option linter.unusedVariables false

end Go.Proofs.Ytkodjioofkdepaa
/- Proved: the document's Above and Has answer what is said of a list of parents as plain data. -/
namespace Go.Proofs.Ytkodjioofkdepaa
open Go.RowKit Go.Shelf
set_option linter.unusedVariables false

end Go.Proofs.Ytkodjioofkdepaa
/- Proved: contracts of Step, the program's and the document's, and of the document's Same at one list. -/
namespace Go.Proofs.Ytkodjioofkdepaa
open Go.RowKit Go.Shelf
set_option linter.unusedVariables false

end Go.Proofs.Ytkodjioofkdepaa
/- Proved: the contract of the document's Routes. -/
namespace Go.Proofs.Ytkodjioofkdepaa
open Go.RowKit Go.Shelf
set_option linter.unusedVariables false

theorem any_swap (a b : List Int) : a.any (fun x => decide (x ∈ b)) = b.any (fun x => decide (x ∈ a)) := by
  rw [Bool.eq_iff_iff, List.any_eq_true, List.any_eq_true]
  constructor
  · rintro ⟨x, h1, h2⟩; exact ⟨x, of_decide_eq_true h2, decide_eq_true h1⟩
  · rintro ⟨x, h1, h2⟩; exact ⟨x, of_decide_eq_true h2, decide_eq_true h1⟩
theorem any_take_succ (l : List Int) (p : Int → Bool) (j : Nat) (h : j < l.length) : (l.take (j + 1)).any p = ((l.take j).any p || p (nthI l j)) := by
  rw [List.take_add_one, List.any_append]
  simp [nthI, h]

end Go.Proofs.Ytkodjioofkdepaa
/- Proved: the contract of the document's Spread. -/
namespace Go.Proofs.Ytkodjioofkdepaa
open Go.RowKit Go.Shelf
set_option linter.unusedVariables false

end Go.Proofs.Ytkodjioofkdepaa
/- Proved: the contract of the document's Starts. -/
namespace Go.Proofs.Ytkodjioofkdepaa
open Go.RowKit Go.Shelf
set_option linter.unusedVariables false

end Go.Proofs.Ytkodjioofkdepaa
