/- Proved: what the table of trailing noughts gives that the rows of seals list. -/
import Derived.Test.YtjlcmgfgbmcjpaaDoorTiedN
import Derived.Test.YtjlcmgfgbmcjpaaDoorSeal1
namespace Go.Proofs.YtjlcmgfgbmcjpaaDoor
open Go.ChangeShapes Go.WideShapes Go.ChangeAt Go.RowKit
set_option linter.unusedVariables false
def tab64 : List Int := [0, 1, 56, 2, 57, 49, 28, 3, 61, 58, 42, 50, 38, 29, 17, 4, 62, 47, 59, 36, 45, 43, 51, 22, 53, 39, 33, 30, 24, 18, 12, 5, 63, 55, 48, 27, 60, 41, 37, 16, 46, 35, 44, 21, 52, 32, 23, 11, 54, 26, 40, 15, 34, 20, 31, 10, 25, 14, 19, 9, 13, 8, 7, 6]
theorem gTab : Tryd.prog.globalNamed "math/bits.deBruijn64tab" = some 6 := by kernel_rfl
theorem tTab : (Tryd.prog.globals[6]?).map (·.type) = some 156 := by kernel_rfl
theorem cTab : Tryd.prog.cellsOf 5 = 1 ∧ Tryd.prog.cellsOf 156 = 64 := ⟨by kernel_rfl, by kernel_rfl⟩
theorem dTab : (Rows.laid_math_bits_deBruijn64tab : DataW Unit) = Lib.tabData .u8 tab64 := by kernel_rfl
theorem sh_of {W : World} (h : laidMetH Tryd.prog laidB W) : ShAt W := by
  have h1 := one_of "math/bits.deBruijn64tab" Rows.laid_math_bits_deBruijn64tab h (by kernel_rfl)
  rw [dTab] at h1
  have h2 := Lib.tabIs_of_head gTab tTab Tryd.underlying156 Tryd.underlying5 cTab.1 cTab.2 h1
  exact h2.cell gTab 15 (by decide)
end Go.Proofs.YtjlcmgfgbmcjpaaDoor
