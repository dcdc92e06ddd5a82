/- Proved: what the variables that the rows of numbers and of seals list give, and that there is a start that lays them. -/
import Derived.Test.YtjlcmgfgbmcjpaaDoorRows
import Derived.Test.YtjlcmgfgbmcjpaaDoorNum1
import Derived.LaidHandle
import Derived.LaidMore
import Derived.LaidSub
import Derived.Lay
import Derived.ProofKit
import Derived.OpenShut
import Derived.Lib.LaidTab
namespace Go.Proofs.YtjlcmgfgbmcjpaaDoor
open Go.ChangeShapes Go.WideShapes Go.ChangeAt Go.RowKit
set_option linter.unusedVariables false

abbrev laidB : List (String × DataW Unit) := [("math/bits.deBruijn32tab", Rows.laid_math_bits_deBruijn32tab), ("math/bits.deBruijn64tab", Rows.laid_math_bits_deBruijn64tab), ("internal/strconv.uint64pow10", Rows.laid_internal_strconv_uint64pow10)]
abbrev laidC : List (String × DataW Unit) := laidB ++ [("strconv.ErrRange", Rows.laid_strconv_ErrRange), ("strconv.ErrSyntax", Rows.laid_strconv_ErrSyntax)]
theorem iface_of {H : Type} {enc : TypeId × Value → H} {w : World} {base : Nat} {sp : Nat → Bool} {held : Bool} {fuel : Nat} {cs : List Value} {x : DataW H × List MemPlace}
    (h : DataW.trod enc Tryd.prog w base sp held fuel 50 cs = some x) : ∃ v, cs = [v] ∧ (v = .nilIface ∨ ∃ te pe, v = .iface te pe) := by
  cases fuel with
  | zero => simp [DataW.trod] at h
  | succ fuel =>
    simp only [DataW.trod, Tryd.underlying50] at h
    split at h
    all_goals first | exact ⟨_, rfl, .inl rfl⟩ | exact ⟨_, rfl, .inr ⟨_, _, rfl⟩⟩ | (exfalso; simp_all; done) | cases h
theorem gRange : Tryd.prog.globalNamed "strconv.ErrRange" = some 2 := by kernel_rfl
theorem gSyntax : Tryd.prog.globalNamed "strconv.ErrSyntax" = some 1 := by kernel_rfl
theorem tRange : (Tryd.prog.globals[2]?).map (·.type) = some 50 := by kernel_rfl
theorem tSyntax : (Tryd.prog.globals[1]?).map (·.type) = some 50 := by kernel_rfl
theorem tPow : (Tryd.prog.globals[3]?).map (·.type) = some 139 := by kernel_rfl
theorem cPow : Tryd.prog.cellsOf 58 = 1 ∧ Tryd.prog.cellsOf 139 = 20 := ⟨by kernel_rfl, by kernel_rfl⟩
theorem dPow : (Rows.laid_internal_strconv_uint64pow10 : DataW Unit) = Lib.tabData .u64 Lib.pow10Tab := by kernel_rfl
/-- One variable of a list. -/
theorem one_of {l : List (String × DataW Unit)} {W : World} (n : String) (d : DataW Unit) (h : laidMetH Tryd.prog l W) (hl : ((l.filter fun x => x.2.handleName?.isNone).filter fun x => x.1 == n) = [(n, d)]) : laidMet Tryd.prog [(n, d)] W := by
  have h' := (laidMetH_iff.1 h).1.filter (fun x => x.1 == n)
  rw [hl] at h'
  exact h'
theorem tab_of {l : List (String × DataW Unit)} {W : World} (h : laidMetH Tryd.prog l W) (hl : ((l.filter fun x => x.2.handleName?.isNone).filter fun x => x.1 == "internal/strconv.uint64pow10") = [("internal/strconv.uint64pow10", Rows.laid_internal_strconv_uint64pow10)]) : TabAt W := by
  have h1 := one_of _ _ h hl
  rw [dPow] at h1
  exact Lib.tabIs_of_head gPow tPow Tryd.underlying139 Tryd.underlying58 cPow.1 cPow.2 h1
theorem err_of {l : List (String × DataW Unit)} {W : World} {n : String} {d : DataW Unit} {g : Nat} (hg : Tryd.prog.globalNamed n = some g) (ht : (Tryd.prog.globals[g]?).map (·.type) = some 50) (h : laidMetH Tryd.prog l W) (hl : ((l.filter fun x => x.2.handleName?.isNone).filter fun x => x.1 == n) = [(n, d)]) : ErrAt g W := by
  obtain ⟨ps, ⟨g', t', cs, fuel, p, q, hg', ht', hvar, hd, _, _⟩, _⟩ := one_of _ _ h hl
  obtain rfl := Option.some.inj (hg.symm.trans hg')
  obtain rfl := Option.some.inj (ht.symm.trans ht')
  obtain ⟨v, hv, he⟩ := iface_of hd
  refine ⟨v, ?_, he⟩
  have := World.var?_cell hg hvar 0
  rw [this, ← Array.getElem?_toList, hv]; rfl
/-- What the rows of seals lean on. -/
def Tabs (W : World) : Prop := TabAt W
theorem tabs_of {W : World} (h : laidMetH Tryd.prog laidB W) : Tabs W := tab_of h (by kernel_rfl)
/-- What the row of numbers leans on. -/
def TabsN (W : World) : Prop := NumAt W
theorem tabsN_of {W : World} (h : laidMetH Tryd.prog laidC W) : TabsN W := ⟨tab_of h (by kernel_rfl), err_of gSyntax tSyntax h (d := Rows.laid_strconv_ErrSyntax) (by kernel_rfl), err_of gRange tRange h (d := Rows.laid_strconv_ErrRange) (by kernel_rfl)⟩

/-! ### A start that lays what the rows list -/
theorem laidWorldB_met (os : Os) (args : Array Value) : laidMetH Tryd.prog laidB ((World.laidAll Tryd.prog os laidB).forCall (fun _ _ => 0) ⟨#[], args, []⟩).memory :=
  laidMetH_of_parts (laidMet_of_run' 8 (by kernel_rfl) (by kernel_rfl)) (by kernel_rfl)
theorem laidWorldC_met (os : Os) (args : Array Value) : laidMetH Tryd.prog laidC ((World.laidAll Tryd.prog os laidC).forCall (fun _ _ => 0) ⟨#[], args, []⟩).memory :=
  laidMetH_of_parts (laidMet_of_run' 8 (by kernel_rfl) (by kernel_rfl)) (by kernel_rfl)
theorem own : ownKnob Tryd.prog.godebug = none := by kernel_rfl
theorem laidOut : laidOutB Tryd.prog = true := by kernel_rfl
end Go.Proofs.YtjlcmgfgbmcjpaaDoor
