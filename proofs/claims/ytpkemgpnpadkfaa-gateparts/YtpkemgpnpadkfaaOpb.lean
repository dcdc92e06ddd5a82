/- Proved: slices of bytes that came in. -/
import Derived.Test.YtpkemgpnpadkfaaOpg
import Derived.Test.YtpkemgpnpadkfaaTim
import Derived.ChangeSlices
import Derived.OpenShut
import Derived.ProofKit
import Derived.Deep.Slices
import Derived.Deep.Strs
import Derived.Lib.SmallJoins
namespace Go.Proofs.Ytpkemgpnpadkfaa
open Go.ChangeShapes Go.WideShapes Go.ChangeAt Go.RowKit Go.Deep Go.Joins
set_option linter.unusedVariables false

theorem cells5 : Try.prog.cellsOf 5 = 1 := by kernel_rfl
theorem mem_getD {α : Type} {l : List α} {z : α} {i : Nat} (hi : i < l.length) : l.getD i z ∈ l := by simp [hi]
theorem open_byte1 {H : Type} {en : TypeId × Value → H} {W : World} {base fuel : Nat} {spare : Nat → Bool} {held : Bool} {cs : List Value} {x : DataW H × List MemPlace} (h : DataW.trod en Try.prog W base spare held fuel 5 cs = some x) :
    ∃ a : Int, cs = [.int .u8 a] ∧ (0 ≤ a ∧ a ≤ 255) := by
  obtain ⟨p, e0, _, w0⟩ := DataW.trod_int Try.underlying5 h
  have := bounds_u8 w0
  exact ⟨p, e0, by omega⟩
theorem open_bytes {H : Type} {en : TypeId × Value → H} {W : World} {base fuel : Nat} {spare : Nat → Bool} {held : Bool} {v : Value} {x : DataW H × List MemPlace} (h : DataW.trod en Try.prog W base spare held fuel 47 [v] = some x) :
    ∃ (sa : Option Addr) (sc : Nat) (l : List Int), v = .slice sa l.length sc ∧ l.length ≤ maxLen ∧ InN .u8 255 W sa l := by
  obtain ⟨sa, sc, l, rfl, hm, hok, hrd⟩ := open_gen (0 : Int) 5 47 (fun a : Int => [.int .u8 a]) 1 (by omega) (fun _ => rfl) cells5 Try.underlying47 (fun a => 0 ≤ a ∧ a ≤ 255) (fun n cs x h => open_byte1 h) h
  refine ⟨sa, sc, l, rfl, hm, fun i hi => hok _ (mem_getD hi), fun g => ?_⟩
  obtain ⟨b, off, rfl, hb, hc⟩ := hrd g
  refine ⟨b, off, rfl, hb, fun i hi => ?_⟩
  have := hc i hi 0 (by omega)
  simpa [nthI] using this
end Go.Proofs.Ytpkemgpnpadkfaa
