/- Proved: slices of bytes and of bools that came in: what the walk is told of them. -/
import Derived.Test.YtmfcbalhabcodaaGreatOpn
import Derived.Test.YtmfcbalhabcodaaGreatJPln
namespace Go.Proofs.YtmfcbalhabcodaaGreat
open Go.ChangeShapes Go.WideShapes Go.ChangeAt Go.RowKit Go.Deep Go.Joins
set_option linter.unusedVariables false

theorem cells5 : Tryz.prog.cellsOf 5 = 1 := by kernel_rfl
theorem cells4 : Tryz.prog.cellsOf 4 = 1 := by kernel_rfl
theorem open_byte1 {H : Type} {en : TypeId × Value → H} {W : World} {base fuel : Nat} {spare : Nat → Bool} {held : Bool} {cs : List Value} {x : DataW H × List MemPlace} (h : DataW.trod en Tryz.prog W base spare held fuel 5 cs = some x) :
    ∃ a : Int, cs = [.int .u8 a] ∧ (0 ≤ a ∧ a ≤ 255) := by
  obtain ⟨p, e0, _, w0⟩ := DataW.trod_int Tryz.underlying5 h
  have := bounds_u8 w0
  exact ⟨p, e0, by omega⟩
theorem open_bytes {H : Type} {en : TypeId × Value → H} {W : World} {base fuel : Nat} {spare : Nat → Bool} {held : Bool} {v : Value} {x : DataW H × List MemPlace} (h : DataW.trod en Tryz.prog W base spare held fuel 57 [v] = some x) :
    ∃ (sa : Option Addr) (sc : Nat) (l : List Int), v = .slice sa l.length sc ∧ InB W sa l := by
  obtain ⟨sa, sc, l, rfl, _, hok, hrd⟩ := open_gen (0 : Int) 5 57 (fun a : Int => [.int .u8 a]) 1 (by omega) (fun _ => rfl) cells5 Tryz.underlying57 (fun a => 0 ≤ a ∧ a ≤ 255) (fun n cs x h => open_byte1 h) h
  refine ⟨sa, sc, l, rfl, fun i hi => hok _ ((mem_nth l _).2 ⟨i, hi, rfl⟩), fun g => ?_⟩
  obtain ⟨b, off, rfl, hb, hc⟩ := hrd g
  refine ⟨b, off, rfl, hb, fun i hi => ?_⟩
  have := hc i hi 0 (by omega)
  simpa [nthI] using this
theorem open_bool1 {H : Type} {en : TypeId × Value → H} {W : World} {base fuel : Nat} {spare : Nat → Bool} {held : Bool} {cs : List Value} {x : DataW H × List MemPlace} (h : DataW.trod en Tryz.prog W base spare held fuel 4 cs = some x) :
    ∃ a : Bool, cs = [.bool a] ∧ True := by
  obtain ⟨p, e0, _⟩ := DataW.trod_bool Tryz.underlying4 h
  exact ⟨p, e0, trivial⟩
theorem open_bools {H : Type} {en : TypeId × Value → H} {W : World} {base fuel : Nat} {spare : Nat → Bool} {held : Bool} {v : Value} {x : DataW H × List MemPlace} (h : DataW.trod en Tryz.prog W base spare held fuel 59 [v] = some x) :
    ∃ (sa : Option Addr) (sc : Nat) (l : List Bool), v = .slice sa l.length sc ∧ InT W sa l := by
  obtain ⟨sa, sc, l, rfl, _, _, hrd⟩ := open_gen false 4 59 (fun a : Bool => [.bool a]) 1 (by omega) (fun _ => rfl) cells4 Tryz.underlying59 (fun _ => True) (fun n cs x h => open_bool1 h) h
  refine ⟨sa, sc, l, rfl, fun g => ?_⟩
  obtain ⟨b, off, rfl, hb, hc⟩ := hrd g
  refine ⟨b, off, rfl, hb, fun i hi => ?_⟩
  have := hc i hi 0 (by omega)
  simpa [nthT] using this
end Go.Proofs.YtmfcbalhabcodaaGreat
