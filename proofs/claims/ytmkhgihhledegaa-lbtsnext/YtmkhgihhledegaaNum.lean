/- Proved: slices of small numbers: how they lie in memory, those that came in. -/
import Derived.Test.YtmkhgihhledegaaOpg
import Derived.ChangeSlices
import Derived.OpenShut
import Derived.ProofKit
import Derived.Deep.Slices
import Derived.Deep.Strs
import Derived.Lib.SmallJoins
namespace Go.Proofs.Ytmkhgihhledegaa
open Go.ChangeShapes Go.WideShapes Go.ChangeAt Go.RowKit Go.Deep Go.Joins
set_option linter.unusedVariables false

def nthI (zs : List Int) (i : Nat) : Int := zs.getD i 0
/-- A slice of small numbers that came in. -/
def InN (k : IntKind) (m : Int) (w : World) (a : Option Addr) (zs : List Int) : Prop := (∀ i, i < zs.length → 0 ≤ nthI zs i ∧ nthI zs i ≤ m) ∧ (zs ≠ [] → ∃ b off, a = some ⟨b, off, none⟩ ∧ b < w.heap.size ∧ ∀ i, i < zs.length → w.cell? ⟨b, off + i, none⟩ = some (.int k (nthI zs i)))
theorem InN.cell {k : IntKind} {m : Int} {w : World} {a : Option Addr} {zs : List Int} (h : InN k m w a zs) {i : Nat} (hi : i < zs.length) :
    0 ≤ nthI zs i ∧ nthI zs i ≤ m ∧ ∃ b off, a = some ⟨b, off, none⟩ ∧ b < w.heap.size ∧ ∀ W, Below w.heap.size w W → W.cell? ⟨b, off + i, none⟩ = some (.int k (nthI zs i)) := by
  obtain ⟨b, off, rfl, hb, hc⟩ := h.2 (by intro e; rw [e] at hi; simp at hi)
  exact ⟨(h.1 i hi).1, (h.1 i hi).2, b, off, rfl, hb, fun W hW => (hW.cell (p := ⟨b, off + i, none⟩) hb).trans (hc i hi)⟩
theorem cells3 : Try.prog.cellsOf 3 = 1 := by kernel_rfl
theorem cells5 : Try.prog.cellsOf 5 = 1 := by kernel_rfl
theorem cellsW : Try.prog.cellsOf 35 = 1 := by kernel_rfl
theorem get_mem {α : Type} {l : List α} {z : α} {i : Nat} (hi : i < l.length) : l.getD i z ∈ l := by simp [hi]
theorem open_byte1 {H : Type} {en : TypeId × Value → H} {W : World} {base fuel : Nat} {spare : Nat → Bool} {held : Bool} {cs : List Value} {x : DataW H × List MemPlace} (h : DataW.trod en Try.prog W base spare held fuel 5 cs = some x) :
    ∃ a : Int, cs = [.int .u8 a] ∧ (0 ≤ a ∧ a ≤ 255) := by
  obtain ⟨p, e0, _, w0⟩ := DataW.trod_int Try.underlying5 h
  have := bounds_u8 w0
  exact ⟨p, e0, by omega⟩
theorem open_word1 {H : Type} {en : TypeId × Value → H} {W : World} {base fuel : Nat} {spare : Nat → Bool} {held : Bool} {cs : List Value} {x : DataW H × List MemPlace} (h : DataW.trod en Try.prog W base spare held fuel 35 cs = some x) :
    ∃ a : Int, cs = [.int .u16 a] ∧ (0 ≤ a ∧ a ≤ 65535) := by
  obtain ⟨p, e0, _, w0⟩ := DataW.trod_int Try.underlying35 h
  have := bounds_u16 w0
  exact ⟨p, e0, by omega⟩
theorem open_bytes {H : Type} {en : TypeId × Value → H} {W : World} {base fuel : Nat} {spare : Nat → Bool} {held : Bool} {v : Value} {x : DataW H × List MemPlace} (h : DataW.trod en Try.prog W base spare held fuel 40 [v] = some x) :
    ∃ (sa : Option Addr) (sc : Nat) (l : List Int), v = .slice sa l.length sc ∧ l.length ≤ maxLen ∧ InN .u8 255 W sa l := by
  obtain ⟨sa, sc, l, rfl, hm, hok, hrd⟩ := open_gen (0 : Int) 5 40 (fun a : Int => [.int .u8 a]) 1 (by omega) (fun _ => rfl) cells5 Try.underlying40 (fun a => 0 ≤ a ∧ a ≤ 255) (fun n cs x h => open_byte1 h) h
  refine ⟨sa, sc, l, rfl, hm, fun i hi => hok _ (get_mem hi), fun g => ?_⟩
  obtain ⟨b, off, rfl, hb, hc⟩ := hrd g
  refine ⟨b, off, rfl, hb, fun i hi => ?_⟩
  have := hc i hi 0 (by omega)
  simpa [nthI] using this
theorem open_words {H : Type} {en : TypeId × Value → H} {W : World} {base fuel : Nat} {spare : Nat → Bool} {held : Bool} {v : Value} {x : DataW H × List MemPlace} (h : DataW.trod en Try.prog W base spare held fuel 31 [v] = some x) :
    ∃ (sa : Option Addr) (sc : Nat) (l : List Int), v = .slice sa l.length sc ∧ l.length ≤ maxLen ∧ InN .u16 65535 W sa l := by
  obtain ⟨sa, sc, l, rfl, hm, hok, hrd⟩ := open_gen (0 : Int) 35 31 (fun a : Int => [.int .u16 a]) 1 (by omega) (fun _ => rfl) cellsW Try.underlying31 (fun a => 0 ≤ a ∧ a ≤ 65535) (fun n cs x h => open_word1 h) h
  refine ⟨sa, sc, l, rfl, hm, fun i hi => hok _ (get_mem hi), fun g => ?_⟩
  obtain ⟨b, off, rfl, hb, hc⟩ := hrd g
  refine ⟨b, off, rfl, hb, fun i hi => ?_⟩
  have := hc i hi 0 (by omega)
  simpa [nthI] using this
end Go.Proofs.Ytmkhgihhledegaa
