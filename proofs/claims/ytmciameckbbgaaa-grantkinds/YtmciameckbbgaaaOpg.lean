/- Proved: slices that came in, whatever their elements: what the walk is told of them. -/
import Derived.Test.YtmciameckbbgaaaBas
import Derived.ChangeSlices
import Derived.OpenShut
import Derived.ProofKit
import Derived.Deep.Slices
import Derived.Deep.Strs
import Derived.Lib.SmallJoins
namespace Go.Proofs.Ytmciameckbbgaaa
open Go.ChangeShapes Go.WideShapes Go.ChangeAt Go.RowKit Go.Deep Go.Joins
set_option linter.unusedVariables false

theorem spot_of {w : World} {a : Addr} {v : Value} (h : w.cell? a = some v) : a.spot = none := by
  unfold World.cell? at h
  split at h
  · split at h
    · cases h
    · rename_i hs
      simpa using hs
  · cases h
/-- A slice that came in, whatever its elements. -/
theorem open_gen {α H : Type} {en : TypeId × Value → H} {W : World} {base fuel : Nat} {spare : Nat → Bool} {held : Bool} {v : Value} {x : DataW H × List MemPlace} (z : α) (e t : TypeId) (enc : α → List Value) (sz : Nat) (h0 : 0 < sz) (hlen : ∀ x, (enc x).length = sz) (hc : Try.prog.cellsOf e = sz) (ht : Try.prog.underlying t = some (.slice e)) (ok : α → Prop)
    (hel : ∀ n cs x, DataW.trod en Try.prog W base spare held n e cs = some x → ∃ a : α, cs = enc a ∧ ok a)
    (h : DataW.trod en Try.prog W base spare held fuel t [v] = some x) :
    ∃ (sa : Option Addr) (sc : Nat) (l : List α), v = .slice sa l.length sc ∧ l.length ≤ maxLen ∧ (∀ a ∈ l, ok a) ∧ (l ≠ [] → ∃ b off, sa = some ⟨b, off, none⟩ ∧ b < W.heap.size ∧ ∀ i, i < l.length → ∀ c, c < sz → W.cell? ⟨b, off + i * sz + c, none⟩ = (enc (l.getD i z))[c]?) := by
  rcases open_slice ht h with ⟨hcs, _⟩ | ⟨a, len, cap, m, n, D, Pl, hcs, _, hl, hm, hmm, _, hx⟩
  · simp at hcs
    exact ⟨none, 0, [], hcs, Nat.zero_le _, (fun a ha => by cases ha), fun g => absurd rfl g⟩
  · simp at hcs
    have hml : len ≤ m := by rw [hmm]; split <;> omega
    rw [hc] at hx
    haveI : Inhabited α := ⟨z⟩
    obtain ⟨F, hF⟩ := choose_lt (α := α) (p := fun i o => ok o ∧ W.cells? base (a.add (i * sz)) sz = some (enc o)) (fun i (hi : i < m) => by
      obtain ⟨cs', h1, h2⟩ := hx i hi
      obtain ⟨o, rfl, hok⟩ := hel _ _ _ h2
      exact ⟨o, hok, h1⟩)
    refine ⟨some a, cap, (List.range len).map F, by simpa using hcs, by simp; omega, fun y hy => ?_, fun g => ?_⟩
    · obtain ⟨i, hi, rfl⟩ := List.mem_map.1 hy
      exact (hF i (by simp at hi; omega)).1
    · have hlp : 0 < len := by
        rcases Nat.eq_zero_or_pos len with e | e
        · rw [e] at g; simp at g
        · exact e
      have hcell0 : ∀ i, i < len → ∀ c, c < sz → W.cell? ((a.add (i * sz)).add c) = (enc (F i))[c]? := fun i hi c hc => (World.cells?_some (hF i (by omega)).2).2.2 c hc
      have hc0 := hcell0 0 hlp 0 h0
      obtain ⟨v0, hv0⟩ : ∃ v0, (enc (F 0))[0]? = some v0 := ⟨_, List.getElem?_eq_getElem (by rw [hlen]; exact h0)⟩
      rw [hv0] at hc0
      have hs := spot_of (a := a) (v := v0) (by simpa [Addr.add] using hc0)
      obtain ⟨b, off, spot⟩ := a
      simp only at hs
      subst hs
      have hcell : ∀ i, i < len → ∀ c, c < sz → W.cell? ⟨b, off + i * sz + c, none⟩ = (enc (F i))[c]? := fun i hi c hc => by
        have := hcell0 i hi c hc
        rwa [Addr.add_lit, Addr.add_lit] at this
      refine ⟨b, off, rfl, ?_, ?_⟩
      · have := hcell 0 hlp 0 h0
        rw [hv0] at this
        exact clt this
      · intro i hi c hc
        simp only [List.length_map, List.length_range] at hi
        rw [hcell i hi c hc]
        simp [hi]
end Go.Proofs.Ytmciameckbbgaaa
