/- Proved: slices of calls and of small numbers that came in: what the walk is told of them. -/
import Derived.Test.YtmhopjpbhdficaaStp
import Derived.ChangeSlices
import Derived.OpenShut
import Derived.ProofKit
import Derived.Deep.Slices
import Derived.Deep.Strs
import Derived.Lib.SmallJoins
namespace Go.Proofs.Ytmhopjpbhdficaa
open Go.ChangeShapes Go.WideShapes Go.ChangeAt Go.RowKit Go.Deep Go.Joins
set_option linter.unusedVariables false

theorem spot_of {w : World} {a : Addr} {v : Value} (h : w.cell? a = some v) : a.spot = none := by
  unfold World.cell? at h
  split at h
  · split at h
    · cases h
    · rename_i hs
      simpa using hs
  · cases h
/-- A slice that came in, whatever its elements. -/
theorem open_gen {α H : Type} {en : TypeId × Value → H} {W : World} {base fuel : Nat} {spare : Nat → Bool} {held : Bool} {v : Value} {x : DataW H × List MemPlace} (z : α) (e t : TypeId) (enc : α → List Value) (sz : Nat) (h0 : 0 < sz) (hlen : ∀ x, (enc x).length = sz) (hc : Try.prog.cellsOf e = sz) (ht : Try.prog.underlying t = some (.slice e)) (ok : α → Prop)
    (hel : ∀ n cs x, DataW.trod en Try.prog W base spare held n e cs = some x → ∃ a : α, cs = enc a ∧ ok a)
    (h : DataW.trod en Try.prog W base spare held fuel t [v] = some x) :
    ∃ (sa : Option Addr) (sc : Nat) (l : List α), v = .slice sa l.length sc ∧ l.length ≤ maxLen ∧ (∀ a ∈ l, ok a) ∧ (l ≠ [] → ∃ b off, sa = some ⟨b, off, none⟩ ∧ b < W.heap.size ∧ ∀ i, i < l.length → ∀ c, c < sz → W.cell? ⟨b, off + i * sz + c, none⟩ = (enc (l.getD i z))[c]?) := by
  rcases open_slice ht h with ⟨hcs, _⟩ | ⟨a, len, cap, m, n, D, Pl, hcs, _, hl, hm, hmm, _, hx⟩
  · simp at hcs
    exact ⟨none, 0, [], hcs, Nat.zero_le _, (fun a ha => by cases ha), fun g => absurd rfl g⟩
  · simp at hcs
    have hml : len ≤ m := by rw [hmm]; split <;> omega
    rw [hc] at hx
    haveI : Inhabited α := ⟨z⟩
    obtain ⟨F, hF⟩ := choose_lt (α := α) (p := fun i o => ok o ∧ W.cells? base (a.add (i * sz)) sz = some (enc o)) (fun i (hi : i < m) => by
      obtain ⟨cs', h1, h2⟩ := hx i hi
      obtain ⟨o, rfl, hok⟩ := hel _ _ _ h2
      exact ⟨o, hok, h1⟩)
    refine ⟨some a, cap, (List.range len).map F, by simpa using hcs, by simp; omega, fun y hy => ?_, fun g => ?_⟩
    · obtain ⟨i, hi, rfl⟩ := List.mem_map.1 hy
      exact (hF i (by simp at hi; omega)).1
    · have hlp : 0 < len := by
        rcases Nat.eq_zero_or_pos len with e | e
        · rw [e] at g; simp at g
        · exact e
      have hcell0 : ∀ i, i < len → ∀ c, c < sz → W.cell? ((a.add (i * sz)).add c) = (enc (F i))[c]? := fun i hi c hc => (World.cells?_some (hF i (by omega)).2).2.2 c hc
      have hc0 := hcell0 0 hlp 0 h0
      obtain ⟨v0, hv0⟩ : ∃ v0, (enc (F 0))[0]? = some v0 := ⟨_, List.getElem?_eq_getElem (by rw [hlen]; exact h0)⟩
      rw [hv0] at hc0
      have hs := spot_of (a := a) (v := v0) (by simpa [Addr.add] using hc0)
      obtain ⟨b, off, spot⟩ := a
      simp only at hs
      subst hs
      have hcell : ∀ i, i < len → ∀ c, c < sz → W.cell? ⟨b, off + i * sz + c, none⟩ = (enc (F i))[c]? := fun i hi c hc => by
        have := hcell0 i hi c hc
        rwa [Addr.add_lit, Addr.add_lit] at this
      refine ⟨b, off, rfl, ?_, ?_⟩
      · have := hcell 0 hlp 0 h0
        rw [hv0] at this
        exact clt this
      · intro i hi c hc
        simp only [List.length_map, List.length_range] at hi
        rw [hcell i hi c hc]
        simp [hi]
theorem cells3 : Try.prog.cellsOf 3 = 1 := by kernel_rfl
theorem cells5 : Try.prog.cellsOf 5 = 1 := by kernel_rfl
theorem cellsW : Try.prog.cellsOf 45 = 1 := by kernel_rfl
theorem cellsS : Try.prog.cellsOf 31 = 3 := by kernel_rfl
theorem list3 {cs : List Value} (h : cs.length = 3) : ∃ a b c, cs = [a, b, c] := by
  match cs, h with
  | [a, b, c], _ => exact ⟨a, b, c, rfl⟩
theorem open_int1 {H : Type} {en : TypeId × Value → H} {W : World} {base fuel : Nat} {spare : Nat → Bool} {held : Bool} {cs : List Value} {x : DataW H × List MemPlace} (h : DataW.trod en Try.prog W base spare held fuel 3 cs = some x) :
    ∃ a : Int, cs = [.int .i64 a] ∧ wfI a := by
  obtain ⟨p, e0, _, w0⟩ := DataW.trod_int Try.underlying3 h
  exact ⟨p, e0, w0⟩
theorem open_step {H : Type} {en : TypeId × Value → H} {W : World} {base fuel : Nat} {spare : Nat → Bool} {held : Bool} {cs : List Value} {x : DataW H × List MemPlace} (h : DataW.trod en Try.prog W base spare held fuel 31 cs = some x) :
    ∃ s : St, cs = encS s ∧ wfI s.a := by
  obtain ⟨y0, y1, y2, n, _, hl, h0, h1, h2⟩ := trod_struct3 Try.underlying31 h
  rw [cellsS] at hl
  obtain ⟨a, b, c, rfl⟩ := list3 hl
  simp only [cells3] at h0 h1 h2
  obtain ⟨p, e0, _⟩ := open_int1 h0
  obtain ⟨q, e1, w1⟩ := open_int1 h1
  obtain ⟨r, e2, _⟩ := open_int1 h2
  simp at e0 e1 e2
  subst e0 e1 e2
  exact ⟨⟨p, q, r⟩, rfl, w1⟩
theorem mem_getD {α : Type} {l : List α} {z : α} {i : Nat} (hi : i < l.length) : l.getD i z ∈ l := by simp [hi]
theorem open_stps {H : Type} {en : TypeId × Value → H} {W : World} {base fuel : Nat} {spare : Nat → Bool} {held : Bool} {v : Value} {x : DataW H × List MemPlace} (h : DataW.trod en Try.prog W base spare held fuel 22 [v] = some x) :
    ∃ (sa : Option Addr) (sc : Nat) (l : List St), v = .slice sa l.length sc ∧ l.length ≤ maxLen ∧ RdS W sa l := by
  obtain ⟨sa, sc, l, rfl, hm, hok, hrd⟩ := open_gen st0 31 22 encS 3 (by omega) (fun _ => rfl) cellsS Try.underlying22 (fun s => wfI s.a) (fun n cs x h => open_step h) h
  exact ⟨sa, sc, l, rfl, hm, fun i hi => hok _ (mem_getD hi), hrd⟩
theorem open_byte1 {H : Type} {en : TypeId × Value → H} {W : World} {base fuel : Nat} {spare : Nat → Bool} {held : Bool} {cs : List Value} {x : DataW H × List MemPlace} (h : DataW.trod en Try.prog W base spare held fuel 5 cs = some x) :
    ∃ a : Int, cs = [.int .u8 a] ∧ (0 ≤ a ∧ a ≤ 255) := by
  obtain ⟨p, e0, _, w0⟩ := DataW.trod_int Try.underlying5 h
  have := bounds_u8 w0
  exact ⟨p, e0, by omega⟩
theorem open_word1 {H : Type} {en : TypeId × Value → H} {W : World} {base fuel : Nat} {spare : Nat → Bool} {held : Bool} {cs : List Value} {x : DataW H × List MemPlace} (h : DataW.trod en Try.prog W base spare held fuel 45 cs = some x) :
    ∃ a : Int, cs = [.int .u16 a] ∧ (0 ≤ a ∧ a ≤ 65535) := by
  obtain ⟨p, e0, _, w0⟩ := DataW.trod_int Try.underlying45 h
  have := bounds_u16 w0
  exact ⟨p, e0, by omega⟩
theorem open_bytes {H : Type} {en : TypeId × Value → H} {W : World} {base fuel : Nat} {spare : Nat → Bool} {held : Bool} {v : Value} {x : DataW H × List MemPlace} (h : DataW.trod en Try.prog W base spare held fuel 39 [v] = some x) :
    ∃ (sa : Option Addr) (sc : Nat) (l : List Int), v = .slice sa l.length sc ∧ l.length ≤ maxLen ∧ InN .u8 255 W sa l := by
  obtain ⟨sa, sc, l, rfl, hm, hok, hrd⟩ := open_gen (0 : Int) 5 39 (fun a : Int => [.int .u8 a]) 1 (by omega) (fun _ => rfl) cells5 Try.underlying39 (fun a => 0 ≤ a ∧ a ≤ 255) (fun n cs x h => open_byte1 h) h
  refine ⟨sa, sc, l, rfl, hm, fun i hi => hok _ (mem_getD hi), fun g => ?_⟩
  obtain ⟨b, off, rfl, hb, hc⟩ := hrd g
  refine ⟨b, off, rfl, hb, fun i hi => ?_⟩
  have := hc i hi 0 (by omega)
  simpa [nthI] using this
theorem open_words {H : Type} {en : TypeId × Value → H} {W : World} {base fuel : Nat} {spare : Nat → Bool} {held : Bool} {v : Value} {x : DataW H × List MemPlace} (h : DataW.trod en Try.prog W base spare held fuel 44 [v] = some x) :
    ∃ (sa : Option Addr) (sc : Nat) (l : List Int), v = .slice sa l.length sc ∧ l.length ≤ maxLen ∧ InN .u16 65535 W sa l := by
  obtain ⟨sa, sc, l, rfl, hm, hok, hrd⟩ := open_gen (0 : Int) 45 44 (fun a : Int => [.int .u16 a]) 1 (by omega) (fun _ => rfl) cellsW Try.underlying44 (fun a => 0 ≤ a ∧ a ≤ 65535) (fun n cs x h => open_word1 h) h
  refine ⟨sa, sc, l, rfl, hm, fun i hi => hok _ (mem_getD hi), fun g => ?_⟩
  obtain ⟨b, off, rfl, hb, hc⟩ := hrd g
  refine ⟨b, off, rfl, hb, fun i hi => ?_⟩
  have := hc i hi 0 (by omega)
  simpa [nthI] using this
end Go.Proofs.Ytmhopjpbhdficaa
