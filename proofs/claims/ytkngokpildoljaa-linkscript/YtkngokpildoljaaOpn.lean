/- Proved: a slice of calls that came in: what the walk is told of it. -/
import Derived.Test.YtkngokpildoljaaStp
import Derived.ChangeSlices
import Derived.OpenShut
import Derived.ProofKit
import Derived.Deep.Slices
import Derived.Deep.Strs
import Derived.Lib.SmallJoins
namespace Go.Proofs.Ytkngokpildoljaa
open Go.ChangeShapes Go.WideShapes Go.ChangeAt Go.RowKit Go.Deep Go.Joins
set_option linter.unusedVariables false

theorem spot_of {w : World} {a : Addr} {v : Value} (h : w.cell? a = some v) : a.spot = none := by
  unfold World.cell? at h
  split at h
  · split at h
    · cases h
    · rename_i hs
      simpa using hs
  · cases h
/-- A slice that came in, whatever its elements. -/
theorem open_gen {α H : Type} {en : TypeId × Value → H} {W : World} {base fuel : Nat} {spare : Nat → Bool} {held : Bool} {v : Value} {x : DataW H × List MemPlace} (z : α) (e t : TypeId) (enc : α → List Value) (sz : Nat) (h0 : 0 < sz) (hlen : ∀ x, (enc x).length = sz) (hc : Try.prog.cellsOf e = sz) (ht : Try.prog.underlying t = some (.slice e)) (ok : α → Prop)
    (hel : ∀ n cs x, DataW.trod en Try.prog W base spare held n e cs = some x → ∃ a : α, cs = enc a ∧ ok a)
    (h : DataW.trod en Try.prog W base spare held fuel t [v] = some x) :
    ∃ (sa : Option Addr) (sc : Nat) (l : List α), v = .slice sa l.length sc ∧ l.length ≤ maxLen ∧ (∀ a ∈ l, ok a) ∧ (l ≠ [] → ∃ b off, sa = some ⟨b, off, none⟩ ∧ b < W.heap.size ∧ ∀ i, i < l.length → ∀ c, c < sz → W.cell? ⟨b, off + i * sz + c, none⟩ = (enc (l.getD i z))[c]?) := by
  rcases open_slice ht h with ⟨hcs, _⟩ | ⟨a, len, cap, m, n, D, Pl, hcs, _, hl, hm, hmm, _, hx⟩
  · simp at hcs
    exact ⟨none, 0, [], hcs, Nat.zero_le _, (fun a ha => by cases ha), fun g => absurd rfl g⟩
  · simp at hcs
    have hml : len ≤ m := by rw [hmm]; split <;> omega
    rw [hc] at hx
    haveI : Inhabited α := ⟨z⟩
    obtain ⟨F, hF⟩ := choose_lt (α := α) (p := fun i o => ok o ∧ W.cells? base (a.add (i * sz)) sz = some (enc o)) (fun i (hi : i < m) => by
      obtain ⟨cs', h1, h2⟩ := hx i hi
      obtain ⟨o, rfl, hok⟩ := hel _ _ _ h2
      exact ⟨o, hok, h1⟩)
    refine ⟨some a, cap, (List.range len).map F, by simpa using hcs, by simp; omega, fun y hy => ?_, fun g => ?_⟩
    · obtain ⟨i, hi, rfl⟩ := List.mem_map.1 hy
      exact (hF i (by simp at hi; omega)).1
    · have hlp : 0 < len := by
        rcases Nat.eq_zero_or_pos len with e | e
        · rw [e] at g; simp at g
        · exact e
      have hcell0 : ∀ i, i < len → ∀ c, c < sz → W.cell? ((a.add (i * sz)).add c) = (enc (F i))[c]? := fun i hi c hc => (World.cells?_some (hF i (by omega)).2).2.2 c hc
      have hc0 := hcell0 0 hlp 0 h0
      obtain ⟨v0, hv0⟩ : ∃ v0, (enc (F 0))[0]? = some v0 := ⟨_, List.getElem?_eq_getElem (by rw [hlen]; exact h0)⟩
      rw [hv0] at hc0
      have hs := spot_of (a := a) (v := v0) (by simpa [Addr.add] using hc0)
      obtain ⟨b, off, spot⟩ := a
      simp only at hs
      subst hs
      have hcell : ∀ i, i < len → ∀ c, c < sz → W.cell? ⟨b, off + i * sz + c, none⟩ = (enc (F i))[c]? := fun i hi c hc => by
        have := hcell0 i hi c hc
        rwa [Addr.add_lit, Addr.add_lit] at this
      refine ⟨b, off, rfl, ?_, ?_⟩
      · have := hcell 0 hlp 0 h0
        rw [hv0] at this
        exact clt this
      · intro i hi c hc
        simp only [List.length_map, List.length_range] at hi
        rw [hcell i hi c hc]
        simp [hi]
theorem cells3 : Try.prog.cellsOf 3 = 1 := by kernel_rfl
theorem cellsK : Try.prog.cellsOf 31 = 3 := by kernel_rfl
theorem cellsM : Try.prog.cellsOf 33 = 6 := by kernel_rfl
theorem cellsI : Try.prog.cellsOf 35 = 8 := by kernel_rfl
theorem cellsS : Try.prog.cellsOf 37 = 11 := by kernel_rfl
theorem list3 {cs : List Value} (h : cs.length = 3) : ∃ a b c, cs = [a, b, c] := by
  match cs, h with
  | [a, b, c], _ => exact ⟨a, b, c, rfl⟩
theorem list6 {cs : List Value} (h : cs.length = 6) : ∃ a b c d e f, cs = [a, b, c, d, e, f] := by
  match cs, h with
  | [a, b, c, d, e, f], _ => exact ⟨a, b, c, d, e, f, rfl⟩
theorem list8 {cs : List Value} (h : cs.length = 8) : ∃ a b c d e f g i, cs = [a, b, c, d, e, f, g, i] := by
  match cs, h with
  | [a, b, c, d, e, f, g, i], _ => exact ⟨a, b, c, d, e, f, g, i, rfl⟩
theorem list11 {cs : List Value} (h : cs.length = 11) : ∃ a b c d e f g i j k l, cs = [a, b, c, d, e, f, g, i, j, k, l] := by
  match cs, h with
  | [a, b, c, d, e, f, g, i, j, k, l], _ => exact ⟨a, b, c, d, e, f, g, i, j, k, l, rfl⟩
theorem open_int1 {H : Type} {en : TypeId × Value → H} {W : World} {base fuel : Nat} {spare : Nat → Bool} {held : Bool} {cs : List Value} {x : DataW H × List MemPlace} (h : DataW.trod en Try.prog W base spare held fuel 3 cs = some x) :
    ∃ a : Int, cs = [.int .i64 a] ∧ True := by
  obtain ⟨p, e0, _, w0⟩ := DataW.trod_int Try.underlying3 h
  exact ⟨p, e0, trivial⟩
theorem open_key {H : Type} {en : TypeId × Value → H} {W : World} {base fuel : Nat} {spare : Nat → Bool} {held : Bool} {cs : List Value} {x : DataW H × List MemPlace} (h : DataW.trod en Try.prog W base spare held fuel 31 cs = some x) :
    ∃ a b c : Int, cs = [.int .i64 a, .int .i64 b, .int .i64 c] := by
  obtain ⟨y0, y1, y2, n, _, hl, h0, h1, h2⟩ := trod_struct3 Try.underlying31 h
  rw [cellsK] at hl
  obtain ⟨a, b, c, rfl⟩ := list3 hl
  simp only [cells3] at h0 h1 h2
  obtain ⟨p, e0, _⟩ := open_int1 h0
  obtain ⟨q, e1, _⟩ := open_int1 h1
  obtain ⟨r, e2, _⟩ := open_int1 h2
  simp at e0 e1 e2
  subst e0 e1 e2
  exact ⟨p, q, r, rfl⟩
theorem open_msg {H : Type} {en : TypeId × Value → H} {W : World} {base fuel : Nat} {spare : Nat → Bool} {held : Bool} {cs : List Value} {x : DataW H × List MemPlace} (h : DataW.trod en Try.prog W base spare held fuel 33 cs = some x) :
    ∃ a b c d e f : Int, cs = [.int .i64 a, .int .i64 b, .int .i64 c, .int .i64 d, .int .i64 e, .int .i64 f] := by
  obtain ⟨y0, y1, y2, y3, n, _, hl, h0, h1, h2, h3⟩ := trod_struct4 Try.underlying33 h
  rw [cellsM] at hl
  obtain ⟨a, b, c, d, e, f, rfl⟩ := list6 hl
  simp only [cells3, cellsK] at h0 h1 h2 h3
  obtain ⟨p1, p2, p3, e0⟩ := open_key h0
  obtain ⟨p4, e1, _⟩ := open_int1 h1
  obtain ⟨p5, e2, _⟩ := open_int1 h2
  obtain ⟨p6, e3, _⟩ := open_int1 h3
  simp at e0 e1 e2 e3
  obtain ⟨rfl, rfl, rfl⟩ := e0
  subst e1 e2 e3
  exact ⟨p1, p2, p3, p4, p5, p6, rfl⟩
theorem open_item {H : Type} {en : TypeId × Value → H} {W : World} {base fuel : Nat} {spare : Nat → Bool} {held : Bool} {cs : List Value} {x : DataW H × List MemPlace} (h : DataW.trod en Try.prog W base spare held fuel 35 cs = some x) :
    ∃ y : It, cs = encT y := by
  obtain ⟨y0, y1, y2, n, _, hl, h0, h1, h2⟩ := trod_struct3 Try.underlying35 h
  rw [cellsI] at hl
  obtain ⟨a, b, c, d, e, f, g, i, rfl⟩ := list8 hl
  simp only [cells3, cellsM] at h0 h1 h2
  obtain ⟨p0, e0, _⟩ := open_int1 h0
  obtain ⟨p1, p2, p3, p4, p5, p6, e1⟩ := open_msg h1
  obtain ⟨p7, e2, _⟩ := open_int1 h2
  simp at e0 e1 e2
  obtain ⟨rfl, rfl, rfl, rfl, rfl, rfl⟩ := e1
  subst e0 e2
  exact ⟨⟨p0, p1, p2, p3, p4, p5, p6, p7⟩, rfl⟩
theorem open_step {H : Type} {en : TypeId × Value → H} {W : World} {base fuel : Nat} {spare : Nat → Bool} {held : Bool} {cs : List Value} {x : DataW H × List MemPlace} (h : DataW.trod en Try.prog W base spare held fuel 37 cs = some x) :
    ∃ s : St, cs = encS s ∧ True := by
  obtain ⟨y0, y1, y2, y3, n, _, hl, h0, h1, h2, h3⟩ := trod_struct4 Try.underlying37 h
  rw [cellsS] at hl
  obtain ⟨a, b, c, d, e, f, g, i, j, k, l, rfl⟩ := list11 hl
  simp only [cells3, cellsI] at h0 h1 h2 h3
  obtain ⟨p0, e0, _⟩ := open_int1 h0
  obtain ⟨p1, e1, _⟩ := open_int1 h1
  obtain ⟨p2, e2, _⟩ := open_int1 h2
  obtain ⟨y, e3⟩ := open_item h3
  simp [encT] at e0 e1 e2 e3
  obtain ⟨rfl, rfl, rfl, rfl, rfl, rfl, rfl, rfl⟩ := e3
  subst e0 e1 e2
  exact ⟨⟨p0, p1, p2, y⟩, rfl, trivial⟩
theorem open_stps {H : Type} {en : TypeId × Value → H} {W : World} {base fuel : Nat} {spare : Nat → Bool} {held : Bool} {v : Value} {x : DataW H × List MemPlace} (h : DataW.trod en Try.prog W base spare held fuel 22 [v] = some x) :
    ∃ (sa : Option Addr) (sc : Nat) (l : List St), v = .slice sa l.length sc ∧ l.length ≤ maxLen ∧ RdS W sa l := by
  obtain ⟨sa, sc, l, rfl, hm, _, hrd⟩ := open_gen st0 37 22 encS 11 (by omega) (fun _ => rfl) cellsS Try.underlying22 (fun _ => True) (fun n cs x h => open_step h) h
  exact ⟨sa, sc, l, rfl, hm, hrd⟩
end Go.Proofs.Ytkngokpildoljaa
