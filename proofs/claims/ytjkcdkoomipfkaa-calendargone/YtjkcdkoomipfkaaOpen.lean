/- Proved: slices of messages, and of calls, that came in: what the walk is told of them. -/
import Derived.Test.YtjkcdkoomipfkaaRef5
import Derived.Deep.Slices
import Derived.Deep.Strs
import Derived.Lib.SmallJoins
namespace Go.Proofs.Ytjkcdkoomipfkaa
open Go.RowKit Go.Sort Go.Deep Go.Joins
set_option linter.unusedVariables false

theorem wf_i64' {a : Int} (h : (Lit.int .i64 a).wf = true) : i64 a := by
  have := bounds_i64 h
  unfold i64
  omega

theorem list3 {cs : List Value} (h : cs.length = 3) : ∃ a b c, cs = [a, b, c] := by
  match cs, h with
  | [a, b, c], _ => exact ⟨a, b, c, rfl⟩
theorem list6 {cs : List Value} (h : cs.length = 6) : ∃ a b c d e f, cs = [a, b, c, d, e, f] := by
  match cs, h with
  | [a, b, c, d, e, f], _ => exact ⟨a, b, c, d, e, f, rfl⟩
theorem list7 {cs : List Value} (h : cs.length = 7) : ∃ a b c d e f g, cs = [a, b, c, d, e, f, g] := by
  match cs, h with
  | [a, b, c, d, e, f, g], _ => exact ⟨a, b, c, d, e, f, g, rfl⟩
theorem cells3 : Try.prog.cellsOf 3 = 1 := by kernel_rfl
theorem cells28 : Try.prog.cellsOf 30 = 3 := by kernel_rfl
theorem cells30 : Try.prog.cellsOf 32 = 6 := by kernel_rfl
theorem cells32 : Try.prog.cellsOf 34 = 7 := by kernel_rfl

theorem open_key {H : Type} {en : TypeId × Value → H} {W : World} {base fuel : Nat} {spare : Nat → Bool} {held : Bool} {cs : List Value} {x : DataW H × List MemPlace} (h : DataW.trod en Try.prog W base spare held fuel 30 cs = some x) :
    ∃ k : K, cs = [.int .i64 k.1, .int .i64 k.2.1, .int .i64 k.2.2] ∧ kwf k := by
  obtain ⟨y0, y1, y2, n, _, hl, h0, h1, h2⟩ := trod_struct3 Try.underlying30 h
  rw [cells28] at hl
  obtain ⟨a, b, c, rfl⟩ := list3 hl
  simp only [cells3] at h0 h1 h2
  obtain ⟨p, e0, _, w0⟩ := DataW.trod_int Try.underlying3 h0
  obtain ⟨q, e1, _, w1⟩ := DataW.trod_int Try.underlying3 h1
  obtain ⟨r, e2, _, w2⟩ := DataW.trod_int Try.underlying3 h2
  simp at e0 e1 e2
  subst e0 e1 e2
  exact ⟨(p, q, r), rfl, wf_i64' w0, wf_i64' w1, wf_i64' w2⟩
theorem open_msg {H : Type} {en : TypeId × Value → H} {W : World} {base fuel : Nat} {spare : Nat → Bool} {held : Bool} {cs : List Value} {x : DataW H × List MemPlace} (h : DataW.trod en Try.prog W base spare held fuel 32 cs = some x) :
    ∃ m : M, cs = enc m ∧ mwf m := by
  obtain ⟨y0, y1, y2, y3, n, _, hl, h0, h1, h2, h3⟩ := trod_struct4 Try.underlying32 h
  rw [cells30] at hl
  obtain ⟨a, b, c, d, e, f, rfl⟩ := list6 hl
  simp only [cells3, cells28] at h0 h1 h2 h3
  obtain ⟨k, e0, w0⟩ := open_key h0
  obtain ⟨q, e1, _, w1⟩ := DataW.trod_int Try.underlying3 h1
  obtain ⟨r, e2, _, w2⟩ := DataW.trod_int Try.underlying3 h2
  obtain ⟨s, e3, _, w3⟩ := DataW.trod_int Try.underlying3 h3
  simp at e0 e1 e2 e3
  obtain ⟨e01, e02, e03⟩ := e0
  subst e01 e02 e03 e1 e2 e3
  exact ⟨(k, q, r, s), rfl, w0, wf_i64' w1, wf_i64' w2, wf_i64' w3⟩
theorem spot_of {w : World} {a : Addr} {v : Value} (h : w.cell? a = some v) : a.spot = none := by
  unfold World.cell? at h
  split at h
  · split at h
    · cases h
    · rename_i hs; simpa using hs
  · cases h

/-- A slice of messages that came in. -/
def InM (w : World) (a : Option Addr) (n : Nat) (l : List M) : Prop :=
  l.length = n ∧ (∀ m ∈ l, mwf m) ∧ (n ≠ 0 → ∃ b off, a = some ⟨b, off, none⟩ ∧ b < w.heap.size ∧ ∀ i (h : i < l.length) c, c < 6 → w.cell? ⟨b, off + i * 6 + c, none⟩ = (enc l[i])[c]?)
theorem open_msgs {H : Type} {en : TypeId × Value → H} {W : World} {base fuel : Nat} {held : Bool} {a0 : Option Addr} {n0 c0 : Nat} {x : DataW H × List MemPlace} (h : DataW.trod en Try.prog W base (fun _ => true) held fuel 44 [.slice a0 n0 c0] = some x) :
    n0 ≤ maxLen ∧ ∃ l, InM W a0 n0 l := by
  rcases open_slice Try.underlying44 h with ⟨hcs, _⟩ | ⟨a, len, cap, m, n, D, Pl, hcs, _, hl, hm, hmm, _, hx⟩
  · simp at hcs
    obtain ⟨rfl, rfl, rfl⟩ := hcs
    exact ⟨Nat.zero_le _, [], rfl, by simp, fun g => absurd rfl g⟩
  · simp at hcs
    obtain ⟨rfl, rfl, rfl⟩ := hcs
    simp only [if_true] at hmm
    subst hmm
    rw [cells30] at hx
    refine ⟨by omega, ?_⟩
    obtain ⟨F, hF⟩ := choose_lt (α := M) (p := fun i mm => mwf mm ∧ W.cells? base (a.add (i * 6)) 6 = some (enc mm)) (fun i (hi : i < m) => by
      obtain ⟨cs', h1, h2⟩ := hx i hi
      obtain ⟨mm, rfl, hw⟩ := open_msg h2
      exact ⟨mm, hw, h1⟩)
    refine ⟨(List.range n0).map F, by simp, ?_, fun g => ?_⟩
    · intro mm hmem
      obtain ⟨i, hi, rfl⟩ := List.mem_map.1 hmem
      exact (hF i (by simp at hi; omega)).1
    · have hc0 := (World.cells?_some (hF 0 (by omega)).2).2.2 0 (by omega)
      have hs := spot_of (a := a) (v := .int .i64 (F 0).1.1) (by simpa [Addr.add, enc] using hc0)
      obtain ⟨b, off, spot⟩ := a
      simp only at hs
      subst hs
      have hcell : ∀ i, i < n0 → ∀ c, c < 6 → W.cell? ⟨b, off + i * 6 + c, none⟩ = (enc (F i))[c]? := fun i hi c hc => by
        have := (World.cells?_some (hF i (by omega)).2).2.2 c hc
        rwa [Addr.add_lit, Addr.add_lit] at this
      refine ⟨b, off, rfl, ?_, ?_⟩
      · have := hcell 0 (by omega) 0 (by omega)
        exact cell_lt (v := .int .i64 (F 0).1.1) (by simpa [enc] using this)
      · intro i hi c hc
        simp only [List.length_map, List.length_range] at hi
        rw [hcell i hi c hc]
        simp
theorem InM.keep {w w' : World} {a : Option Addr} {n : Nat} {l : List M} (h : InM w a n l) (hb : Below w.heap.size w w') : InM w' a n l := by
  obtain ⟨h1, h2, h3⟩ := h
  refine ⟨h1, h2, fun g => ?_⟩
  obtain ⟨b, off, rfl, hB, hc⟩ := h3 g
  exact ⟨b, off, rfl, Nat.lt_of_lt_of_le hB hb.size, fun i hi c hc6 => (hb.cell (p := ⟨b, off + i * 6 + c, none⟩) hB).trans (hc i hi c hc6)⟩
/-- The cells of one of them, in a later world. -/
theorem InM.cells {w W : World} {a : Option Addr} {n : Nat} {l : List M} (h : InM w a n l) (hb : Below w.heap.size w W) {i : Nat} (hi : i < l.length) {x : M} (hx : nth l i = x) :
    ∃ b off, a = some ⟨b, off, none⟩ ∧ W.cell? ⟨b, off + i * 6, none⟩ = some (.int .i64 x.1.1) ∧ W.cell? ⟨b, off + i * 6 + 1, none⟩ = some (.int .i64 x.1.2.1) ∧ W.cell? ⟨b, off + i * 6 + 2, none⟩ = some (.int .i64 x.1.2.2) ∧
      W.cell? ⟨b, off + i * 6 + 3, none⟩ = some (.int .i64 x.2.1) ∧ W.cell? ⟨b, off + i * 6 + 4, none⟩ = some (.int .i64 x.2.2.1) ∧ W.cell? ⟨b, off + i * 6 + 5, none⟩ = some (.int .i64 x.2.2.2) := by
  obtain ⟨h1, h2, h3⟩ := h
  obtain ⟨b, off, rfl, hB, hc⟩ := h3 (by omega)
  rw [nth_get l i hi] at hx
  subst hx
  have c := fun c hc6 => (hb.cell (p := ⟨b, off + i * 6 + c, none⟩) hB).trans (hc i hi c hc6)
  exact ⟨b, off, rfl, c 0 (by omega), c 1 (by omega), c 2 (by omega), c 3 (by omega), c 4 (by omega), c 5 (by omega)⟩
end Go.Proofs.Ytjkcdkoomipfkaa
