/- Proved: slices of words, and of calls, that came in: what the walk is told of them. -/
import Derived.Test.YtjkcdkoomipfkaaOpen
import Derived.OpenShut
import Derived.ProofKit
namespace Go.Proofs.Ytjkcdkoomipfkaa
open Go.ChangeShapes Go.WideShapes Go.ChangeAt Go.RowKit Go.Sort Go.Deep Go.Joins
set_option linter.unusedVariables false

/-- A slice of words that came in. -/
def InB (w : World) (a : Option Addr) (n : Nat) (z : List Int) : Prop :=
  (∀ i, 0 ≤ z.getD i 0 ∧ z.getD i 0 ≤ 65535) ∧ (n ≠ 0 → ∃ b off, a = some ⟨b, off, none⟩ ∧ b < w.heap.size ∧ ∀ i, i < n → w.cell? ⟨b, off + i, none⟩ = some (.int .u16 (z.getD i 0)))
theorem open_bytes {H : Type} {en : TypeId × Value → H} {W : World} {base fuel : Nat} {held : Bool} {a0 : Option Addr} {n0 c0 : Nat} {x : DataW H × List MemPlace} (h : DataW.trod en Try.prog W base (fun _ => true) held fuel 53 [.slice a0 n0 c0] = some x) :
    n0 ≤ maxLen ∧ ∃ z, InB W a0 n0 z := by
  rcases open_ints Try.underlying53 Try.underlying52 (by kernel_rfl) h with ⟨hcs, _⟩ | ⟨ad, l, c, zs, hcs, _, hl, hm, hz, _, hcell, hwz⟩
  · simp at hcs
    obtain ⟨rfl, rfl, rfl⟩ := hcs
    exact ⟨Nat.zero_le _, [], fun i => by simp, fun g => absurd rfl g⟩
  · simp at hcs
    obtain ⟨rfl, rfl, rfl⟩ := hcs
    refine ⟨by omega, zs, fun i => ?_, fun g => ?_⟩
    · by_cases hi : i < zs.length
      · have hw := hwz (zs.getD i 0) (by simp [hi])
        have := bounds_u16 hw
        omega
      · simp [List.getD, List.getElem?_eq_none (show zs.length ≤ i by omega)]
    · have hzl : zs.length = c0 := by simpa using hz
      have hc0 := hcell 0 (by omega)
      have hs := spot_of (by simpa [Addr.add] using hc0)
      obtain ⟨b, off, spot⟩ := ad
      simp only at hs
      subst hs
      have hc : ∀ i, i < n0 → W.cell? ⟨b, off + i, none⟩ = some (.int .u16 (zs.getD i 0)) := fun i hi => by
        have := hcell i (by omega)
        rwa [Addr.add_lit] at this
      exact ⟨b, off, rfl, cell_lt (hc 0 (by omega)), hc⟩

/-- A call: its kind, its message. -/
abbrev St := Int × M
def encS (s : St) : List Value := .int .i64 s.1 :: enc s.2
theorem encS_len (s : St) : (encS s).length = 7 := rfl
def swf (s : St) : Prop := i64 s.1 ∧ mwf s.2
theorem open_step {H : Type} {en : TypeId × Value → H} {W : World} {base fuel : Nat} {spare : Nat → Bool} {held : Bool} {cs : List Value} {x : DataW H × List MemPlace} (h : DataW.trod en Try.prog W base spare held fuel 34 cs = some x) :
    ∃ s : St, cs = encS s ∧ swf s := by
  obtain ⟨y0, y1, n, _, hl, h0, h1⟩ := trod_struct2 Try.underlying34 h
  rw [cells32] at hl
  obtain ⟨a, b, c, d, e, f, g, rfl⟩ := list7 hl
  simp only [cells3, cells30] at h0 h1
  obtain ⟨q, e0, _, w0⟩ := DataW.trod_int Try.underlying3 h0
  obtain ⟨m, e1, w1⟩ := open_msg h1
  simp at e0
  subst e0
  have e1' : [b, c, d, e, f, g] = enc m := by simpa using e1
  exact ⟨(q, m), by rw [encS, ← e1'], wf_i64' w0, w1⟩
/-- A slice of calls that came in. -/
def InS (w : World) (a : Option Addr) (n : Nat) (l : List St) : Prop :=
  l.length = n ∧ (∀ m ∈ l, swf m) ∧ (n ≠ 0 → ∃ b off, a = some ⟨b, off, none⟩ ∧ b < w.heap.size ∧ ∀ i (h : i < l.length) c, c < 7 → w.cell? ⟨b, off + i * 7 + c, none⟩ = (encS l[i])[c]?)
theorem open_steps {H : Type} {en : TypeId × Value → H} {W : World} {base fuel : Nat} {held : Bool} {a0 : Option Addr} {n0 c0 : Nat} {x : DataW H × List MemPlace} (h : DataW.trod en Try.prog W base (fun _ => true) held fuel 22 [.slice a0 n0 c0] = some x) :
    n0 ≤ maxLen ∧ ∃ l, InS W a0 n0 l := by
  rcases open_slice Try.underlying22 h with ⟨hcs, _⟩ | ⟨a, len, cap, m, n, D, Pl, hcs, _, hl, hm, hmm, _, hx⟩
  · simp at hcs
    obtain ⟨rfl, rfl, rfl⟩ := hcs
    exact ⟨Nat.zero_le _, [], rfl, by simp, fun g => absurd rfl g⟩
  · simp at hcs
    obtain ⟨rfl, rfl, rfl⟩ := hcs
    simp only [if_true] at hmm
    subst hmm
    rw [cells32] at hx
    refine ⟨by omega, ?_⟩
    obtain ⟨F, hF⟩ := choose_lt (α := St) (p := fun i mm => swf mm ∧ W.cells? base (a.add (i * 7)) 7 = some (encS mm)) (fun i (hi : i < m) => by
      obtain ⟨cs', h1, h2⟩ := hx i hi
      obtain ⟨mm, rfl, hw⟩ := open_step h2
      exact ⟨mm, hw, h1⟩)
    refine ⟨(List.range n0).map F, by simp, ?_, fun g => ?_⟩
    · intro mm hmem
      obtain ⟨i, hi, rfl⟩ := List.mem_map.1 hmem
      exact (hF i (by simp at hi; omega)).1
    · have hc0 := (World.cells?_some (hF 0 (by omega)).2).2.2 0 (by omega)
      have hs := spot_of (a := a) (v := .int .i64 (F 0).1) (by simpa [Addr.add, encS] using hc0)
      obtain ⟨b, off, spot⟩ := a
      simp only at hs
      subst hs
      have hcell : ∀ i, i < n0 → ∀ c, c < 7 → W.cell? ⟨b, off + i * 7 + c, none⟩ = (encS (F i))[c]? := fun i hi c hc => by
        have := (World.cells?_some (hF i (by omega)).2).2.2 c hc
        rwa [Addr.add_lit, Addr.add_lit] at this
      refine ⟨b, off, rfl, ?_, ?_⟩
      · have := hcell 0 (by omega) 0 (by omega)
        exact cell_lt (v := .int .i64 (F 0).1) (by simpa [encS] using this)
      · intro i hi c hc
        simp only [List.length_map, List.length_range] at hi
        rw [hcell i hi c hc]
        simp
def nthS (l : List St) (i : Nat) : St := l.getD i default
theorem InS.cells {w W : World} {a : Option Addr} {n : Nat} {l : List St} (h : InS w a n l) (hb : Below w.heap.size w W) {i : Nat} (hi : i < l.length) {x : St} (hx : nthS l i = x) :
    ∃ b off, a = some ⟨b, off, none⟩ ∧ W.cell? ⟨b, off + i * 7, none⟩ = some (.int .i64 x.1) ∧ W.cell? ⟨b, off + i * 7 + 1, none⟩ = some (.int .i64 x.2.1.1) ∧ W.cell? ⟨b, off + i * 7 + 2, none⟩ = some (.int .i64 x.2.1.2.1) ∧ W.cell? ⟨b, off + i * 7 + 3, none⟩ = some (.int .i64 x.2.1.2.2) ∧
      W.cell? ⟨b, off + i * 7 + 4, none⟩ = some (.int .i64 x.2.2.1) ∧ W.cell? ⟨b, off + i * 7 + 5, none⟩ = some (.int .i64 x.2.2.2.1) ∧ W.cell? ⟨b, off + i * 7 + 6, none⟩ = some (.int .i64 x.2.2.2.2) := by
  obtain ⟨h1, h2, h3⟩ := h
  obtain ⟨b, off, rfl, hB, hc⟩ := h3 (by omega)
  have e : nthS l i = l[i] := by simp [nthS, hi]
  rw [e] at hx
  subst hx
  have c := fun c hc6 => (hb.cell (p := ⟨b, off + i * 7 + c, none⟩) hB).trans (hc i hi c hc6)
  exact ⟨b, off, rfl, c 0 (by omega), c 1 (by omega), c 2 (by omega), c 3 (by omega), c 4 (by omega), c 5 (by omega), c 6 (by omega)⟩
end Go.Proofs.Ytjkcdkoomipfkaa
