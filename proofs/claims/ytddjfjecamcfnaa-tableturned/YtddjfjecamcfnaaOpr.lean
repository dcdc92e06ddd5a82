/- Proved: a slice of rules, and of integers, that came in: what the walk is told of them. -/
import Derived.Test.YtddjfjecamcfnaaWChk
import Derived.ChangeSlices
import Derived.OpenShut
import Derived.ProofKit
import Derived.Deep.Slices
import Derived.Deep.Strs
import Derived.Lib.SmallJoins
namespace Go.Proofs.Ytddjfjecamcfnaa
open Go.ChangeShapes Go.WideShapes Go.ChangeAt Go.RowKit Go.Deep Go.Joins
set_option linter.unusedVariables false

theorem spot_of' {w : World} {a : Addr} {v : Value} (h : w.cell? a = some v) : a.spot = none := by
  unfold World.cell? at h
  split at h
  · split at h
    · cases h
    · rename_i hs
      simpa using hs
  · cases h
theorem wf_i64' {a : Int} (h : (Lit.int .i64 a).wf = true) : i64 a := by
  have := bounds_i64 h
  unfold i64
  omega
theorem list3 {cs : List Value} (h : cs.length = 3) : ∃ a b c, cs = [a, b, c] := by
  match cs, h with
  | [a, b, c], _ => exact ⟨a, b, c, rfl⟩
theorem list4 {cs : List Value} (h : cs.length = 4) : ∃ a b c d, cs = [a, b, c, d] := by
  match cs, h with
  | [a, b, c, d], _ => exact ⟨a, b, c, d, rfl⟩
theorem cells3 : Try.prog.cellsOf 3 = 1 := by kernel_rfl
theorem cellsO : Try.prog.cellsOf 33 = 3 := by kernel_rfl
theorem cellsR : Try.prog.cellsOf 45 = 4 := by kernel_rfl
theorem cellsOs : Try.prog.cellsOf 24 = 1 := by kernel_rfl
theorem open_out {H : Type} {en : TypeId × Value → H} {W : World} {base fuel : Nat} {spare : Nat → Bool} {held : Bool} {cs : List Value} {x : DataW H × List MemPlace} (h : DataW.trod en Try.prog W base spare held fuel 33 cs = some x) :
    ∃ o : O, cs = encO o := by
  obtain ⟨y0, y1, y2, n, _, hl, h0, h1, h2⟩ := trod_struct3 Try.underlying33 h
  rw [cellsO] at hl
  obtain ⟨a, b, c, rfl⟩ := list3 hl
  simp only [cells3] at h0 h1 h2
  obtain ⟨p, e0, _, _⟩ := DataW.trod_int Try.underlying3 h0
  obtain ⟨q, e1, _, _⟩ := DataW.trod_int Try.underlying3 h1
  obtain ⟨r, e2, _, _⟩ := DataW.trod_int Try.underlying3 h2
  simp at e0 e1 e2
  subst e0 e1 e2
  exact ⟨(p, q, r), rfl⟩
theorem open_outs {H : Type} {en : TypeId × Value → H} {W : World} {base fuel : Nat} {spare : Nat → Bool} {held : Bool} {v : Value} {x : DataW H × List MemPlace} (h : DataW.trod en Try.prog W base spare held fuel 24 [v] = some x) :
    ∃ (sa : Option Addr) (sc : Nat) (os : List O), v = .slice sa os.length sc ∧ RdO W sa os := by
  rcases open_slice Try.underlying24 h with ⟨hcs, _⟩ | ⟨a, len, cap, m, n, D, Pl, hcs, _, hl, hm, hmm, _, hx⟩
  · simp at hcs
    exact ⟨none, 0, [], hcs, fun g => absurd rfl g⟩
  · simp at hcs
    have hml : len ≤ m := by rw [hmm]; split <;> omega
    rw [cellsO] at hx
    obtain ⟨F, hF⟩ := choose_lt (α := O) (p := fun i o => W.cells? base (a.add (i * 3)) 3 = some (encO o)) (fun i (hi : i < m) => by
      obtain ⟨cs', h1, h2⟩ := hx i hi
      obtain ⟨o, rfl⟩ := open_out h2
      exact ⟨o, h1⟩)
    refine ⟨some a, cap, (List.range len).map F, by simpa using hcs, fun g => ?_⟩
    have hlen : 0 < len := by
      rcases Nat.eq_zero_or_pos len with e | e
      · rw [e] at g; simp at g
      · exact e
    have hc0 := (World.cells?_some (hF 0 (by omega))).2.2 0 (by omega)
    have hs := spot_of' (a := a) (v := .int .i64 (F 0).1) (by simpa [Addr.add, encO] using hc0)
    obtain ⟨b, off, spot⟩ := a
    simp only at hs
    subst hs
    have hcell : ∀ i, i < len → ∀ c, c < 3 → W.cell? ⟨b, off + i * 3 + c, none⟩ = (encO (F i))[c]? := fun i hi c hc => by
      have := (World.cells?_some (hF i (by omega))).2.2 c hc
      rwa [Addr.add_lit, Addr.add_lit] at this
    refine ⟨b, off, rfl, ?_, ?_⟩
    · have := hcell 0 (by omega) 0 (by omega)
      exact clt' (p := ⟨b, off + 0 * 3 + 0, none⟩) (v := .int .i64 (F 0).1) (by simpa [encO] using this)
    · intro i hi c hc
      simp only [List.length_map, List.length_range] at hi
      rw [hcell i hi c hc]
      simp [nthO, hi]
theorem open_rule {H : Type} {en : TypeId × Value → H} {W : World} {base fuel : Nat} {spare : Nat → Bool} {held : Bool} {cs : List Value} {x : DataW H × List MemPlace} (h : DataW.trod en Try.prog W base spare held fuel 45 cs = some x) :
    ∃ r : Rl, cs = encR r ∧ okM W r := by
  obtain ⟨y0, y1, y2, y3, n, _, hl, h0, h1, h2, h3⟩ := trod_struct4 Try.underlying45 h
  rw [cellsR] at hl
  obtain ⟨a, b, c, d, rfl⟩ := list4 hl
  simp only [cells3, cellsOs] at h0 h1 h2 h3
  obtain ⟨p, e0, _, w0⟩ := DataW.trod_int Try.underlying3 h0
  obtain ⟨q, e1, _, w1⟩ := DataW.trod_int Try.underlying3 h1
  obtain ⟨r, e2, _, w2⟩ := DataW.trod_int Try.underlying3 h2
  obtain ⟨sa, sc, os, e3, hrd⟩ := open_outs (v := d) (by simpa using h3)
  simp at e0 e1 e2
  subst e0 e1 e2 e3
  exact ⟨⟨p, q, r, sa, sc, os⟩, rfl, wf_i64' w0, wf_i64' w1, hrd⟩
theorem open_rules {H : Type} {en : TypeId × Value → H} {W : World} {base fuel : Nat} {held : Bool} {a0 : Option Addr} {n0 c0 : Nat} {x : DataW H × List MemPlace} (h : DataW.trod en Try.prog W base (fun _ => true) held fuel 22 [.slice a0 n0 c0] = some x) :
    n0 ≤ maxLen ∧ ∃ l : List Rl, l.length = n0 ∧ RdR W a0 l := by
  rcases open_slice Try.underlying22 h with ⟨hcs, _⟩ | ⟨a, len, cap, m, n, D, Pl, hcs, _, hl, hm, hmm, _, hx⟩
  · simp at hcs
    obtain ⟨rfl, rfl, rfl⟩ := hcs
    exact ⟨Nat.zero_le _, [], rfl, fun g => absurd rfl g, fun r hr => by cases hr⟩
  · simp at hcs
    obtain ⟨rfl, rfl, rfl⟩ := hcs
    simp only [if_true] at hmm
    subst hmm
    rw [cellsR] at hx
    refine ⟨by omega, ?_⟩
    haveI : Inhabited Rl := ⟨zeroR⟩
    obtain ⟨F, hF⟩ := choose_lt (α := Rl) (p := fun i r => okM W r ∧ W.cells? base (a.add (i * 4)) 4 = some (encR r)) (fun i (hi : i < m) => by
      obtain ⟨cs', h1, h2⟩ := hx i hi
      obtain ⟨r, rfl, hw⟩ := open_rule h2
      exact ⟨r, hw, h1⟩)
    refine ⟨(List.range n0).map F, by simp, fun g => ?_, ?_⟩
    · have hlen : 0 < n0 := by
        rcases Nat.eq_zero_or_pos n0 with e | e
        · rw [e] at g; simp at g
        · exact e
      have hc0 := (World.cells?_some (hF 0 (by omega)).2).2.2 0 (by omega)
      have hs := spot_of' (a := a) (v := .int .i64 (F 0).st) (by simpa [Addr.add, encR] using hc0)
      obtain ⟨b, off, spot⟩ := a
      simp only at hs
      subst hs
      have hcell : ∀ i, i < n0 → ∀ c, c < 4 → W.cell? ⟨b, off + i * 4 + c, none⟩ = (encR (F i))[c]? := fun i hi c hc => by
        have := (World.cells?_some (hF i (by omega)).2).2.2 c hc
        rwa [Addr.add_lit, Addr.add_lit] at this
      refine ⟨b, off, rfl, ?_, ?_⟩
      · have := hcell 0 (by omega) 0 (by omega)
        exact clt' (p := ⟨b, off + 0 * 4 + 0, none⟩) (v := .int .i64 (F 0).st) (by simpa [encR] using this)
      · intro i hi c hc
        simp only [List.length_map, List.length_range] at hi
        rw [hcell i hi c hc]
        simp [nthR, hi]
    · intro r hr
      obtain ⟨i, hi, rfl⟩ := List.mem_map.1 hr
      exact (hF i (by simp at hi; omega)).1

/-! ### Integers -/
def nthI (zs : List Int) (i : Nat) : Int := zs.getD i 0
/-- The integers l can be read at a. -/
def RdI (w : World) (lim : Nat) (a : Option Addr) (zs : List Int) : Prop :=
  zs ≠ [] → ∃ b off, a = some ⟨b, off, none⟩ ∧ b < lim ∧ ∀ i, i < zs.length → w.cell? ⟨b, off + i, none⟩ = some (.int .i64 (nthI zs i))
theorem RdI.below {w w' : World} {a : Option Addr} {zs : List Int} (h : RdI w w.heap.size a zs) (hb : Below w.heap.size w w') : RdI w' w'.heap.size a zs := fun g => by
  obtain ⟨b, off, rfl, hB, hc⟩ := h g
  exact ⟨b, off, rfl, Nat.lt_of_lt_of_le hB hb.size, fun i hi => (hb.cell (p := ⟨b, off + i, none⟩) hB).trans (hc i hi)⟩
theorem open_parents {H : Type} {en : TypeId × Value → H} {W : World} {base fuel : Nat} {held : Bool} {a0 : Option Addr} {n0 c0 : Nat} {x : DataW H × List MemPlace} (h : DataW.trod en Try.prog W base (fun _ => true) held fuel 40 [.slice a0 n0 c0] = some x) :
    n0 ≤ maxLen ∧ ∃ z : List Int, z.length = n0 ∧ RdI W W.heap.size a0 z := by
  rcases open_ints Try.underlying40 Try.underlying3 (by kernel_rfl) h with ⟨hcs, _⟩ | ⟨ad, l, c, zs, hcs, _, hl, hm, hz, _, hcell, hwz⟩
  · simp at hcs
    obtain ⟨rfl, rfl, rfl⟩ := hcs
    exact ⟨Nat.zero_le _, [], rfl, fun g => absurd rfl g⟩
  · simp at hcs
    obtain ⟨rfl, rfl, rfl⟩ := hcs
    have hzl : zs.length = c0 := by simpa using hz
    refine ⟨by omega, zs.take n0, by simp; omega, fun g => ?_⟩
    have hn : 0 < n0 := by
      rcases Nat.eq_zero_or_pos n0 with e | e
      · rw [e] at g; simp at g
      · exact e
    have hc0 := hcell 0 (by omega)
    have hs := spot_of' (by simpa [Addr.add] using hc0)
    obtain ⟨b, off, spot⟩ := ad
    simp only at hs
    subst hs
    have hc : ∀ i, i < n0 → W.cell? ⟨b, off + i, none⟩ = some (.int .i64 (zs.getD i 0)) := fun i hi => by
      have := hcell i (by omega)
      rwa [Addr.add_lit] at this
    refine ⟨b, off, rfl, clt' (hc 0 (by omega)), fun i hi => ?_⟩
    have hi' : i < n0 := by simp at hi; omega
    rw [hc i hi']
    simp [nthI, hi']
end Go.Proofs.Ytddjfjecamcfnaa
