/- Proved: slices of calls, and of bytes, that came in: what the walk is told of them. -/
import Derived.Test.YtkbldbbhcdiihaaWKin
import Derived.Test.YtkbldbbhcdiihaaOpi
import Derived.Deep.Slices
import Derived.Deep.Strs
import Derived.Lib.SmallJoins
namespace Go.Proofs.Ytkbldbbhcdiihaa
open Go.ChangeShapes Go.WideShapes Go.ChangeAt Go.RowKit Go.Deep Go.Joins Go.Shelf
set_option linter.unusedVariables false

theorem list4 {cs : List Value} (h : cs.length = 4) : ∃ a b c d, cs = [a, b, c, d] := by
  match cs, h with
  | [a, b, c, d], _ => exact ⟨a, b, c, d, rfl⟩
theorem cells3 : Try.prog.cellsOf 3 = 1 := by kernel_rfl
theorem cells4 : Try.prog.cellsOf 4 = 1 := by kernel_rfl
theorem cellsS : Try.prog.cellsOf 32 = 4 := by kernel_rfl
theorem open_step {H : Type} {en : TypeId × Value → H} {W : World} {base fuel : Nat} {spare : Nat → Bool} {held : Bool} {cs : List Value} {x : DataW H × List MemPlace} (h : DataW.trod en Try.prog W base spare held fuel 32 cs = some x) :
    ∃ s : St, cs = encS s := by
  obtain ⟨y0, y1, y2, y3, n, _, hl, h0, h1, h2, h3⟩ := trod_struct4 Try.underlying32 h
  rw [cellsS] at hl
  obtain ⟨a, b, c, d, rfl⟩ := list4 hl
  simp only [cells3, cells4] at h0 h1 h2 h3
  obtain ⟨p, e0, _, _⟩ := DataW.trod_int Try.underlying3 h0
  obtain ⟨q, e1, _, _⟩ := DataW.trod_int Try.underlying3 h1
  obtain ⟨r, e2, _, _⟩ := DataW.trod_int Try.underlying3 h2
  obtain ⟨s, e3, _⟩ := DataW.trod_bool Try.underlying4 h3
  simp at e0 e1 e2 e3
  subst e0 e1 e2 e3
  exact ⟨(p, q, r, s), rfl⟩
theorem open_steps {H : Type} {en : TypeId × Value → H} {W : World} {base fuel : Nat} {held : Bool} {a0 : Option Addr} {n0 c0 : Nat} {x : DataW H × List MemPlace} (h : DataW.trod en Try.prog W base (fun _ => true) held fuel 23 [.slice a0 n0 c0] = some x) :
    n0 ≤ maxLen ∧ ∃ l, InS W a0 n0 l := by
  rcases open_slice Try.underlying23 h with ⟨hcs, _⟩ | ⟨a, len, cap, m, n, D, Pl, hcs, _, hl, hm, hmm, _, hx⟩
  · simp at hcs
    obtain ⟨rfl, rfl, rfl⟩ := hcs
    exact ⟨Nat.zero_le _, [], rfl, fun g => absurd rfl g⟩
  · simp at hcs
    obtain ⟨rfl, rfl, rfl⟩ := hcs
    simp only [if_true] at hmm
    subst hmm
    rw [cellsS] at hx
    refine ⟨by omega, ?_⟩
    obtain ⟨F, hF⟩ := choose_lt (α := St) (p := fun i mm => W.cells? base (a.add (i * 4)) 4 = some (encS mm)) (fun i (hi : i < m) => by
      obtain ⟨cs', h1, h2⟩ := hx i hi
      obtain ⟨mm, rfl⟩ := open_step h2
      exact ⟨mm, h1⟩)
    refine ⟨(List.range n0).map F, by simp, fun g => ?_⟩
    have hc0 := (World.cells?_some (hF 0 (by omega))).2.2 0 (by omega)
    have hs := spot_of (a := a) (v := .int .i64 (F 0).1) (by simpa [Addr.add, encS] using hc0)
    obtain ⟨b, off, spot⟩ := a
    simp only at hs
    subst hs
    have hcell : ∀ i, i < n0 → ∀ c, c < 4 → W.cell? ⟨b, off + i * 4 + c, none⟩ = (encS (F i))[c]? := fun i hi c hc => by
      have := (World.cells?_some (hF i (by omega))).2.2 c hc
      rwa [Addr.add_lit, Addr.add_lit] at this
    refine ⟨b, off, rfl, ?_, ?_⟩
    · have := hcell 0 (by omega) 0 (by omega)
      exact clt (p := ⟨b, off + 0 * 4 + 0, none⟩) (v := .int .i64 (F 0).1) (by simpa [encS] using this)
    · intro i hi c hc
      simp only [List.length_map, List.length_range] at hi
      rw [hcell i hi c hc]
      simp [nthS, hi]
theorem open_bytes {H : Type} {en : TypeId × Value → H} {W : World} {base fuel : Nat} {held : Bool} {a0 : Option Addr} {n0 c0 : Nat} {x : DataW H × List MemPlace} (h : DataW.trod en Try.prog W base (fun _ => true) held fuel 42 [.slice a0 n0 c0] = some x) :
    n0 ≤ maxLen ∧ ∃ z, InB W a0 n0 z := by
  rcases open_ints Try.underlying42 Try.underlying5 (by kernel_rfl) h with ⟨hcs, _⟩ | ⟨ad, l, c, zs, hcs, _, hl, hm, hz, _, hcell, hwz⟩
  · simp at hcs
    obtain ⟨rfl, rfl, rfl⟩ := hcs
    exact ⟨Nat.zero_le _, [], fun i => by simp, fun g => absurd rfl g⟩
  · simp at hcs
    obtain ⟨rfl, rfl, rfl⟩ := hcs
    refine ⟨by omega, zs, fun i => ?_, fun g => ?_⟩
    · by_cases hi : i < zs.length
      · have hw := hwz (zs.getD i 0) (by simp [hi])
        have := bounds_u8 hw
        omega
      · simp [List.getD, List.getElem?_eq_none (show zs.length ≤ i by omega)]
    · have hzl : zs.length = c0 := by simpa using hz
      have hc0 := hcell 0 (by omega)
      have hs := spot_of (by simpa [Addr.add] using hc0)
      obtain ⟨b, off, spot⟩ := ad
      simp only at hs
      subst hs
      have hc : ∀ i, i < n0 → W.cell? ⟨b, off + i, none⟩ = some (.int .u8 (zs.getD i 0)) := fun i hi => by
        have := hcell i (by omega)
        rwa [Addr.add_lit] at this
      exact ⟨b, off, rfl, clt (hc 0 (by omega)), hc⟩
end Go.Proofs.Ytkbldbbhcdiihaa
