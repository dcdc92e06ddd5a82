/- Proved: slices of small numbers that came in: what the walk is told of them. -/
import Derived.Test.YtddjfjecamcfnaaWSen
import Derived.ChangeSlices
import Derived.OpenShut
import Derived.ProofKit
namespace Go.Proofs.Ytddjfjecamcfnaa
open Go.ChangeShapes Go.WideShapes Go.ChangeAt Go.RowKit
set_option linter.unusedVariables false

theorem clt {w : World} {p : Addr} {v : Value} (h : w.cell? p = some v) : p.block < w.heap.size := by
  rcases Nat.lt_or_ge p.block w.heap.size with g | g
  · exact g
  · unfold World.cell? at h
    rw [Array.getElem?_eq_none g] at h
    cases h
theorem spot_of {w : World} {a : Addr} {v : Value} (h : w.cell? a = some v) : a.spot = none := by
  unfold World.cell? at h
  split at h
  · split at h
    · cases h
    · rename_i hs
      simpa using hs
  · cases h
/-- A slice of bytes that came in. -/
def InB (w : World) (a : Option Addr) (n : Nat) (z : List Int) : Prop :=
  (∀ i, 0 ≤ z.getD i 0 ∧ z.getD i 0 ≤ 255) ∧ (n ≠ 0 → ∃ b off, a = some ⟨b, off, none⟩ ∧ b < w.heap.size ∧ ∀ i, i < n → w.cell? ⟨b, off + i, none⟩ = some (.int .u8 (z.getD i 0)))
/-- A slice of words of sixteen bits that came in. -/
def InW (w : World) (a : Option Addr) (n : Nat) (z : List Int) : Prop :=
  (∀ i, 0 ≤ z.getD i 0 ∧ z.getD i 0 ≤ 65535) ∧ (n ≠ 0 → ∃ b off, a = some ⟨b, off, none⟩ ∧ b < w.heap.size ∧ ∀ i, i < n → w.cell? ⟨b, off + i, none⟩ = some (.int .u16 (z.getD i 0)))
theorem open_bytes {H : Type} {en : TypeId × Value → H} {W : World} {base fuel : Nat} {held : Bool} {a0 : Option Addr} {n0 c0 : Nat} {x : DataW H × List MemPlace} (h : DataW.trod en Try.prog W base (fun _ => true) held fuel 49 [.slice a0 n0 c0] = some x) :
    n0 ≤ maxLen ∧ ∃ z, InB W a0 n0 z := by
  rcases open_ints Try.underlying49 Try.underlying5 (by kernel_rfl) h with ⟨hcs, _⟩ | ⟨ad, l, c, zs, hcs, _, hl, hm, hz, _, hcell, hwz⟩
  · simp at hcs
    obtain ⟨rfl, rfl, rfl⟩ := hcs
    exact ⟨Nat.zero_le _, [], fun i => by simp, fun g => absurd rfl g⟩
  · simp at hcs
    obtain ⟨rfl, rfl, rfl⟩ := hcs
    refine ⟨by omega, zs, fun i => ?_, fun g => ?_⟩
    · by_cases hi : i < zs.length
      · have hw := hwz (zs.getD i 0) (by simp [hi])
        have := bounds_u8 hw
        omega
      · simp [List.getD, List.getElem?_eq_none (show zs.length ≤ i by omega)]
    · have hzl : zs.length = c0 := by simpa using hz
      have hc0 := hcell 0 (by omega)
      have hs := spot_of (by simpa [Addr.add] using hc0)
      obtain ⟨b, off, spot⟩ := ad
      simp only at hs
      subst hs
      have hc : ∀ i, i < n0 → W.cell? ⟨b, off + i, none⟩ = some (.int .u8 (zs.getD i 0)) := fun i hi => by
        have := hcell i (by omega)
        rwa [Addr.add_lit] at this
      exact ⟨b, off, rfl, clt (hc 0 (by omega)), hc⟩
theorem open_words {H : Type} {en : TypeId × Value → H} {W : World} {base fuel : Nat} {held : Bool} {a0 : Option Addr} {n0 c0 : Nat} {x : DataW H × List MemPlace} (h : DataW.trod en Try.prog W base (fun _ => true) held fuel 48 [.slice a0 n0 c0] = some x) :
    n0 ≤ maxLen ∧ ∃ z, InW W a0 n0 z := by
  rcases open_ints Try.underlying48 Try.underlying47 (by kernel_rfl) h with ⟨hcs, _⟩ | ⟨ad, l, c, zs, hcs, _, hl, hm, hz, _, hcell, hwz⟩
  · simp at hcs
    obtain ⟨rfl, rfl, rfl⟩ := hcs
    exact ⟨Nat.zero_le _, [], fun i => by simp, fun g => absurd rfl g⟩
  · simp at hcs
    obtain ⟨rfl, rfl, rfl⟩ := hcs
    refine ⟨by omega, zs, fun i => ?_, fun g => ?_⟩
    · by_cases hi : i < zs.length
      · have hw := hwz (zs.getD i 0) (by simp [hi])
        have := bounds_u16 hw
        omega
      · simp [List.getD, List.getElem?_eq_none (show zs.length ≤ i by omega)]
    · have hzl : zs.length = c0 := by simpa using hz
      have hc0 := hcell 0 (by omega)
      have hs := spot_of (by simpa [Addr.add] using hc0)
      obtain ⟨b, off, spot⟩ := ad
      simp only at hs
      subst hs
      have hc : ∀ i, i < n0 → W.cell? ⟨b, off + i, none⟩ = some (.int .u16 (zs.getD i 0)) := fun i hi => by
        have := hcell i (by omega)
        rwa [Addr.add_lit] at this
      exact ⟨b, off, rfl, clt (hc 0 (by omega)), hc⟩
end Go.Proofs.Ytddjfjecamcfnaa
