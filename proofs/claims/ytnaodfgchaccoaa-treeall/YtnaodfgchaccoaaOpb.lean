/- Proved: a slice of bytes that came in: what the walk is told of it. -/
import Derived.Test.YtnaodfgchaccoaaOpi
import Derived.Test.YtnaodfgchaccoaaMad
namespace Go.Proofs.Ytnaodfgchaccoaa
open Go.ChangeShapes Go.WideShapes Go.ChangeAt Go.RowKit Go.Shelf
set_option linter.unusedVariables false

theorem open_bytes {H : Type} {en : TypeId × Value → H} {W : World} {base fuel : Nat} {held : Bool} {a0 : Option Addr} {n0 c0 : Nat} {x : DataW H × List MemPlace} (h : DataW.trod en Try.prog W base (fun _ => true) held fuel 29 [.slice a0 n0 c0] = some x) :
    n0 ≤ maxLen ∧ ∃ z, InB W a0 n0 z := by
  rcases open_ints Try.underlying29 Try.underlying5 (by kernel_rfl) h with ⟨hcs, _⟩ | ⟨ad, l, c, zs, hcs, _, hl, hm, hz, _, hcell, hwz⟩
  · simp at hcs
    obtain ⟨rfl, rfl, rfl⟩ := hcs
    exact ⟨Nat.zero_le _, [], fun i => by simp, fun g => absurd rfl g⟩
  · simp at hcs
    obtain ⟨rfl, rfl, rfl⟩ := hcs
    refine ⟨by omega, zs, fun i => ?_, fun g => ?_⟩
    · by_cases hi : i < zs.length
      · have hw := hwz (zs.getD i 0) (by simp [hi])
        have := bounds_u8 hw
        omega
      · simp [List.getD, List.getElem?_eq_none (show zs.length ≤ i by omega)]
    · have hzl : zs.length = c0 := by simpa using hz
      have hc0 := hcell 0 (by omega)
      have hs := spot_of (by simpa [Addr.add] using hc0)
      obtain ⟨b, off, spot⟩ := ad
      simp only at hs
      subst hs
      have hc : ∀ i, i < n0 → W.cell? ⟨b, off + i, none⟩ = some (.int .u8 (zs.getD i 0)) := fun i hi => by
        have := hcell i (by omega)
        rwa [Addr.add_lit] at this
      exact ⟨b, off, rfl, clt (hc 0 (by omega)), hc⟩
end Go.Proofs.Ytnaodfgchaccoaa
