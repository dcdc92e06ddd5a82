/- Proved: a slice of integers that came in: what the walk is told of it. -/
import Derived.Test.YtkbldbbhcdiihaaTre
import Derived.ChangeSlices
import Derived.OpenShut
import Derived.ProofKit
namespace Go.Proofs.Ytkbldbbhcdiihaa
open Go.ChangeShapes Go.WideShapes Go.ChangeAt Go.RowKit Go.Shelf
set_option linter.unusedVariables false

theorem spot_of {w : World} {a : Addr} {v : Value} (h : w.cell? a = some v) : a.spot = none := by
  unfold World.cell? at h
  split at h
  · split at h
    · cases h
    · rename_i hs
      simpa using hs
  · cases h
theorem open_parents {H : Type} {en : TypeId × Value → H} {W : World} {base fuel : Nat} {held : Bool} {a0 : Option Addr} {n0 c0 : Nat} {x : DataW H × List MemPlace} (h : DataW.trod en Try.prog W base (fun _ => true) held fuel 22 [.slice a0 n0 c0] = some x) :
    n0 ≤ maxLen ∧ ∃ z : List Int, z.length = n0 ∧ RdI W W.heap.size a0 z := by
  rcases open_ints Try.underlying22 Try.underlying3 (by kernel_rfl) h with ⟨hcs, _⟩ | ⟨ad, l, c, zs, hcs, _, hl, hm, hz, _, hcell, hwz⟩
  · simp at hcs
    obtain ⟨rfl, rfl, rfl⟩ := hcs
    exact ⟨Nat.zero_le _, [], rfl, fun g => absurd rfl g⟩
  · simp at hcs
    obtain ⟨rfl, rfl, rfl⟩ := hcs
    have hzl : zs.length = c0 := by simpa using hz
    refine ⟨by omega, zs.take n0, by simp; omega, fun g => ?_⟩
    have hn : 0 < n0 := by
      rcases Nat.eq_zero_or_pos n0 with e | e
      · rw [e] at g; simp at g
      · exact e
    have hc0 := hcell 0 (by omega)
    have hs := spot_of (by simpa [Addr.add] using hc0)
    obtain ⟨b, off, spot⟩ := ad
    simp only at hs
    subst hs
    have hc : ∀ i, i < n0 → W.cell? ⟨b, off + i, none⟩ = some (.int .i64 (zs.getD i 0)) := fun i hi => by
      have := hcell i (by omega)
      rwa [Addr.add_lit] at this
    refine ⟨b, off, rfl, clt (hc 0 (by omega)), fun i hi => ?_⟩
    have hi' : i < n0 := by simp at hi; omega
    rw [hc i hi']
    simp [nthI, hi']
end Go.Proofs.Ytkbldbbhcdiihaa
