/- Proved: the statements' own same tells whether two slices hold the same integers. -/
import Derived.Test.YtkbldbbhcdiihaaRfa
namespace Go.Proofs.Ytkbldbbhcdiihaa
open Go.RowKit Go.Shelf
set_option linter.unusedVariables false

theorem list_nth {xs ys : List Int} (h : xs.length = ys.length) (g : ∀ j, j < xs.length → nthI xs j = nthI ys j) : xs = ys := by
  apply List.ext_getElem h
  intro i h1 h2
  have := g i h1
  simpa [nthI, h1, h2] using this

set_option maxRecDepth 100000 in
set_option maxHeartbeats 1000000 in
/-- Of two slices that hold one list. -/
theorem same_yes (w : World) (n0 : Nat) (a a' : Option Addr) (c c' : Nat) (zs : List Int) (hn : n0 ≤ w.heap.size) (h : RdI w n0 a zs) (h' : RdI w n0 a' zs) (hl : zs.length ≤ 9223372036854775807) :
    Calls Try.prog 16 #[.slice a zs.length c, .slice a' zs.length c'] w fun e w' => e = .returned (.bool true) ∧ Below w.heap.size w w' := by
  have HRD : Hid _ := h
  have HRD' : Hid _ := h'
  clear h h'
  go_enter Try.func16, Try.ntmps16
  go_wp2_with fail
  go_loopw [5] (fun si wr => Hid (Below w.heap.size w wr) ∧ ∃ k : Nat, k ≤ zs.length ∧ si = .int .i64 k) (fun si _ => zs.length - (intOf si).toNat)
  case atStart => exact ⟨Below.refl _ _, 0, Nat.zero_le _, rfl⟩
  case round =>
    obtain ⟨HB, k, hk, rfl⟩ := hrel
    by_cases hkl : k < zs.length
    · have hk' : (k : Int) < (zs.length : Int) := by omega
      obtain ⟨b, off, rfl, hb, hc⟩ := HRD.out (by intro e; simp [e] at hkl)
      obtain ⟨b', off', rfl, hb', hc'⟩ := HRD'.out (by intro e; simp [e] at hkl)
      have x0 := (Below.cell (p := ⟨b, off + k, none⟩) (Hid.out HB) (Nat.lt_of_lt_of_le hb hn)).trans (hc k hkl)
      have x1 := (Below.cell (p := ⟨b', off' + k, none⟩) (Hid.out HB) (Nat.lt_of_lt_of_le hb' hn)).trans (hc' k hkl)
      clear hc hc'
      obtain ⟨x, hx⟩ : ∃ x, nthI zs k = x := ⟨_, rfl⟩
      rw [hx] at x0 x1
      clear hx
      go_wp2
      go_region
      all_goals go_wp2
      go_roundw
      case rel => exact ⟨Below.drew (Hid.out HB), k + 1, by omega, by go_num⟩
      case measure => simp [intOf]; omega
    · obtain rfl : k = zs.length := by omega
      go_wp2
      go_ret
      exact ⟨rfl, HB.out⟩
end Go.Proofs.Ytkbldbbhcdiihaa
