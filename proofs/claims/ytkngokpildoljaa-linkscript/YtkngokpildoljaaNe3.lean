/- Proved: the contract of New. -/
import Derived.Test.YtkngokpildoljaaNe2
import Derived.Laws.Tables
namespace Go.Proofs.Ytkngokpildoljaa
open Go.RowKit Go.Shelf
set_option linter.unusedVariables false

theorem infoNet : Try.prog.info? 55 = some Try.t55 := by kernel_rfl
theorem zeroNet : ∃ cs : Array Value, Try.t55.zero = some (.agg cs) ∧ cs.size = 8322 ∧ ∀ i, i < 8322 → cs[i]? = some (.int .i64 0) := by
  have h := zero55
  split at h
  · rename_i cs hz
    obtain ⟨h1, h2⟩ := allZ_get _ _ h
    refine ⟨cs, hz, by simpa using h1, fun i hi => ?_⟩
    have := h2 i hi
    simpa using this
  · cases h
theorem zvNet : ∃ cs : Array Value, (∀ w : World, (zeroValue 55).run Try.prog w = .ok (.agg cs) w) ∧ cs.size = 8322 ∧ ∀ i, i < 8322 → cs[i]? = some (.int .i64 0) := by
  obtain ⟨cs, hz, hs, hc⟩ := zeroNet
  refine ⟨cs, fun w => ?_, hs, hc⟩
  simp [zeroValue, Try.typeInfo55, hz]
set_option maxRecDepth 100000 in
theorem new_ok (w : World) (n room : Nat) (h1 : 1 ≤ n) (h2 : n ≤ 8) (h3 : 1 ≤ room) (h4 : room ≤ 16) :
    Calls Try.prog 8 #[.int .i64 n, .int .i64 room] w fun e w' => e = .returned (.tuple #[.pointer (some ⟨w.heap.size, 0, none⟩), .int .i64 0]) ∧ Nt n room noL w.heap.size w' ∧ Below w.heap.size w w' := by
  obtain ⟨cs, zv, hs, hc⟩ := zvNet
  have hne : ¬ cs = #[] := by intro e; rw [e] at hs; simp at hs
  obtain ⟨Z, hZ⟩ : ∃ Z, (cs.setIfInBounds 0 (.int .i64 (n : Int))).setIfInBounds 1 (.int .i64 (room : Int)) = Z := ⟨_, rfl⟩
  have z0 : Z[0]? = some (.int .i64 (n : Int)) := by rw [← hZ]; simp [hs]
  have z1 : Z[1]? = some (.int .i64 (room : Int)) := by rw [← hZ]; simp [hs]
  have z2 : ∀ i, 2 ≤ i → i < 8322 → Z[i]? = some (.int .i64 0) := fun i h1 h2 => by
    rw [← hZ]
    simp [show ¬ 1 = i by omega, show ¬ 0 = i by omega, hc i h2]
  have d1 : decide ((n : Int) < 1) = false := by simp; omega
  have d2 : decide ((8 : Int) < n) = false := by simp; omega
  have d3 : decide ((room : Int) < 1) = false := by simp; omega
  have d4 : decide ((16 : Int) < room) = false := by simp; omega
  have HN : Hid (Nt n room noL w.heap.size (w.alloc (.cells Z 55))) := by
    have hn := World.alloc_heap_new w (.cells Z 55)
    refine ⟨fun i => if i = 0 then n else if i = 1 then room else 0, ⟨fun i hi => ⟨?_, ?_⟩⟩, rfl, rfl, fun a b ha hb => ⟨0, ?_⟩, OKL.nil h1 h2 h3 h4⟩
    · rw [cellB hn i]
      rcases (by omega : i = 0 ∨ i = 1 ∨ 2 ≤ i) with rfl | rfl | h
      · exact z0
      · exact z1
      · rw [z2 i h hi, if_neg (by omega), if_neg (by omega)]
    · have := hn
      unfold World.frozen?
      simp only [hn]
      rfl
    · refine ⟨by omega, ?_, ?_, by simp [noL], fun j hj => by simp [noL] at hj⟩
      · (try dsimp only)
        rw [if_neg (by omega), if_neg (by omega)]; rfl
      · (try dsimp only)
        rw [if_neg (by omega), if_neg (by omega)]; rfl
  clear z0 z1 z2 hc
  go_enter Try.func8, Try.ntmps8
  go_wp2
  go_ret2
  exact ⟨rfl, HN.out, al w _⟩
theorem new_no (w : World) (n room : Int) (h : ¬ ((1 ≤ n ∧ n ≤ 8) ∧ 1 ≤ room ∧ room ≤ 16)) :
    Calls Try.prog 8 #[.int .i64 n, .int .i64 room] w fun e w' => e = .returned (.tuple #[.pointer none, .int .i64 1]) ∧ w = w' := by
  by_cases h1 : n < 1
  · have d1 : decide (n < 1) = true := by simpa using h1
    go_enter Try.func8, Try.ntmps8
    go_wp2
    go_ret2
    exact ⟨rfl, rfl⟩
  · have d1 : decide (n < 1) = false := by simpa using h1
    by_cases h2 : 8 < n
    · have d2 : decide (8 < n) = true := by simpa using h2
      go_enter Try.func8, Try.ntmps8
      go_wp2
      go_ret2
      exact ⟨rfl, rfl⟩
    · have d2 : decide (8 < n) = false := by simpa using h2
      by_cases h3 : room < 1
      · have d3 : decide (room < 1) = true := by simpa using h3
        go_enter Try.func8, Try.ntmps8
        go_wp2
        go_ret2
        exact ⟨rfl, rfl⟩
      · have d3 : decide (room < 1) = false := by simpa using h3
        have d4 : decide (16 < room) = true := by simp; omega
        go_enter Try.func8, Try.ntmps8
        go_wp2
        go_ret2
        exact ⟨rfl, rfl⟩
end Go.Proofs.Ytkngokpildoljaa
