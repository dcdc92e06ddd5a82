/- Proved: the contract of New of the document's net. -/
import Derived.Test.YtkngokpildoljaaDn4
import Derived.Laws.MakeOwn
namespace Go.Proofs.Ytkngokpildoljaa
open Go.RowKit Go.Shelf Go.Sort
set_option linter.unusedVariables false

theorem infoSl : (Try.prog.info? 45).map (fun i => (i.zero, i.size, i.bytes)) = some (some (.slice none 0 0), 1, 24) := by kernel_rfl
theorem make_nn (w : World) (nn : Nat) (h : nn ≤ 64) : ∃ cs : Array Value, (∀ k, k < nn → cs[k]? = some (.slice none 0 0)) ∧ (Instr.makeSlice 56 (.int .i64 (nn : Int)) (.int .i64 (nn : Int))).run Try.prog w = .ok (.slice (some ⟨w.heap.size, 0, none⟩) nn nn) (w.alloc (.cells cs 45)) := by
  obtain ⟨i0, hi, hz0, hz1, hz2⟩ := info_parts infoSl
  have := run_makeSlice (P := Try.prog) w 56 45 i0 _ Try.underlying56 hi hz0 .i64 .i64 (nn : Int) (nn : Int) (by omega) (by omega) (by rw [hz1]; simp; omega) (by rw [hz2]; omega) (by omega)
  rw [hz1] at this
  refine ⟨_, fun k hk => ?_, by simpa using this⟩
  simp [madeCells, Value.cells, hk, Nat.mod_one]
set_option maxRecDepth 100000 in
set_option maxHeartbeats 1000000 in
theorem dnew_ok (w : World) (n room : Nat) (h1 : 1 ≤ n) (h2 : n ≤ 8) (h3 : 1 ≤ room) (h4 : room ≤ 16) :
    Calls Try.prog 9 #[.int .i64 n, .int .i64 room] w fun e w' => e = .returned (.tuple #[.pointer (some ⟨w.heap.size + 1, 0, none⟩), .int .i64 0]) ∧ DN n room noL (w.heap.size + 1) w.heap.size w' (fun k => k = w.heap.size ∨ k = w.heap.size + 1) ∧ Below w.heap.size w w' := by
  have h64 : n * n ≤ 8 * 8 := Nat.mul_le_mul h2 h2
  obtain ⟨nn, hnn⟩ : ∃ nn, n * n = nn := ⟨_, rfl⟩
  rw [hnn] at h64
  obtain ⟨cs, hcs, mk⟩ := make_nn w nn (by omega)
  have d1 : decide ((n : Int) < 1) = false := by simp; omega
  have d2 : decide ((8 : Int) < n) = false := by simp; omega
  have d3 : decide ((room : Int) < 1) = false := by simp; omega
  have d4 : decide ((16 : Int) < room) = false := by simp; omega
  have e1 : (n : Int) * (n : Int) = (nn : Int) := by rw [← hnn]; simp
  have e2 : (nn : Int) ≤ 64 := by omega
  have HD : Hid (DN n room noL (w.heap.size + 1) w.heap.size ((w.alloc (.cells cs 45)).alloc (.cells #[.int .i64 n, .int .i64 room, .slice (some ⟨w.heap.size, 0, none⟩) nn nn] 58)) (fun k => k = w.heap.size ∨ k = w.heap.size + 1)) := by
    have k1 := World.alloc_heap_new (w.alloc (.cells cs 45)) (.cells #[.int .i64 n, .int .i64 room, .slice (some ⟨w.heap.size, 0, none⟩) nn nn] 58)
    rw [World.size_alloc] at k1
    have k0 : ((w.alloc (.cells cs 45)).alloc (.cells #[.int .i64 n, .int .i64 room, .slice (some ⟨w.heap.size, 0, none⟩) nn nn] 58)).heap[w.heap.size]? = some (.cells cs 45 (0, 0)) := (Below.heap_alloc _ _ _ (by simp)).trans (World.alloc_heap_new w _)
    have hlk : ∀ k, lk n noL k = [] := fun k => rfl
    refine ⟨cellB k1 0, cellB k1 1, ?_, fun k hk => ⟨none, 0, ?_, ?_, fun g => absurd (hlk k) g⟩, fun k hk a c hc => by rw [hlk]; exact Nat.zero_le _, .inr rfl, .inl rfl, by omega, fun k hk => ?_, OKL.nil h1 h2 h3 h4⟩
    · rw [hnn]; exact cellB k1 2
    · rw [cellB k0 k]; exact hcs k (by omega)
    · unfold World.frozen?
      simp only [k0]
      rfl
    · simp
      rcases hk with rfl | rfl <;> omega
  clear hcs hnn
  go_enter Try.func9, Try.ntmps9
  go_wp2
  go_ret2
  exact ⟨rfl, HD.out, Below.on (al w _) (al _ _)⟩
theorem dnew_no (w : World) (n room : Int) (h : ¬ ((1 ≤ n ∧ n ≤ 8) ∧ 1 ≤ room ∧ room ≤ 16)) :
    Calls Try.prog 9 #[.int .i64 n, .int .i64 room] w fun e w' => e = .returned (.tuple #[.pointer none, .int .i64 1]) ∧ w = w' := by
  by_cases h1 : n < 1
  · have d1 : decide (n < 1) = true := by simpa using h1
    go_enter Try.func9, Try.ntmps9
    go_wp2
    go_ret2
    exact ⟨rfl, rfl⟩
  · have d1 : decide (n < 1) = false := by simpa using h1
    by_cases h2 : 8 < n
    · have d2 : decide (8 < n) = true := by simpa using h2
      go_enter Try.func9, Try.ntmps9
      go_wp2
      go_ret2
      exact ⟨rfl, rfl⟩
    · have d2 : decide (8 < n) = false := by simpa using h2
      by_cases h3 : room < 1
      · have d3 : decide (room < 1) = true := by simpa using h3
        go_enter Try.func9, Try.ntmps9
        go_wp2
        go_ret2
        exact ⟨rfl, rfl⟩
      · have d3 : decide (room < 1) = false := by simpa using h3
        have d4 : decide (16 < room) = true := by simp; omega
        go_enter Try.func9, Try.ntmps9
        go_wp2
        go_ret2
        exact ⟨rfl, rfl⟩
end Go.Proofs.Ytkngokpildoljaa
