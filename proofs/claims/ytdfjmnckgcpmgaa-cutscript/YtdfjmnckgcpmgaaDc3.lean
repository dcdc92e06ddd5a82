/- Proved: the contract of New of the document's cut. -/
import Derived.Test.YtdfjmnckgcpmgaaDc2
namespace Go.Proofs.Ytdfjmnckgcpmgaa
open Go.RowKit Go.Shelf
open K
set_option linter.unusedVariables false

theorem make_bA (n : Nat) (h : n ≤ 8) : ∃ cs : Array Value, (∀ k, k < n → cs[k]? = some (.bool false)) ∧ ∀ w : World, (Instr.makeSlice 39 (.int .i64 (n : Int)) (.int .i64 (n : Int))).run Try.prog w = .ok (.slice (some ⟨w.heap.size, 0, none⟩) n n) (w.alloc (.cells cs 4)) := by
  obtain ⟨i0, hi, hz0, hz1, hz2⟩ := info_parts infoB
  refine ⟨madeCells (Value.cells (.bool false)) (n * 1), fun k hk => by simp [madeCells, Value.cells, hk, Nat.mod_one], fun w => ?_⟩
  have := run_makeSlice (P := Try.prog) w 39 4 i0 _ Try.underlying39 hi hz0 .i64 .i64 (n : Int) (n : Int) (by omega) (by omega) (by rw [hz1]; simp; omega) (by rw [hz2]; omega) (by omega)
  rw [hz1] at this
  simpa using this
theorem make_iA (n : Nat) (h : n ≤ 8) : ∃ cs : Array Value, (∀ k, k < n → cs[k]? = some (.int .i64 0)) ∧ ∀ w : World, (Instr.makeSlice 38 (.int .i64 (n : Int)) (.int .i64 (n : Int))).run Try.prog w = .ok (.slice (some ⟨w.heap.size, 0, none⟩) n n) (w.alloc (.cells cs 3)) := by
  obtain ⟨i0, hi, hz0, hz1, hz2⟩ := info_parts infoI
  refine ⟨madeCells (Value.cells (.int .i64 0)) (n * 1), fun k hk => by simp [madeCells, Value.cells, hk, Nat.mod_one], fun w => ?_⟩
  have := run_makeSlice (P := Try.prog) w 38 3 i0 _ Try.underlying38 hi hz0 .i64 .i64 (n : Int) (n : Int) (by omega) (by omega) (by rw [hz1]; simp; omega) (by rw [hz2]; omega) (by omega)
  rw [hz1] at this
  simpa using this
theorem rows3 (w : World) (n : Nat) {a b c : Array Value} (ta tb tc : TypeId) {fa fb fc : Nat → Value} (ha : ∀ k, k < n → a[k]? = some (fa k)) (hb : ∀ k, k < n → b[k]? = some (fb k)) (hc : ∀ k, k < n → c[k]? = some (fc k)) :
    Rv (((w.alloc (.cells a ta)).alloc (.cells b tb)).alloc (.cells c tc)) w.heap.size n fa ∧ Rv (((w.alloc (.cells a ta)).alloc (.cells b tb)).alloc (.cells c tc)) (w.heap.size + 1) n fb ∧ Rv (((w.alloc (.cells a ta)).alloc (.cells b tb)).alloc (.cells c tc)) (w.heap.size + 1 + 1) n fc ∧ (((w.alloc (.cells a ta)).alloc (.cells b tb)).alloc (.cells c tc)).heap.size = w.heap.size + 1 + 1 + 1 ∧ Below w.heap.size w (((w.alloc (.cells a ta)).alloc (.cells b tb)).alloc (.cells c tc)) := by
  have h1 := Rv.new w n fa a ta ha
  have h2 := Rv.new (w.alloc (.cells a ta)) n fb b tb hb
  have h3 := Rv.new ((w.alloc (.cells a ta)).alloc (.cells b tb)) n fc c tc hc
  simp only [World.size_alloc] at h2 h3
  exact ⟨(h1.below (al _ _)).below (al _ _), h2.below (al _ _), h3, by simp only [World.size_alloc], Below.on (Below.on (al _ _) (al _ _)) (al _ _)⟩
theorem dt_new {w W : World} {n s rb tb eb : Nat} (h1 : 1 ≤ n) (h8 : n ≤ 8) (hr : Rv W rb n (fun _ => .int .i64 0)) (ht : Rv W tb n (fun _ => .bool false)) (he : Rv W eb n (fun _ => .bool false)) (d1 : rb ≠ tb) (d2 : rb ≠ eb) (d3 : tb ≠ eb) (hs : W.heap.size = s) (hb : Below w.heap.size w W) (g1 : w.heap.size ≤ rb) (g2 : w.heap.size ≤ tb) (g3 : w.heap.size ≤ eb) :
    ∃ rb' tb' eb', DT 0 (new n) s rb' tb' eb' (W.alloc (.cells #[.slice (some ⟨rb, 0, none⟩) n n, .slice (some ⟨tb, 0, none⟩) n n, .slice (some ⟨eb, 0, none⟩) n n, .int .i64 0, .int .i64 0, .bool false, .int .i64 0, .int .i64 0, .int .i64 0, .int .i64 0] 42)).drew ∧ Below w.heap.size w (W.alloc (.cells #[.slice (some ⟨rb, 0, none⟩) n n, .slice (some ⟨tb, 0, none⟩) n n, .slice (some ⟨eb, 0, none⟩) n n, .int .i64 0, .int .i64 0, .bool false, .int .i64 0, .int .i64 0, .int .i64 0, .int .i64 0] 42)).drew ∧ w.heap.size ≤ rb' ∧ w.heap.size ≤ tb' ∧ w.heap.size ≤ eb' := by
  subst hs
  refine ⟨rb, tb, eb, DT.drew ⟨OK.new n h1 h8, ?_, ?_, ?_, ?_, ?_, ?_, ?_, d1, d2, d3⟩, (Below.on hb (al _ _)).drew, g1, g2, g3⟩
  · refine (Rv.new W 10 (fun j => dv (new n) rb tb eb j) _ 42 (fun k hk => ?_))
    have hl : (new n).co.length = n := by simp [new]
    have : k = 0 ∨ k = 1 ∨ k = 2 ∨ k = 3 ∨ k = 4 ∨ k = 5 ∨ k = 6 ∨ k = 7 ∨ k = 8 ∨ k = 9 := by omega
    unfold dv
    rw [hl]
    rcases this with rfl | rfl | rfl | rfl | rfl | rfl | rfl | rfl | rfl | rfl <;> rfl
  · have hl : (new n).co.length = n := by simp [new]
    rw [hl]
    exact (hr.below (al _ _)).same (fun i hi => by simp [new, hi])
  · have hl : (new n).co.length = n := by simp [new]
    rw [hl]
    exact (ht.below (al _ _)).same (fun i hi => by simp [new, hi])
  · have hl : (new n).co.length = n := by simp [new]
    rw [hl]
    exact (he.below (al _ _)).same (fun i hi => by simp [new, hi])
  · have := hr.lt; omega
  · have := ht.lt; omega
  · have := he.lt; omega
set_option maxRecDepth 100000 in
set_option maxHeartbeats 2000000 in
theorem dnew_ok (w : World) (n : Nat) (h1 : 1 ≤ n) (h8 : n ≤ 8) :
    Calls Try.prog 9 #[.int .i64 n] w fun e w' => e = .returned (.tuple #[pp (w.heap.size + 1 + 1 + 1), .int .i64 0]) ∧ ∃ rb tb eb, DT 0 (new n) (w.heap.size + 1 + 1 + 1) rb tb eb w' ∧ Below w.heap.size w w' ∧ w.heap.size ≤ rb ∧ w.heap.size ≤ tb ∧ w.heap.size ≤ eb := by
  obtain ⟨ci, hci, mki⟩ := make_iA n h8
  obtain ⟨cb, hcb, mkb⟩ := make_bA n h8
  have g1 : ¬ (n : Int) < 1 := by omega
  have g2 : ¬ (8 : Int) < n := by omega
  have g3 : (0 : Int) ≤ n := by omega
  have X1 : Hid _ := rows3 w n 3 4 4 hci hcb hcb
  have X2 : Hid _ := rows3 w n 4 3 4 hcb hci hcb
  have X3 : Hid _ := rows3 w n 4 4 3 hcb hcb hci
  clear hci hcb
  go_enter Try.func9, Try.ntmps9
  go_wp2
  go_region
  all_goals
    go_wp2
    go_ret2
    refine ⟨rfl, ?_⟩
    clear mki mkb
    first
    | exact dt_new h1 h8 X1.out.1 X1.out.2.1 X1.out.2.2.1 (by omega) (by omega) (by omega) X1.out.2.2.2.1 X1.out.2.2.2.2 (by omega) (by omega) (by omega)
    | exact dt_new h1 h8 X1.out.1 X1.out.2.2.1 X1.out.2.1 (by omega) (by omega) (by omega) X1.out.2.2.2.1 X1.out.2.2.2.2 (by omega) (by omega) (by omega)
    | exact dt_new h1 h8 X2.out.2.1 X2.out.1 X2.out.2.2.1 (by omega) (by omega) (by omega) X2.out.2.2.2.1 X2.out.2.2.2.2 (by omega) (by omega) (by omega)
    | exact dt_new h1 h8 X2.out.2.1 X2.out.2.2.1 X2.out.1 (by omega) (by omega) (by omega) X2.out.2.2.2.1 X2.out.2.2.2.2 (by omega) (by omega) (by omega)
    | exact dt_new h1 h8 X3.out.2.2.1 X3.out.1 X3.out.2.1 (by omega) (by omega) (by omega) X3.out.2.2.2.1 X3.out.2.2.2.2 (by omega) (by omega) (by omega)
    | exact dt_new h1 h8 X3.out.2.2.1 X3.out.2.1 X3.out.1 (by omega) (by omega) (by omega) X3.out.2.2.2.1 X3.out.2.2.2.2 (by omega) (by omega) (by omega)
end Go.Proofs.Ytdfjmnckgcpmgaa
