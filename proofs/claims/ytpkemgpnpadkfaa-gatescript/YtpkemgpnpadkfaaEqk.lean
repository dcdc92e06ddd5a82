/- Proved: when two keys, and two messages, are one, as the program tells it; the functions that tell those that go. -/
import Derived.Test.YtpkemgpnpadkfaaPar
import Derived.DeepKeys4
namespace Go.Proofs.Ytpkemgpnpadkfaa
open Go.RowKit Go.Shelf Go.Sort
set_option linter.unusedVariables false

theorem equalK (n : Nat) (a1 a2 a3 b1 b2 b3 : Int) (w : World) : (Op.equalIn (n + 2) 28 (.agg #[.int .i64 a1, .int .i64 a2, .int .i64 a3]) (.agg #[.int .i64 b1, .int .i64 b2, .int .i64 b3])).run Try.prog w = .ok (decide (a1 = b1 ∧ a2 = b2 ∧ a3 = b3)) w := by
  have u3 := Try.underlying3
  have a3' := Try.isAgg3
  have z3 := Try.sizeOf3
  have hS : Try.prog.underlying 28 = some (.struct (Try.prog.fieldsOf 28)) := by kernel_rfl
  have hp : Try.prog.stoodInHeld 28 = false := by kernel_rfl
  rw [show n + 2 = (n + 1) + 1 from rfl, run_equalIn_agg w (n + 1) 28 _ _ hS hp]
  simp only [Program.fieldsOf, Try.underlying28]
  go_simp
  by_cases h1 : a1 = b1 <;> by_cases h2 : a2 = b2 <;> by_cases h3 : a3 = b3 <;> simp [h1, h2, h3]
theorem equalM (n : Nat) (a1 a2 a3 a4 a5 a6 b1 b2 b3 b4 b5 b6 : Int) (w : World) : (Op.equalIn (n + 3) 30 (.agg #[.int .i64 a1, .int .i64 a2, .int .i64 a3, .int .i64 a4, .int .i64 a5, .int .i64 a6]) (.agg #[.int .i64 b1, .int .i64 b2, .int .i64 b3, .int .i64 b4, .int .i64 b5, .int .i64 b6])).run Try.prog w = .ok (decide ((a1 = b1 ∧ a2 = b2 ∧ a3 = b3) ∧ a4 = b4 ∧ a5 = b5 ∧ a6 = b6)) w := by
  obtain ⟨r, hr⟩ : ∃ r, decide ((a1 = b1 ∧ a2 = b2 ∧ a3 = b3) ∧ a4 = b4 ∧ a5 = b5 ∧ a6 = b6) = r := ⟨_, rfl⟩
  rw [hr]
  have HR : Hid _ := hr
  clear hr
  have u3 := Try.underlying3
  have a3' := Try.isAgg3
  have z3 := Try.sizeOf3
  have aK := Try.isAgg28
  have zK := Try.sizeOf28
  have eK := equalK n a1 a2 a3 b1 b2 b3
  obtain ⟨d, hd⟩ : ∃ d, decide (a1 = b1 ∧ a2 = b2 ∧ a3 = b3) = d := ⟨_, rfl⟩
  rw [hd] at eK
  have HD : Hid _ := hd
  clear hd
  have hS : Try.prog.underlying 30 = some (.struct (Try.prog.fieldsOf 30)) := by kernel_rfl
  have hp : Try.prog.stoodInHeld 30 = false := by kernel_rfl
  rw [show n + 3 = (n + 2) + 1 from rfl, run_equalIn_agg w (n + 2) 30 _ _ hS hp]
  simp only [Program.fieldsOf, Try.underlying30]
  go_simp
  cases d
  · have h0 := of_decide_eq_false HD.out
    have hr : r = false := by rw [← HR.out]; exact decide_eq_false (fun g => h0 g.1)
    rw [hr]
    simp
  · obtain ⟨g1, g2, g3⟩ := of_decide_eq_true HD.out
    have hr := HR.out
    by_cases h1 : a4 = b4 <;> by_cases h2 : a5 = b5 <;> by_cases h3 : a6 = b6 <;> simp [g1, g2, g3, h1, h2, h3] at hr ⊢ <;> simp [← hr]
def sameK (a b : K) : Bool := decide (a = b)
theorem sameK_of (a b : K) : sameK a b = decide (a.1 = b.1 ∧ a.2.1 = b.2.1 ∧ a.2.2 = b.2.2) := by
  obtain ⟨a1, a2, a3⟩ := a
  obtain ⟨b1, b2, b3⟩ := b
  unfold sameK
  simp
theorem eqlK (a b : K) (w : World) : (binOp .eql 28 (kv a) (kv b)).run Try.prog w = .ok (.bool (sameK a b)) w := by
  rw [run_eql_struct, sameK_of]
  rw [show (10000 : Nat) = 9998 + 2 from rfl, equalK]
  rfl
theorem neqK (a b : K) (w : World) : (binOp .neq 28 (kv a) (kv b)).run Try.prog w = .ok (.bool (!sameK a b)) w := by
  rw [run_neq_struct, sameK_of]
  rw [show (10000 : Nat) = 9998 + 2 from rfl, equalK]
  rfl
def sameM (a b : M) : Bool := decide (a = b)
theorem sameM_of (a b : M) : sameM a b = decide ((a.1.1 = b.1.1 ∧ a.1.2.1 = b.1.2.1 ∧ a.1.2.2 = b.1.2.2) ∧ a.2.1 = b.2.1 ∧ a.2.2.1 = b.2.2.1 ∧ a.2.2.2 = b.2.2.2) := by
  obtain ⟨⟨a1, a2, a3⟩, a4, a5, a6⟩ := a
  obtain ⟨⟨b1, b2, b3⟩, b4, b5, b6⟩ := b
  unfold sameM
  simp
theorem neqM (a b : M) (w : World) : (binOp .neq 30 (mv a) (mv b)).run Try.prog w = .ok (.bool (!sameM a b)) w := by
  rw [run_neq_struct, sameM_of]
  rw [show (10000 : Nat) = 9997 + 3 from rfl, equalM]
  rfl

/-! ### Those that go -/
set_option maxHeartbeats 1000000 in
theorem drop_fn {w : World} {kb : Nat} (k : K) (hb : w.heap[kb]? = some (.cells #[.int .i64 k.1, .int .i64 k.2.1, .int .i64 k.2.2] 28 (0, 0))) : Goes w 26 #[.pointer (some ⟨kb, 0, none⟩)] (fun x => !befK k x) := by
  refine ⟨enters_of Try.func26 (by kernel_rfl) rfl, fun W hW x => ?_⟩
  obtain ⟨k1, k2, k3⟩ := k
  have hbW := (hW.block kb (Array.getElem?_eq_some_iff.1 hb).1).trans hb
  have c0 := cellB hbW 0
  have c1 := cellB hbW 1
  have c2 := cellB hbW 2
  have hlt : kb < W.heap.size := (Array.getElem?_eq_some_iff.1 hbW).1
  simp only [List.getElem?_toArray, List.getElem?_cons_zero, List.getElem?_cons_succ] at c0 c1 c2
  obtain ⟨⟨a1, a2, a3⟩, ⟨a4, a5, a6⟩, a7, a8, a9⟩ := x
  have hc := fun W => cmp_any (a1, a2, a3) (k1, k2, k3) W
  have hz : (!befK (k1, k2, k3) ((a1, a2, a3), (a4, a5, a6), a7, a8, a9)) = decide (0 ≤ kcmp (a1, a2, a3) (k1, k2, k3)) := by
    show (!decide (kcmp (a1, a2, a3) (k1, k2, k3) < 0)) = _
    rw [Bool.eq_iff_iff]
    simp
  show Calls Try.prog 26 #[hv ((a1, a2, a3), (a4, a5, a6), a7, a8, a9), .pointer (some ⟨kb, 0, none⟩)] W fun e w' => e = .returned (.bool (!befK (k1, k2, k3) ((a1, a2, a3), (a4, a5, a6), a7, a8, a9))) ∧ Below W.heap.size W w'
  rw [hz]
  generalize kcmp (a1, a2, a3) (k1, k2, k3) = r at hc ⊢
  clear hz hb hbW hW
  go_enter Try.func26, Try.ntmps26
  go_wp2_with (go_at_call 27; refine (hc _).mono ?_; rintro e w' ⟨rfl, q, os, rfl⟩)
  go_ret
  exact ⟨rfl, Below.on (al _ _) (below_grow _ _ _)⟩
set_option maxHeartbeats 1000000 in
theorem open_fn {w : World} {kb : Nat} (t : Int) (hb : w.heap[kb]? = some (.cells #[.int .i64 t] 3 (0, 0))) : Goes w 28 #[.pointer (some ⟨kb, 0, none⟩)] (low t) := by
  refine ⟨enters_of Try.func28 (by kernel_rfl) rfl, fun W hW x => ?_⟩
  have hbW := (hW.block kb (Array.getElem?_eq_some_iff.1 hb).1).trans hb
  have c0 := cellB hbW 0
  have hlt : kb < W.heap.size := (Array.getElem?_eq_some_iff.1 hbW).1
  simp only [List.getElem?_toArray, List.getElem?_cons_zero] at c0
  obtain ⟨⟨a1, a2, a3⟩, ⟨a4, a5, a6⟩, a7, a8, a9⟩ := x
  clear hb hbW hW
  show Calls Try.prog 28 #[hv ((a1, a2, a3), (a4, a5, a6), a7, a8, a9), .pointer (some ⟨kb, 0, none⟩)] W _
  go_enter Try.func28, Try.ntmps28
  go_wp2
  go_ret
  exact ⟨rfl, al _ _⟩
set_option maxHeartbeats 1000000 in
theorem retract_fn {w : World} {kb : Nat} (k : K) (hb : w.heap[kb]? = some (.cells #[.int .i64 k.1, .int .i64 k.2.1, .int .i64 k.2.2] 28 (0, 0))) : Goes w 31 #[.pointer (some ⟨kb, 0, none⟩)] (hasK k) := by
  refine ⟨enters_of Try.func31 (by kernel_rfl) rfl, fun W hW x => ?_⟩
  obtain ⟨k1, k2, k3⟩ := k
  have hbW := (hW.block kb (Array.getElem?_eq_some_iff.1 hb).1).trans hb
  have c0 := cellB hbW 0
  have c1 := cellB hbW 1
  have c2 := cellB hbW 2
  have hlt : kb < W.heap.size := (Array.getElem?_eq_some_iff.1 hbW).1
  simp only [List.getElem?_toArray, List.getElem?_cons_zero, List.getElem?_cons_succ] at c0 c1 c2
  obtain ⟨⟨a1, a2, a3⟩, ⟨a4, a5, a6⟩, a7, a8, a9⟩ := x
  have hq := eqlK (a4, a5, a6) (k1, k2, k3)
  have hz : hasK (k1, k2, k3) ((a1, a2, a3), (a4, a5, a6), a7, a8, a9) = sameK (a4, a5, a6) (k1, k2, k3) := rfl
  rw [hz]
  dsimp only [kv] at hq
  generalize sameK (a4, a5, a6) (k1, k2, k3) = r at hq ⊢
  clear hz hb hbW hW
  show Calls Try.prog 31 #[hv ((a1, a2, a3), (a4, a5, a6), a7, a8, a9), .pointer (some ⟨kb, 0, none⟩)] W _
  go_enter Try.func31, Try.ntmps31
  go_wp2
  go_ret
  exact ⟨rfl, al _ _⟩
end Go.Proofs.Ytpkemgpnpadkfaa
