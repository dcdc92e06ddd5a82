/- Proved: when two items are one, as the program tells it. -/
import Derived.Test.YtkngokpildoljaaBas
import Derived.DeepKeys4
namespace Go.Proofs.Ytkngokpildoljaa
open Go.RowKit Go.Shelf
set_option linter.unusedVariables false

def sameI (x y : It) : Bool := decide (x.k = y.k ∧ ((x.t = y.t ∧ x.fr = y.fr ∧ x.sq = y.sq) ∧ x.dst = y.dst ∧ x.cl = y.cl ∧ x.bd = y.bd) ∧ x.co = y.co)
theorem sameI_iff (x y : It) : sameI x y = true ↔ x = y := by
  unfold sameI
  rw [decide_eq_true_iff]
  constructor
  · rintro ⟨h1, ⟨⟨h2, h3, h4⟩, h5, h6, h7⟩, h8⟩
    exact It.same h1 h2 h3 h4 h5 h6 h7 h8
  · rintro rfl
    simp
theorem sameI_self (x : It) : sameI x x = true := (sameI_iff x x).2 rfl
theorem sameI_no {x y : It} (h : x ≠ y) : sameI x y = false := by
  cases e : sameI x y
  · rfl
  · exact absurd ((sameI_iff x y).1 e) h
theorem equalK (a1 a2 a3 b1 b2 b3 : Int) (w : World) : (Op.equalIn 9998 31 (.agg #[.int .i64 a1, .int .i64 a2, .int .i64 a3]) (.agg #[.int .i64 b1, .int .i64 b2, .int .i64 b3])).run Try.prog w = .ok (decide (a1 = b1 ∧ a2 = b2 ∧ a3 = b3)) w := by
  have u3 := Try.underlying3
  have a3' := Try.isAgg3
  have z3 := Try.sizeOf3
  have hS : Try.prog.underlying 31 = some (.struct (Try.prog.fieldsOf 31)) := by kernel_rfl
  have hp : Try.prog.stoodInHeld 31 = false := by kernel_rfl
  rw [show (9998 : Nat) = 9997 + 1 from rfl, run_equalIn_agg w 9997 31 _ _ hS hp]
  simp only [Program.fieldsOf, Try.underlying31]
  go_simp
  by_cases h1 : a1 = b1 <;> by_cases h2 : a2 = b2 <;> by_cases h3 : a3 = b3 <;> simp [h1, h2, h3]
theorem equalM (a1 a2 a3 a4 a5 a6 b1 b2 b3 b4 b5 b6 : Int) (w : World) : (Op.equalIn 9999 33 (.agg #[.int .i64 a1, .int .i64 a2, .int .i64 a3, .int .i64 a4, .int .i64 a5, .int .i64 a6]) (.agg #[.int .i64 b1, .int .i64 b2, .int .i64 b3, .int .i64 b4, .int .i64 b5, .int .i64 b6])).run Try.prog w = .ok (decide ((a1 = b1 ∧ a2 = b2 ∧ a3 = b3) ∧ a4 = b4 ∧ a5 = b5 ∧ a6 = b6)) w := by
  obtain ⟨r, hr⟩ : ∃ r, decide ((a1 = b1 ∧ a2 = b2 ∧ a3 = b3) ∧ a4 = b4 ∧ a5 = b5 ∧ a6 = b6) = r := ⟨_, rfl⟩
  rw [hr]
  have HR : Hid _ := hr
  clear hr
  have u3 := Try.underlying3
  have a3' := Try.isAgg3
  have z3 := Try.sizeOf3
  have aK := Try.isAgg31
  have zK := Try.sizeOf31
  have eK := equalK a1 a2 a3 b1 b2 b3
  obtain ⟨d, hd⟩ : ∃ d, decide (a1 = b1 ∧ a2 = b2 ∧ a3 = b3) = d := ⟨_, rfl⟩
  rw [hd] at eK
  have HD : Hid _ := hd
  clear hd
  have hS : Try.prog.underlying 33 = some (.struct (Try.prog.fieldsOf 33)) := by kernel_rfl
  have hp : Try.prog.stoodInHeld 33 = false := by kernel_rfl
  rw [show (9999 : Nat) = 9998 + 1 from rfl, run_equalIn_agg w 9998 33 _ _ hS hp]
  simp only [Program.fieldsOf, Try.underlying33]
  go_simp
  cases d
  · have h0 := of_decide_eq_false HD.out
    have hr : r = false := by rw [← HR.out]; exact decide_eq_false (fun g => h0 g.1)
    rw [hr]
    simp
  · obtain ⟨g1, g2, g3⟩ := of_decide_eq_true HD.out
    have hr := HR.out
    by_cases h1 : a4 = b4 <;> by_cases h2 : a5 = b5 <;> by_cases h3 : a6 = b6 <;> simp [g1, g2, g3, h1, h2, h3] at hr ⊢ <;> simp [← hr]
theorem equalI (x y : It) (w : World) : (Op.equalIn 10000 35 (iv x) (iv y)).run Try.prog w = .ok (sameI x y) w := by
  obtain ⟨a0, a1, a2, a3, a4, a5, a6, a7⟩ := x
  obtain ⟨b0, b1, b2, b3, b4, b5, b6, b7⟩ := y
  obtain ⟨r, hr⟩ : ∃ r, sameI ⟨a0, a1, a2, a3, a4, a5, a6, a7⟩ ⟨b0, b1, b2, b3, b4, b5, b6, b7⟩ = r := ⟨_, rfl⟩
  rw [hr]
  have HR : Hid _ := hr
  clear hr
  have u3 := Try.underlying3
  have a3' := Try.isAgg3
  have z3 := Try.sizeOf3
  have aM := Try.isAgg33
  have zM := Try.sizeOf33
  have eM := equalM a1 a2 a3 a4 a5 a6 b1 b2 b3 b4 b5 b6
  obtain ⟨d, hd⟩ : ∃ d, decide ((a1 = b1 ∧ a2 = b2 ∧ a3 = b3) ∧ a4 = b4 ∧ a5 = b5 ∧ a6 = b6) = d := ⟨_, rfl⟩
  rw [hd] at eM
  have HD : Hid _ := hd
  clear hd
  have hS : Try.prog.underlying 35 = some (.struct (Try.prog.fieldsOf 35)) := by kernel_rfl
  have hp : Try.prog.stoodInHeld 35 = false := by kernel_rfl
  rw [show (10000 : Nat) = 9999 + 1 from rfl, run_equalIn_agg w 9999 35 _ _ hS hp]
  simp only [Program.fieldsOf, Try.underlying35]
  go_simp
  cases d
  · have h0 := of_decide_eq_false HD.out
    have hr : r = false := by rw [← HR.out]; exact decide_eq_false (fun g => h0 g.2.1)
    rw [hr]
    by_cases h1 : a0 = b0 <;> simp [h1]
  · obtain ⟨⟨g1, g2, g3⟩, g4, g5, g6⟩ := of_decide_eq_true HD.out
    have hr := HR.out
    unfold sameI at hr
    by_cases h1 : a0 = b0 <;> by_cases h2 : a7 = b7 <;> simp [g1, g2, g3, g4, g5, g6, h1, h2] at hr ⊢ <;> simp [← hr]
theorem neqI (x y : It) (w : World) : (binOp .neq 35 (iv x) (iv y)).run Try.prog w = .ok (.bool (!sameI x y)) w := by
  rw [run_neq_struct, equalI]; rfl
end Go.Proofs.Ytkngokpildoljaa
