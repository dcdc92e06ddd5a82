/- Proved: a call in a block of its own; the first message of both queues. -/
import Derived.Test.YtnldbnlbfmjcbaaLGone
namespace Go.Proofs.Ytnldbnlbfmjcbaa
open Go.RowKit Go.Sort
set_option linter.unusedVariables false

def BoxS (W : World) (B : Nat) (x : St) : Prop := ∀ j, j < 7 → W.cell? ⟨B, j, none⟩ = (encS x)[j]?
theorem BoxS.cells {W : World} {B : Nat} {x : St} (h : BoxS W B x) : W.cell? ⟨B, 0, none⟩ = some (.int .i64 x.1) ∧ W.cell? ⟨B, 1, none⟩ = some (.int .i64 x.2.1.1) ∧ W.cell? ⟨B, 2, none⟩ = some (.int .i64 x.2.1.2.1) ∧ W.cell? ⟨B, 3, none⟩ = some (.int .i64 x.2.1.2.2) ∧ W.cell? ⟨B, 4, none⟩ = some (.int .i64 x.2.2.1) ∧ W.cell? ⟨B, 5, none⟩ = some (.int .i64 x.2.2.2.1) ∧ W.cell? ⟨B, 6, none⟩ = some (.int .i64 x.2.2.2.2) :=
  ⟨h 0 (by omega), h 1 (by omega), h 2 (by omega), h 3 (by omega), h 4 (by omega), h 5 (by omega), h 6 (by omega)⟩
theorem BoxS.lt {W : World} {B : Nat} {x : St} (h : BoxS W B x) : B < W.heap.size := cell_lt h.cells.1
theorem BoxS.made (W : World) (x : St) : BoxS (W.alloc (.cells #[.int .i64 x.1, .int .i64 x.2.1.1, .int .i64 x.2.1.2.1, .int .i64 x.2.1.2.2, .int .i64 x.2.2.1, .int .i64 x.2.2.2.1, .int .i64 x.2.2.2.2] 32)) W.heap.size x := by
  intro j hj
  simp only [World.cell?, heap_alloc_new]
  simp [encS, enc]
theorem BoxS.keep {S : Nat → Prop} {W W2 : World} {B : Nat} {x : St} (h : BoxS W B x) (hf : Fr S W W2) (hS : ¬ S B) : BoxS W2 B x :=
  fun j hj => (hf.cell (p := ⟨B, j, none⟩) h.lt hS).trans (h j hj)
theorem BoxS.below {W W2 : World} {B : Nat} {x : St} (h : BoxS W B x) (hb : Below W.heap.size W W2) : BoxS W2 B x := h.keep (S := fun _ => False) (Fr.of_below hb) (fun g => g)
theorem zfq {w W : World} {Z : Nat → Prop} {qb rb room : Nat} {s t : List M} (h : LRZ w W Z qb rb room s t) : Calls Try.prog 13 #[.pointer (some ⟨qb, 0, none⟩)] W fun e w' => e = .returned (.tuple #[mv (s.headD zeroM), .bool (!s.isEmpty)]) ∧ Below W.heap.size W w' := by
  obtain ⟨F, G, h1, h2, h3, h4, h5, h6, h7⟩ := h
  exact first_any h1
theorem zfr {w W : World} {Z : Nat → Prop} {qb rb room : Nat} {s t : List M} (h : LRZ w W Z qb rb room s t) : Calls Try.prog 14 #[.pointer (some ⟨rb, 0, none⟩)] W fun e w' => e = .returned (.tuple #[mv (t.headD zeroM), .bool (!t.isEmpty)]) ∧ Below W.heap.size W w' := by
  obtain ⟨F, G, h1, h2, h3, h4, h5, h6, h7⟩ := h
  exact rfirst_any h2
end Go.Proofs.Ytnldbnlbfmjcbaa
