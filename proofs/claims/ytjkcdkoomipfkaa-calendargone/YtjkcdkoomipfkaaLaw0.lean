/- Proved: a call in a block of its own; what is told of pushes, and of slices that stay. -/
import Derived.Test.YtjkcdkoomipfkaaLawC
namespace Go.Proofs.Ytjkcdkoomipfkaa
open Go.RowKit Go.Sort Go.Lib
set_option linter.unusedVariables false

def BoxS (W : World) (B : Nat) (x : St) : Prop := ∀ j, j < 7 → W.cell? ⟨B, j, none⟩ = (encS x)[j]?
theorem BoxS.cells {W : World} {B : Nat} {x : St} (h : BoxS W B x) : W.cell? ⟨B, 0, none⟩ = some (.int .i64 x.1) ∧ W.cell? ⟨B, 1, none⟩ = some (.int .i64 x.2.1.1) ∧ W.cell? ⟨B, 2, none⟩ = some (.int .i64 x.2.1.2.1) ∧ W.cell? ⟨B, 3, none⟩ = some (.int .i64 x.2.1.2.2) ∧ W.cell? ⟨B, 4, none⟩ = some (.int .i64 x.2.2.1) ∧ W.cell? ⟨B, 5, none⟩ = some (.int .i64 x.2.2.2.1) ∧ W.cell? ⟨B, 6, none⟩ = some (.int .i64 x.2.2.2.2) :=
  ⟨h 0 (by omega), h 1 (by omega), h 2 (by omega), h 3 (by omega), h 4 (by omega), h 5 (by omega), h 6 (by omega)⟩
theorem BoxS.lt {W : World} {B : Nat} {x : St} (h : BoxS W B x) : B < W.heap.size := cell_lt h.cells.1
theorem BoxS.made (W : World) (x : St) : BoxS (W.alloc (.cells #[.int .i64 x.1, .int .i64 x.2.1.1, .int .i64 x.2.1.2.1, .int .i64 x.2.1.2.2, .int .i64 x.2.2.1, .int .i64 x.2.2.2.1, .int .i64 x.2.2.2.2] 34)) W.heap.size x := by
  intro j hj
  simp only [World.cell?, heap_alloc_new]
  simp [encS, enc]
theorem BoxS.keep {S : Nat → Prop} {W W2 : World} {B : Nat} {x : St} (h : BoxS W B x) (hf : Fr S W W2) (hS : ¬ S B) : BoxS W2 B x :=
  fun j hj => (hf.cell (p := ⟨B, j, none⟩) h.lt hS).trans (h j hj)
theorem BoxS.below {W W2 : World} {B : Nat} {x : St} (h : BoxS W B x) (hb : Below W.heap.size W W2) : BoxS W2 B x := h.keep (S := fun _ => False) (Fr.of_below hb) (fun g => g)
theorem own_below {W W2 : World} {v : Value} {l : List M} (h : Own W v l) (hb : Below W.heap.size W W2) : Own W2 v l := h.keep (S := fun _ => False) (Fr.of_below hb) (fun _ _ g => g)
theorem bdrew (W : World) (n : Nat) : Below W.heap.size W (W.drewN n) := below_drewN (Below.refl _ _) n
theorem clamp64 : clampR 64 = 64 := rfl
theorem cpush_neg (s : List M) (room : Nat) : cpushC s room ((-1, 0, 0), 0, 0, 0) = 1 := by simp [cpushC, vt]
theorem i64_64 : i64 64 := by unfold i64; omega
end Go.Proofs.Ytjkcdkoomipfkaa
