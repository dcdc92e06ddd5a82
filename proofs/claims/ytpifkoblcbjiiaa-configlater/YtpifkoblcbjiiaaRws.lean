/- Proved: rows of integers that calls have made. -/
import Derived.Test.YtpifkoblcbjiiaaAbv
namespace Go.Proofs.Ytpifkoblcbjiiaa
open Go.RowKit Go.Shelf
set_option linter.unusedVariables false

/-- A row of integers that a call has made since w. -/
def Row (w : World) (W : World) (v : Value) (xs : List Int) : Prop := W.ownsRow w.heap.size 3 1 v xs.length (xs.map (Value.int .i64)) ∧ Below w.heap.size w W
theorem Row.below {w W W' : World} {v : Value} {xs : List Int} (h : Row w W v xs) (hb : Below W.heap.size W W') : Row w W' v xs := by
  refine ⟨⟨h.1.1, ?_⟩, h.2.trans (hb.mono h.2.size)⟩
  rcases h.1.2 with g | ⟨g, cap, cur, h1, h2, h3, h4⟩
  · exact .inl g
  · exact .inr ⟨g, cap, cur, h1, h2, (hb.block g (Array.getElem?_eq_some_iff.1 h3).1).trans h3, h4⟩
theorem Row.nil (w : World) : Row w w (.slice none 0 0) [] := ⟨World.ownsRow_nil _ _ _ _, Below.refl _ _⟩
/-- What append has made of a row. -/
theorem Row.app {w W w1 : World} {v v' : Value} {xs : List Int} {x : Int} {o : Obj} (h : Row w W v xs) (hown : w1.ownsRow w.heap.size 3 1 v' (xs.length + 1) (xs.map (Value.int .i64) ++ [.int .i64 x])) (hg : (W.alloc o).grownBy w1 v.ownBlock) : Row w w1 v' (xs ++ [x]) := by
  refine ⟨by simpa using hown, ?_⟩
  have h1 : Below w.heap.size w (W.alloc o) := h.2.alloc h.2.size _
  exact h1.grown hg h1.size (fun k e => row_ge h.1 e)
theorem Row.rd {w W : World} {v : Value} {xs : List Int} (h : Row w W v xs) : ∃ a c, v = .slice a xs.length c ∧ RdI W W.heap.size a xs := rdI_of_row h.1
theorem Row.one {w : World} {W : World} {v : Value} {xs : List Int} (h : Row w W v xs) : v.oneCell' = true := by
  obtain ⟨a, c, rfl, _⟩ := h.rd
  rfl
theorem Row.empty (w : World) : Row w (w.alloc (.cells #[] 3)) (.slice (some ⟨w.heap.size, 0, none⟩) 0 0) [] := ⟨World.ownsRow_made w #[] 0 (Nat.le_refl _) (Nat.zero_le _) (by simp), (Below.refl _ _).alloc (Nat.le_refl _) _⟩
theorem mem_nth (xs : List Int) (v : Int) : v ∈ xs ↔ ∃ j, j < xs.length ∧ nthI xs j = v := by
  rw [List.mem_iff_getElem]
  constructor
  · rintro ⟨i, hi, rfl⟩; exact ⟨i, hi, by simp [nthI, hi]⟩
  · rintro ⟨i, hi, rfl⟩; exact ⟨i, hi, by simp [nthI, hi]⟩
end Go.Proofs.Ytpifkoblcbjiiaa
