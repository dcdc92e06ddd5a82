/- Proved: a calendar beside the document's: what the walks of the laws are told of the two. -/
import Derived.Test.YtjkcdkoomipfkaaLaw0
import Derived.Test.YtjkcdkoomipfkaaDoc4
namespace Go.Proofs.Ytjkcdkoomipfkaa
open Go.RowKit Go.Sort Go.Lib
set_option linter.unusedVariables false

theorem kdays' {W : World} {F : Nat → Prop} {qb room day : Nat} {s : List M} (h : PK qb room day s W F) : Calls Try.prog 10 #[.pointer (some ⟨qb, 0, none⟩)] W fun e w' => ∃ uB, e = .returned (.slice (some ⟨uB, 0, none⟩) 8 8) ∧ w'.rowIs uB 3 8 (dayF day s 8) ∧ Below W.heap.size W w' :=
  (kdays h).mono fun e w' ⟨h1, h2, h3⟩ => ⟨_, h1, h2, h3⟩
theorem ddays' {W : World} {F : Nat → Prop} {db rb room day : Nat} {t : List M} (h : PD db rb room day t W F) : Calls Try.prog 22 #[.pointer (some ⟨db, 0, none⟩)] W fun e w' => ∃ uB, e = .returned (.slice (some ⟨uB, 0, none⟩) 8 8) ∧ w'.rowIs uB 3 8 (dayF day t 8) ∧ Below W.heap.size W w' :=
  (ddays h).mono fun e w' ⟨h1, h2, h3⟩ => ⟨_, h1, h2, h3⟩
theorem L2.c0 {w W : World} {Z : Nat → Prop} {P : World → (Nat → Prop) → Prop} {db rb room day : Nat} {t : List M} (h : L2 w W Z P (PD db rb room day t)) : W.cell? ⟨db, 0, none⟩ = some (.pointer (some ⟨rb, 0, none⟩)) := by
  obtain ⟨G, hG⟩ := h.seeQ
  exact hG.c0
theorem L2.db_ne {w W : World} {Z : Nat → Prop} {P : World → (Nat → Prop) → Prop} {db rb room day : Nat} {t : List M} (h : L2 w W Z P (PD db rb room day t)) {B : Nat} (hB : Z B) : ¬ (db = B) ∧ ¬ (B = db) := by
  obtain ⟨F, G, h1, ⟨G0, c0, c1, hr, hn, hv, d1, d2, rfl⟩, h3, h4, h5, h6, h7⟩ := h
  have := (h7 B hB).2.1
  exact ⟨fun e => this (.inl e.symm), fun e => this (.inl e)⟩
theorem day_cell {W : World} {uB day : Nat} {s : List M} (h : W.rowIs uB 3 8 (dayF day s 8)) {j : Nat} (hj : j < 8) : W.cell? ⟨uB, j, none⟩ = some (.int .i64 ((pg day j s).length : Int)) := by
  rw [h.cell hj]
  unfold dayF
  rw [if_pos hj]
theorem row_below {W W2 : World} {uB : Nat} {f : Nat → Value} (h : W.rowIs uB 3 8 f) (hb : Below W.heap.size W W2) : W2.rowIs uB 3 8 f := h.of_block (hb.block _ h.lt)
end Go.Proofs.Ytjkcdkoomipfkaa
