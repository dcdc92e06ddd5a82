/- Joined: the texts that follow, each with its own sentence. -/
import Derived.Test.YtiaopafkfadmkabGreatZGa
/- Proved: items (a kind, a message, a colour) as plain data, how they lie in a row; when two rows of messages, or of items, are the same. -/
namespace Go.Proofs.YtiaopafkfadmkabGreat.G
open Go.Proofs.YtiaopafkfadmkabGreat.B
open Go.RowKit Go.Shelf Go.Sort
set_option linter.unusedVariables false

/-- An item: its kind, its message, its colour. -/
abbrev It := Int × M × Int
def encI (x : It) : List Value := [.int .i64 x.1, .int .i64 x.2.1.1.1, .int .i64 x.2.1.1.2.1, .int .i64 x.2.1.1.2.2, .int .i64 x.2.1.2.1, .int .i64 x.2.1.2.2.1, .int .i64 x.2.1.2.2.2, .int .i64 x.2.2]
theorem encI_one (x : It) : ∀ v ∈ encI x, v.oneCell' = true := by
  intro v hv
  simp [encI] at hv
  rcases hv with rfl | rfl | rfl | rfl | rfl | rfl | rfl | rfl <;> rfl
def cI : Cd It := ⟨encI, 8, (0, ((0, 0, 0), 0, 0, 0), 0), fun _ => rfl, encI_one, by decide⟩
def tyI : Ty cI 33 41 := ⟨.agg #[.int .i64 0, .int .i64 0, .int .i64 0, .int .i64 0, .int .i64 0, .int .i64 0, .int .i64 0, .int .i64 0], 64, Tryz.underlying33, by kernel_rfl, rfl, by decide⟩
theorem _root_.Go.Proofs.YtiaopafkfadmkabGreat.B.RdN.item {N : Nat → Prop} {W : World} {a : Option Addr} {l : List It} (h : RdN cI N W a l) {i : Nat} (hi : i < l.length) {x : It} (hx : nth cI l i = x) :
    ∃ b off, a = some ⟨b, off, none⟩ ∧ b < W.heap.size ∧ N b ∧ W.cell? ⟨b, off + i * 8, none⟩ = some (.int .i64 x.1) ∧ W.cell? ⟨b, off + i * 8 + 1, none⟩ = some (.int .i64 x.2.1.1.1) ∧ W.cell? ⟨b, off + i * 8 + 2, none⟩ = some (.int .i64 x.2.1.1.2.1) ∧ W.cell? ⟨b, off + i * 8 + 3, none⟩ = some (.int .i64 x.2.1.1.2.2) ∧ W.cell? ⟨b, off + i * 8 + 4, none⟩ = some (.int .i64 x.2.1.2.1) ∧ W.cell? ⟨b, off + i * 8 + 5, none⟩ = some (.int .i64 x.2.1.2.2.1) ∧ W.cell? ⟨b, off + i * 8 + 6, none⟩ = some (.int .i64 x.2.1.2.2.2) ∧ W.cell? ⟨b, off + i * 8 + 7, none⟩ = some (.int .i64 x.2.2) := by
  obtain ⟨b, off, rfl, hB, hb, hc⟩ := h (by intro e; simp [e] at hi)
  subst hx
  have g := hc i hi
  exact ⟨b, off, rfl, hB, hb, g 0 (by decide), g 1 (by decide), g 2 (by decide), g 3 (by decide), g 4 (by decide), g 5 (by decide), g 6 (by decide), g 7 (by decide)⟩
end Go.Proofs.YtiaopafkfadmkabGreat.G
