/- Proved: an item in a block of its own, written again. -/
import Derived.Test.YtkngokpildoljaaNe0
namespace Go.Proofs.Ytkngokpildoljaa
open Go.RowKit Go.Shelf
set_option linter.unusedVariables false

/-- An item in a block of its own. -/
structure BoxT (w : World) (B : Nat) (x : It) : Prop where
  b : w.heap[B]? = some (.cells (ics x) 35 (0, 0))
theorem BoxT.lt {w : World} {B : Nat} {x : It} (h : BoxT w B x) : B < w.heap.size := (Array.getElem?_eq_some_iff.1 h.b).1
theorem BoxT.new (w : World) (x : It) : BoxT (w.alloc (.cells (ics x) 35)) w.heap.size x := ⟨World.alloc_heap_new w _⟩
theorem BoxT.zero (w : World) : BoxT (w.alloc (.cells #[.int .i64 0, .int .i64 0, .int .i64 0, .int .i64 0, .int .i64 0, .int .i64 0, .int .i64 0, .int .i64 0] 35)) w.heap.size it0 := ⟨World.alloc_heap_new w _⟩
theorem BoxT.below {w W : World} {B : Nat} {x : It} (h : BoxT w B x) (hb : Below w.heap.size w W) : BoxT W B x := ⟨(hb.block B h.lt).trans h.b⟩
theorem BoxT.keep {S : Nat → Prop} {w W : World} {B : Nat} {x : It} (h : BoxT w B x) (hf : Fr S w W) (hn : ¬ S B) : BoxT W B x := ⟨(hf.block B h.lt hn).trans h.b⟩
theorem BoxT.drew {w : World} {B : Nat} {x : It} (h : BoxT w B x) : BoxT w.drew B x := ⟨h.b⟩
theorem BoxT.cells {w : World} {B : Nat} {x : It} (h : BoxT w B x) : w.cell? ⟨B, 0, none⟩ = some (.int .i64 x.k) ∧ w.cell? ⟨B, 1, none⟩ = some (.int .i64 x.t) ∧ w.cell? ⟨B, 2, none⟩ = some (.int .i64 x.fr) ∧ w.cell? ⟨B, 3, none⟩ = some (.int .i64 x.sq) ∧ w.cell? ⟨B, 4, none⟩ = some (.int .i64 x.dst) ∧ w.cell? ⟨B, 5, none⟩ = some (.int .i64 x.cl) ∧ w.cell? ⟨B, 6, none⟩ = some (.int .i64 x.bd) ∧ w.cell? ⟨B, 7, none⟩ = some (.int .i64 x.co) :=
  ⟨cellB h.b 0, cellB h.b 1, cellB h.b 2, cellB h.b 3, cellB h.b 4, cellB h.b 5, cellB h.b 6, cellB h.b 7⟩
theorem BoxT.froz {w : World} {B : Nat} {x : It} (h : BoxT w B x) (j : Nat) : w.frozen? ⟨B, j, none⟩ = false := by simp [World.frozen?, h.b]
theorem BoxT.frozs {w : World} {B : Nat} {x : It} (h : BoxT w B x) : w.frozen? ⟨B, 0, none⟩ = false ∧ w.frozen? ⟨B, 1, none⟩ = false ∧ w.frozen? ⟨B, 2, none⟩ = false ∧ w.frozen? ⟨B, 3, none⟩ = false ∧ w.frozen? ⟨B, 4, none⟩ = false ∧ w.frozen? ⟨B, 5, none⟩ = false ∧ w.frozen? ⟨B, 6, none⟩ = false ∧ w.frozen? ⟨B, 7, none⟩ = false :=
  ⟨h.froz 0, h.froz 1, h.froz 2, h.froz 3, h.froz 4, h.froz 5, h.froz 6, h.froz 7⟩
abbrev se8 (w : World) (B : Nat) (x : It) : World := (((((((w.setCell ⟨B, 0, none⟩ (.int .i64 x.k)).setCell ⟨B, 1, none⟩ (.int .i64 x.t)).setCell ⟨B, 2, none⟩ (.int .i64 x.fr)).setCell ⟨B, 3, none⟩ (.int .i64 x.sq)).setCell ⟨B, 4, none⟩ (.int .i64 x.dst)).setCell ⟨B, 5, none⟩ (.int .i64 x.cl)).setCell ⟨B, 6, none⟩ (.int .i64 x.bd)).setCell ⟨B, 7, none⟩ (.int .i64 x.co)
theorem box_set {w : World} {B i : Nat} {cs : Array Value} {t : TypeId} (h : w.heap[B]? = some (.cells cs t (0, 0))) (v : Value) : (w.setCell ⟨B, i, none⟩ v).heap[B]? = some (.cells (cs.setIfInBounds i v) t (0, 0)) := by
  rw [heap_setCell_same w B i _ _ _ h]
theorem sa0 (a b c d e f g h v : Value) : (#[a, b, c, d, e, f, g, h] : Array Value).setIfInBounds 0 v = #[v, b, c, d, e, f, g, h] := rfl
theorem sa1 (a b c d e f g h v : Value) : (#[a, b, c, d, e, f, g, h] : Array Value).setIfInBounds 1 v = #[a, v, c, d, e, f, g, h] := rfl
theorem sa2 (a b c d e f g h v : Value) : (#[a, b, c, d, e, f, g, h] : Array Value).setIfInBounds 2 v = #[a, b, v, d, e, f, g, h] := rfl
theorem sa3 (a b c d e f g h v : Value) : (#[a, b, c, d, e, f, g, h] : Array Value).setIfInBounds 3 v = #[a, b, c, v, e, f, g, h] := rfl
theorem sa4 (a b c d e f g h v : Value) : (#[a, b, c, d, e, f, g, h] : Array Value).setIfInBounds 4 v = #[a, b, c, d, v, f, g, h] := rfl
theorem sa5 (a b c d e f g h v : Value) : (#[a, b, c, d, e, f, g, h] : Array Value).setIfInBounds 5 v = #[a, b, c, d, e, v, g, h] := rfl
theorem sa6 (a b c d e f g h v : Value) : (#[a, b, c, d, e, f, g, h] : Array Value).setIfInBounds 6 v = #[a, b, c, d, e, f, v, h] := rfl
theorem sa7 (a b c d e f g h v : Value) : (#[a, b, c, d, e, f, g, h] : Array Value).setIfInBounds 7 v = #[a, b, c, d, e, f, g, v] := rfl
theorem BoxT.set8 {w : World} {B : Nat} {x : It} (h : BoxT w B x) (y : It) : BoxT (se8 w B y) B y := by
  have h0 := box_set (i := 0) h.b (.int .i64 y.k)
  rw [sa0] at h0
  have h1 := box_set (i := 1) h0 (.int .i64 y.t)
  rw [sa1] at h1
  have h2 := box_set (i := 2) h1 (.int .i64 y.fr)
  rw [sa2] at h2
  have h3 := box_set (i := 3) h2 (.int .i64 y.sq)
  rw [sa3] at h3
  have h4 := box_set (i := 4) h3 (.int .i64 y.dst)
  rw [sa4] at h4
  have h5 := box_set (i := 5) h4 (.int .i64 y.cl)
  rw [sa5] at h5
  have h6 := box_set (i := 6) h5 (.int .i64 y.bd)
  rw [sa6] at h6
  have h7 := box_set (i := 7) h6 (.int .i64 y.co)
  rw [sa7] at h7
  exact ⟨h7⟩
theorem below8 {w W : World} {m B : Nat} (h : Below m w W) (hB : m ≤ B) (x : It) : Below m w (se8 W B x) :=
  (((((((h.setCell (p := ⟨B, 0, none⟩) hB _).setCell (p := ⟨B, 1, none⟩) hB _).setCell (p := ⟨B, 2, none⟩) hB _).setCell (p := ⟨B, 3, none⟩) hB _).setCell (p := ⟨B, 4, none⟩) hB _).setCell (p := ⟨B, 5, none⟩) hB _).setCell (p := ⟨B, 6, none⟩) hB _).setCell (p := ⟨B, 7, none⟩) hB _
theorem fre8 {S : Nat → Prop} {w W : World} {B : Nat} (h : Fr S w W) (hB : S B ∨ w.heap.size ≤ B) (x : It) : Fr S w (se8 W B x) :=
  (((((((h.setCell ⟨B, 0, none⟩ _ hB).setCell ⟨B, 1, none⟩ _ hB).setCell ⟨B, 2, none⟩ _ hB).setCell ⟨B, 3, none⟩ _ hB).setCell ⟨B, 4, none⟩ _ hB).setCell ⟨B, 5, none⟩ _ hB).setCell ⟨B, 6, none⟩ _ hB).setCell ⟨B, 7, none⟩ _ hB
end Go.Proofs.Ytkngokpildoljaa
