/- Proved: slices of calls that came in, and a call in a box of its own. -/
import Derived.Test.YtkbldbbhcdiihaaIfc
namespace Go.Proofs.Ytkbldbbhcdiihaa
open Go.RowKit Go.Shelf
set_option linter.unusedVariables false

/-- A call: its kind, the federate, the class, whether. -/
abbrev St := Int × Int × Int × Bool
def encS (s : St) : List Value := [.int .i64 s.1, .int .i64 s.2.1, .int .i64 s.2.2.1, .bool s.2.2.2]
def nthS (l : List St) (i : Nat) : St := l.getD i (0, 0, 0, false)
/-- A slice of calls that came in. -/
def InS (w : World) (a : Option Addr) (n : Nat) (l : List St) : Prop :=
  l.length = n ∧ (n ≠ 0 → ∃ b off, a = some ⟨b, off, none⟩ ∧ b < w.heap.size ∧ ∀ i, i < l.length → ∀ c, c < 4 → w.cell? ⟨b, off + i * 4 + c, none⟩ = (encS (nthS l i))[c]?)
theorem InS.cells {w W : World} {a : Option Addr} {n : Nat} {l : List St} (h : InS w a n l) (hb : Below w.heap.size w W) {i : Nat} (hi : i < n) {x : St} (hx : nthS l i = x) :
    ∃ b off, a = some ⟨b, off, none⟩ ∧ W.cell? ⟨b, off + i * 4, none⟩ = some (.int .i64 x.1) ∧ W.cell? ⟨b, off + i * 4 + 1, none⟩ = some (.int .i64 x.2.1) ∧ W.cell? ⟨b, off + i * 4 + 2, none⟩ = some (.int .i64 x.2.2.1) ∧ W.cell? ⟨b, off + i * 4 + 3, none⟩ = some (.bool x.2.2.2) := by
  obtain ⟨hl, h⟩ := h
  obtain ⟨b, off, e, hb', hc⟩ := h (by omega)
  have g : ∀ c, c < 4 → W.cell? ⟨b, off + i * 4 + c, none⟩ = (encS x)[c]? := fun c h4 => by
    rw [(hb.cell (p := ⟨b, off + i * 4 + c, none⟩) hb'), hc i (by omega) c h4, hx]
  exact ⟨b, off, e, g 0 (by omega), g 1 (by omega), g 2 (by omega), g 3 (by omega)⟩
def BoxS (W : World) (B : Nat) (x : St) : Prop := W.cell? ⟨B, 0, none⟩ = some (.int .i64 x.1) ∧ W.cell? ⟨B, 1, none⟩ = some (.int .i64 x.2.1) ∧ W.cell? ⟨B, 2, none⟩ = some (.int .i64 x.2.2.1) ∧ W.cell? ⟨B, 3, none⟩ = some (.bool x.2.2.2)
theorem BoxS.lt {W : World} {B : Nat} {x : St} (h : BoxS W B x) : B < W.heap.size := clt h.1
theorem BoxS.keep {S : Nat → Prop} {W W2 : World} {B : Nat} {x : St} (h : BoxS W B x) (hf : Fr S W W2) (hS : ¬ S B) : BoxS W2 B x :=
  ⟨(hf.cell (p := ⟨B, 0, none⟩) h.lt hS).trans h.1, (hf.cell (p := ⟨B, 1, none⟩) h.lt hS).trans h.2.1, (hf.cell (p := ⟨B, 2, none⟩) h.lt hS).trans h.2.2.1, (hf.cell (p := ⟨B, 3, none⟩) h.lt hS).trans h.2.2.2⟩
theorem BoxS.below {W W2 : World} {B : Nat} {x : St} (h : BoxS W B x) (hb : Below W.heap.size W W2) : BoxS W2 B x := h.keep (S := fun _ => False) (Fr.of_below hb) (fun g => g)
theorem BoxS.of {W : World} {B : Nat} {k f c : Int} {is : Bool} {t : TypeId} (h : W.heap[B]? = some (.cells #[.int .i64 k, .int .i64 f, .int .i64 c, .bool is] t (0, 0))) : BoxS W B (k, f, c, is) := by
  refine ⟨?_, ?_, ?_, ?_⟩ <;> simp [World.cell?, h]
theorem BoxS.made (W : World) (k f c : Int) (is : Bool) (t : TypeId) : BoxS (W.alloc (.cells #[.int .i64 k, .int .i64 f, .int .i64 c, .bool is] t)) W.heap.size (k, f, c, is) := BoxS.of (World.alloc_heap_new W _)
end Go.Proofs.Ytkbldbbhcdiihaa
