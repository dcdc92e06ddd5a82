/- What the writing of a code owns, round by round: facts on worlds, outside the walk. -/
import Derived.Test.YtdnhlabdpciclabTimes
import Derived.Test.YtdnhlabdpciclabBytes
import Derived.LoopTactic
import Derived.Outline
import Derived.Below
import Derived.ProofKit
import Derived.OwnWalk
import Derived.Laws.IdiomStrings
namespace Go.Proofs.Ytdnhlabdpciclab
open Go.RowKit
set_option linter.unusedVariables false

theorem info5 : (Try.prog.info? 5).map (fun i => (i.zero, i.size, i.bytes)) = some (some (.int .u8 0), 1, 1) := by kernel_rfl

def bcells (l : List UInt8) : List Value := l.map fun b => Value.int .u8 (b.toNat : Int)
/-- the slice v is the call's own row of the bytes l; what was there as it began is as it was -/
def Own (B : Nat) (w wr : World) (v : Value) (l : List UInt8) : Prop :=
  wr.ownsRow B 5 1 v l.length (bcells l) ∧ Below B w wr ∧ B ≤ wr.heap.size
/-- block q holds the part: its number and how many bytes -/
def Box (wr : World) (q : Nat) (n s : Int) : Prop := wr.heap[q]? = some (.cells #[.int .i64 n, .int .i64 s] 39 (0, 0))

theorem Box.cells {wr : World} {q : Nat} {n s : Int} (h : Box wr q n s) : wr.cell? ⟨q, 0, none⟩ = some (.int .i64 n) ∧ wr.cell? ⟨q, 1, none⟩ = some (.int .i64 s) := by
  unfold Box at h
  exact ⟨by simp [World.cell?, h], by simp [World.cell?, h]⟩
theorem Box.lt {wr : World} {q : Nat} {n s : Int} (h : Box wr q n s) : q < wr.heap.size := (Array.getElem?_eq_some_iff.1 h).1
theorem Box.ne {wr : World} {q B : Nat} {n s : Int} (h : Box wr q n s) {v : Value} {m : Nat} {xs : List Value} (ho : wr.ownsRow B 5 1 v m xs) : some q ≠ v.ownBlock := by
  intro e
  rcases ho.2 with ⟨rfl, _⟩ | ⟨g, cap, cur, rfl, _, hg, _⟩
  · simp [Value.ownBlock] at e
  · simp [Value.ownBlock] at e
    subst e
    unfold Box at h
    rw [h] at hg
    simp at hg

theorem own_step {B : Nat} {w wr w1 : World} {v v' : Value} {l : List UInt8} {b : UInt8} {q : Nat} {n s : Int} {o : Obj}
    (h : Own B w wr v l) (hx : Box wr q n s)
    (h1 : w1.ownsRow B 5 1 v' (l.length + 1) (bcells l ++ [.int .u8 (b.toNat : Int)])) (hg : (wr.alloc o).grownBy w1 v.ownBlock) :
    Own B w w1 v' (l ++ [b]) ∧ Box w1 q n s := by
  have ho := h.1.alloc o
  have hlt := hx.lt
  have hne := hx.ne h.1
  have hs := hg.size
  simp at hs
  refine ⟨⟨?_, (h.2.1.alloc h.2.2 o).grown hg (by have := h.2.2; simp; omega) (fun k hk => (ho.lt k hk).1), by have := h.2.2; omega⟩, ?_⟩
  · simpa [bcells] using h1
  · unfold Box at *
    rw [hg.block q (by simp; omega) hne, Below.heap_alloc wr o q hlt]
    exact hx

theorem own_box {B : Nat} {w wr : World} {v : Value} {l : List UInt8} (h : Own B w wr v l) (n s : Int) :
    Own B w (wr.alloc (.cells #[.int .i64 n, .int .i64 s] 39)) v l ∧ Box (wr.alloc (.cells #[.int .i64 n, .int .i64 s] 39)) wr.heap.size n s :=
  ⟨⟨h.1.alloc _, h.2.1.alloc h.2.2 _, by have := h.2.2; simp; omega⟩, heap_alloc_new wr _⟩

theorem own_conv {B : Nat} {w wr : World} {v : Value} {l : List UInt8} (h : Own B w wr v l) :
    (convert 44 9 v).run Try.prog wr = .ok (.string ⟨l.toArray⟩) wr := by
  rcases h.1.2 with ⟨rfl, hn⟩ | ⟨g, cap, cur, rfl, _, hg, _⟩
  · have : l = [] := List.length_eq_zero_iff.1 hn
    subst this
    rw [run_convert_bytes_string wr 44 9 5 none 0 0 Try.underlying44 Try.underlying5 Try.underlying9]
    rfl
  · refine run_convert_bytes_back (P := Try.prog) wr 44 9 5 ⟨g, 0, none⟩ cap l Try.underlying44 Try.underlying5 Try.underlying9 (fun j hj => ?_)
    exact h.1.cells rfl j _ (by simp [bcells, List.getElem?_eq_getElem hj])
end Go.Proofs.Ytdnhlabdpciclab
