/- Proved: calls of a net as plain data, how a slice of them lies in memory; one in a block of its own. -/
import Derived.Test.YtkngokpildoljaaLw0
import Derived.Test.YtkngokpildoljaaEqi
namespace Go.Proofs.Ytkngokpildoljaa
open Go.RowKit Go.Shelf
set_option linter.unusedVariables false

/-- A call: its kind, from whom, to whom, the item. -/
structure St where
  k : Int
  a : Int
  b : Int
  x : It
abbrev scs (s : St) : Array Value := #[.int .i64 s.k, .int .i64 s.a, .int .i64 s.b, .int .i64 s.x.k, .int .i64 s.x.t, .int .i64 s.x.fr, .int .i64 s.x.sq, .int .i64 s.x.dst, .int .i64 s.x.cl, .int .i64 s.x.bd, .int .i64 s.x.co]
def encS (s : St) : List Value := [.int .i64 s.k, .int .i64 s.a, .int .i64 s.b, .int .i64 s.x.k, .int .i64 s.x.t, .int .i64 s.x.fr, .int .i64 s.x.sq, .int .i64 s.x.dst, .int .i64 s.x.cl, .int .i64 s.x.bd, .int .i64 s.x.co]
def st0 : St := ⟨0, 0, 0, it0⟩
def nthS (l : List St) (i : Nat) : St := l.getD i st0
def RdS (w : World) (a : Option Addr) (l : List St) : Prop :=
  l ≠ [] → ∃ b off, a = some ⟨b, off, none⟩ ∧ b < w.heap.size ∧ ∀ i, i < l.length → ∀ c, c < 11 → w.cell? ⟨b, off + i * 11 + c, none⟩ = (encS (nthS l i))[c]?
theorem RdS.below {w w' : World} {a : Option Addr} {l : List St} (h : RdS w a l) (hb : Below w.heap.size w w') : RdS w' a l := fun g => by
  obtain ⟨b, off, rfl, hB, hc⟩ := h g
  exact ⟨b, off, rfl, Nat.lt_of_lt_of_le hB hb.size, fun i hi c hc3 => (hb.cell (p := ⟨b, off + i * 11 + c, none⟩) hB).trans (hc i hi c hc3)⟩
theorem RdS.cells {w : World} {a : Option Addr} {l : List St} (h : RdS w a l) {i : Nat} (hi : i < l.length) :
    ∃ b off, a = some ⟨b, off, none⟩ ∧ b < w.heap.size ∧ ∀ W, Below w.heap.size w W → W.cell? ⟨b, off + i * 11, none⟩ = some (.int .i64 (nthS l i).k) ∧ W.cell? ⟨b, off + i * 11 + 1, none⟩ = some (.int .i64 (nthS l i).a) ∧ W.cell? ⟨b, off + i * 11 + 2, none⟩ = some (.int .i64 (nthS l i).b) ∧ W.cell? ⟨b, off + i * 11 + 3, none⟩ = some (.int .i64 (nthS l i).x.k) ∧ W.cell? ⟨b, off + i * 11 + 4, none⟩ = some (.int .i64 (nthS l i).x.t) ∧ W.cell? ⟨b, off + i * 11 + 5, none⟩ = some (.int .i64 (nthS l i).x.fr) ∧ W.cell? ⟨b, off + i * 11 + 6, none⟩ = some (.int .i64 (nthS l i).x.sq) ∧ W.cell? ⟨b, off + i * 11 + 7, none⟩ = some (.int .i64 (nthS l i).x.dst) ∧ W.cell? ⟨b, off + i * 11 + 8, none⟩ = some (.int .i64 (nthS l i).x.cl) ∧ W.cell? ⟨b, off + i * 11 + 9, none⟩ = some (.int .i64 (nthS l i).x.bd) ∧ W.cell? ⟨b, off + i * 11 + 10, none⟩ = some (.int .i64 (nthS l i).x.co) := by
  obtain ⟨b, off, rfl, hB, hc⟩ := h (by intro e; rw [e] at hi; simp at hi)
  refine ⟨b, off, rfl, hB, fun W hW => ?_⟩
  have g : ∀ c, c < 11 → W.cell? ⟨b, off + i * 11 + c, none⟩ = (encS (nthS l i))[c]? := fun c h11 => (hW.cell (p := ⟨b, off + i * 11 + c, none⟩) hB).trans (hc i hi c h11)
  exact ⟨g 0 (by omega), g 1 (by omega), g 2 (by omega), g 3 (by omega), g 4 (by omega), g 5 (by omega), g 6 (by omega), g 7 (by omega), g 8 (by omega), g 9 (by omega), g 10 (by omega)⟩
/-- A call in a block of its own. -/
structure BoxS (w : World) (B : Nat) (s : St) : Prop where
  b : w.heap[B]? = some (.cells (scs s) 37 (0, 0))
theorem BoxS.lt {w : World} {B : Nat} {s : St} (h : BoxS w B s) : B < w.heap.size := (Array.getElem?_eq_some_iff.1 h.b).1
theorem BoxS.new (w : World) (s : St) : BoxS (w.alloc (.cells (scs s) 37)) w.heap.size s := ⟨World.alloc_heap_new w _⟩
theorem BoxS.below {w W : World} {B : Nat} {s : St} (h : BoxS w B s) (hb : Below w.heap.size w W) : BoxS W B s := ⟨(hb.block B h.lt).trans h.b⟩
theorem BoxS.keep {S : Nat → Prop} {w W : World} {B : Nat} {s : St} (h : BoxS w B s) (hf : Fr S w W) (hn : ¬ S B) : BoxS W B s := ⟨(hf.block B h.lt hn).trans h.b⟩
theorem BoxS.drew {w : World} {B : Nat} {s : St} (h : BoxS w B s) : BoxS w.drew B s := ⟨h.b⟩
theorem BoxS.cells {w : World} {B : Nat} {s : St} (h : BoxS w B s) : w.cell? ⟨B, 0, none⟩ = some (.int .i64 s.k) ∧ w.cell? ⟨B, 1, none⟩ = some (.int .i64 s.a) ∧ w.cell? ⟨B, 2, none⟩ = some (.int .i64 s.b) ∧ w.cell? ⟨B, 3, none⟩ = some (.int .i64 s.x.k) ∧ w.cell? ⟨B, 4, none⟩ = some (.int .i64 s.x.t) ∧ w.cell? ⟨B, 5, none⟩ = some (.int .i64 s.x.fr) ∧ w.cell? ⟨B, 6, none⟩ = some (.int .i64 s.x.sq) ∧ w.cell? ⟨B, 7, none⟩ = some (.int .i64 s.x.dst) ∧ w.cell? ⟨B, 8, none⟩ = some (.int .i64 s.x.cl) ∧ w.cell? ⟨B, 9, none⟩ = some (.int .i64 s.x.bd) ∧ w.cell? ⟨B, 10, none⟩ = some (.int .i64 s.x.co) :=
  ⟨cellB h.b 0, cellB h.b 1, cellB h.b 2, cellB h.b 3, cellB h.b 4, cellB h.b 5, cellB h.b 6, cellB h.b 7, cellB h.b 8, cellB h.b 9, cellB h.b 10⟩
theorem BoxS.froz {w : World} {B : Nat} {s : St} (h : BoxS w B s) (j : Nat) : w.frozen? ⟨B, j, none⟩ = false := by simp [World.frozen?, h.b]
def bodS (s : St) (i : Int) : St := ⟨s.k, s.a, s.b, ⟨s.x.k, s.x.t, s.x.fr, s.x.sq, s.x.dst, s.x.cl, i, s.x.co⟩⟩
theorem BoxS.bod {w : World} {B : Nat} {s : St} (h : BoxS w B s) (i : Int) : BoxS (w.setCell ⟨B, 9, none⟩ (.int .i64 i)) B (bodS s i) := ⟨(box_set (i := 9) h.b (.int .i64 i)).trans rfl⟩
/-- Two nets that were made since w. -/
structure N2 (w W : World) (n room : Nat) (L M : Ln) (B C : Nat) : Prop where
  x : N1 w W n room L B
  y : N1 w W n room M C
  ne : B ≠ C
theorem N2.on {w W W2 : World} {n room : Nat} {L M : Ln} {B C : Nat} (h : N2 w W n room L M B C) (hb : Below W.heap.size W W2) : N2 w W2 n room L M B C := ⟨h.x.on hb, h.y.on hb, h.ne⟩
theorem N2.swap {w W : World} {n room : Nat} {L M : Ln} {B C : Nat} (h : N2 w W n room L M B C) : N2 w W n room M L C B := ⟨h.y, h.x, h.ne.symm⟩
theorem N2.wx {w W W2 : World} {n room : Nat} {L L2 M : Ln} {B C : Nat} (h : N2 w W n room L M B C) (hn : Nt n room L2 B W2) (hf : Fr (fun k => k = B) W W2) : N2 w W2 n room L2 M B C :=
  have hx := h.x.wr hn hf
  ⟨hx, ⟨h.y.net.keep hf h.ne.symm, h.y.lo, hx.bel⟩, h.ne⟩
theorem N2.sendx {w W : World} {n room : Nat} {L M : Ln} {B C : Nat} (h : N2 w W n room L M B C) (a b : Int) (x : It) :
    Calls Try.prog 10 #[.pointer (some ⟨B, 0, none⟩), .int .i64 a, .int .i64 b, iv x] W fun e w' => e = .returned (.int .i64 (sndE n room L a b x)) ∧ N2 w w' n room (sndL n room L a b x) M B C ∧ Fr (fun k => k = B) W w' :=
  (send_any h.x.net a b x).mono fun e w' ⟨he, hn, hf⟩ => ⟨he, h.wx hn hf, hf⟩
theorem N2.sendy {w W : World} {n room : Nat} {L M : Ln} {B C : Nat} (h : N2 w W n room L M B C) (a b : Int) (x : It) :
    Calls Try.prog 10 #[.pointer (some ⟨C, 0, none⟩), .int .i64 a, .int .i64 b, iv x] W fun e w' => e = .returned (.int .i64 (sndE n room M a b x)) ∧ N2 w w' n room L (sndL n room M a b x) B C ∧ Fr (fun k => k = C) W w' :=
  (h.swap.sendx a b x).mono fun e w' ⟨he, hn, hf⟩ => ⟨he, hn.swap, hf⟩
theorem N2.recvx {w W : World} {n room : Nat} {L M : Ln} {B C : Nat} (h : N2 w W n room L M B C) (a b : Int) :
    Calls Try.prog 14 #[.pointer (some ⟨B, 0, none⟩), .int .i64 a, .int .i64 b] W fun e w' => e = .returned (.tuple #[iv (nthT (L a b) 0), .bool (fstB (L a b))]) ∧ N2 w w' n room (rcvL L a b) M B C ∧ Fr (fun k => k = B) W w' :=
  (recv_any h.x.net a b).mono fun e w' ⟨he, hn, hf⟩ => ⟨he, h.wx hn hf, hf⟩
theorem N2.recvy {w W : World} {n room : Nat} {L M : Ln} {B C : Nat} (h : N2 w W n room L M B C) (a b : Int) :
    Calls Try.prog 14 #[.pointer (some ⟨C, 0, none⟩), .int .i64 a, .int .i64 b] W fun e w' => e = .returned (.tuple #[iv (nthT (M a b) 0), .bool (fstB (M a b))]) ∧ N2 w w' n room L (rcvL M a b) B C ∧ Fr (fun k => k = C) W w' :=
  (h.swap.recvx a b).mono fun e w' ⟨he, hn, hf⟩ => ⟨he, hn.swap, hf⟩
end Go.Proofs.Ytkngokpildoljaa
