/- Proved: calls of clocks as plain data, how slices of them and of small numbers lie in memory; clocks that were made since. -/
import Derived.Test.YtmhopjpbhdficaaCl2
namespace Go.Proofs.Ytmhopjpbhdficaa
open Go.RowKit Go.Shelf
set_option linter.unusedVariables false

/-- A call: its kind, its two numbers. -/
structure St where
  k : Int
  a : Int
  b : Int
abbrev scs (s : St) : Array Value := #[.int .i64 s.k, .int .i64 s.a, .int .i64 s.b]
def encS (s : St) : List Value := [.int .i64 s.k, .int .i64 s.a, .int .i64 s.b]
def st0 : St := ⟨0, 0, 0⟩
def nthS (l : List St) (i : Nat) : St := l.getD i st0
abbrev wfI (a : Int) : Prop := (Lit.int .i64 a).wf = true
def RdS (w : World) (a : Option Addr) (l : List St) : Prop :=
  (∀ i, i < l.length → wfI (nthS l i).a) ∧ (l ≠ [] → ∃ b off, a = some ⟨b, off, none⟩ ∧ b < w.heap.size ∧ ∀ i, i < l.length → ∀ c, c < 3 → w.cell? ⟨b, off + i * 3 + c, none⟩ = (encS (nthS l i))[c]?)
theorem RdS.cells {w : World} {a : Option Addr} {l : List St} (h : RdS w a l) {i : Nat} (hi : i < l.length) :
    wfI (nthS l i).a ∧ ∃ b off, a = some ⟨b, off, none⟩ ∧ b < w.heap.size ∧ ∀ W, Below w.heap.size w W → W.cell? ⟨b, off + i * 3, none⟩ = some (.int .i64 (nthS l i).k) ∧ W.cell? ⟨b, off + i * 3 + 1, none⟩ = some (.int .i64 (nthS l i).a) ∧ W.cell? ⟨b, off + i * 3 + 2, none⟩ = some (.int .i64 (nthS l i).b) := by
  obtain ⟨b, off, rfl, hB, hc⟩ := h.2 (by intro e; rw [e] at hi; simp at hi)
  refine ⟨h.1 i hi, b, off, rfl, hB, fun W hW => ?_⟩
  have g : ∀ c, c < 3 → W.cell? ⟨b, off + i * 3 + c, none⟩ = (encS (nthS l i))[c]? := fun c h3 => (hW.cell (p := ⟨b, off + i * 3 + c, none⟩) hB).trans (hc i hi c h3)
  exact ⟨g 0 (by omega), g 1 (by omega), g 2 (by omega)⟩
/-- A slice of small numbers that came in. -/
def InN (q : IntKind) (m : Int) (w : World) (a : Option Addr) (z : List Int) : Prop :=
  (∀ i, i < z.length → 0 ≤ nthI z i ∧ nthI z i ≤ m) ∧ (z ≠ [] → ∃ b off, a = some ⟨b, off, none⟩ ∧ b < w.heap.size ∧ ∀ i, i < z.length → w.cell? ⟨b, off + i, none⟩ = some (.int q (nthI z i)))
theorem InN.cell {q : IntKind} {m : Int} {w : World} {a : Option Addr} {z : List Int} (h : InN q m w a z) {i : Nat} (hi : i < z.length) :
    0 ≤ nthI z i ∧ nthI z i ≤ m ∧ ∃ b off, a = some ⟨b, off, none⟩ ∧ b < w.heap.size ∧ ∀ W, Below w.heap.size w W → W.cell? ⟨b, off + i, none⟩ = some (.int q (nthI z i)) := by
  obtain ⟨b, off, rfl, hB, hc⟩ := h.2 (by intro e; rw [e] at hi; simp at hi)
  exact ⟨(h.1 i hi).1, (h.1 i hi).2, b, off, rfl, hB, fun W hW => (hW.cell (p := ⟨b, off + i, none⟩) hB).trans (hc i hi)⟩

/-- Clocks that were made since w. -/
structure P1 (w W : World) (n me : Nat) (c : Int → Int) (t : Int) (b mb : Nat) : Prop where
  pc : PC n me c t b mb W
  lo : w.heap.size ≤ b
  ml : w.heap.size ≤ mb
  bel : Below w.heap.size w W
theorem P1.on {w W W2 : World} {n me : Nat} {c : Int → Int} {t : Int} {b mb : Nat} (h : P1 w W n me c t b mb) (hb : Below W.heap.size W W2) : P1 w W2 n me c t b mb := ⟨h.pc.below hb, h.lo, h.ml, Below.on h.bel hb⟩
theorem P1.wr {w W W2 : World} {S : Nat → Prop} {n me : Nat} {c c2 : Int → Int} {t t2 : Int} {b mb : Nat} (h : P1 w W n me c t b mb) (hn : PC n me c2 t2 b mb W2) (hf : Fr S W W2) (hs : ∀ k, S k → k = b ∨ k = mb) : P1 w W2 n me c2 t2 b mb :=
  ⟨hn, h.lo, h.ml, h.bel.trans (hf.below h.bel.size (fun i e => by rcases hs i e with rfl | rfl; exact h.lo; exact h.ml))⟩
theorem P1.hear {w W : World} {n me : Nat} {c : Int → Int} {t : Int} {b mb : Nat} (h : P1 w W n me c t b mb) (j x : Int) (hj : wfI j) :
    Calls Try.prog 10 #[.pointer (some ⟨b, 0, none⟩), .int .i64 j, .int .i64 x] W fun e w' => e = .returned (.int .i64 (hrE n me c j x)) ∧ P1 w w' n me (hrC n me c j x) t b mb :=
  (hear_any h.pc j x hj).mono fun e w' ⟨he, hp, hf⟩ => ⟨he, h.wr hp hf (fun k e => Or.inr e)⟩
theorem P1.tell {w W : World} {n me : Nat} {c : Int → Int} {t : Int} {b mb : Nat} (h : P1 w W n me c t b mb) (first look : Int) :
    Calls Try.prog 12 #[.pointer (some ⟨b, 0, none⟩), .int .i64 first, .int .i64 look] W fun e w' => e = .returned (.tuple #[.int .i64 (tlT n me c t first look), .bool (tlB n me c t first look)]) ∧ P1 w w' n me c (tlT n me c t first look) b mb :=
  (tell_any h.pc first look).mono fun e w' ⟨he, hp, hf⟩ => ⟨he, h.wr hp hf (fun k e => Or.inl e)⟩
theorem P1.at {w W : World} {n me : Nat} {c : Int → Int} {t : Int} {b mb : Nat} (h : P1 w W n me c t b mb) (j : Int) (hj : wfI j) :
    Calls Try.prog 14 #[.pointer (some ⟨b, 0, none⟩), .int .i64 j] W fun e w' => e = .returned (.int .i64 (atC n me c j)) ∧ W = w' := at_any h.pc j hj
theorem P1.told {w W : World} {n me : Nat} {c : Int → Int} {t : Int} {b mb : Nat} (h : P1 w W n me c t b mb) :
    Calls Try.prog 18 #[.pointer (some ⟨b, 0, none⟩)] W fun e w' => e = .returned (.int .i64 t) ∧ W = w' := told_any h.pc
theorem P1.bound {w W : World} {n me : Nat} {c : Int → Int} {t : Int} {b mb : Nat} (h : P1 w W n me c t b mb) :
    Calls Try.prog 16 #[.pointer (some ⟨b, 0, none⟩)] W fun e w' => e = .returned (.int .i64 (bnd n me c)) ∧ P1 w w' n me c t b mb :=
  (bound_any h.pc).mono fun e w' ⟨he, hb⟩ => ⟨he, h.on hb⟩
theorem P1.new (w : World) (n me : Nat) (h1 : 1 ≤ n) (h2 : n ≤ 8) (h3 : me < n) :
    Calls Try.prog 8 #[.int .i64 n, .int .i64 me] w fun e w' => e = .returned (.tuple #[.pointer (some ⟨w.heap.size + 1, 0, none⟩), .int .i64 0]) ∧ P1 w w' n me noC 0 (w.heap.size + 1) w.heap.size :=
  (new_ok w n me h1 h2 h3).mono fun e w' ⟨he, hp, hb⟩ => ⟨he, hp, by omega, by omega, hb⟩
end Go.Proofs.Ytmhopjpbhdficaa
