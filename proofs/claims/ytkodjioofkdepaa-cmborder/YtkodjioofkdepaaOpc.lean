/- Proved: slices of calls and of bytes that came in: what the walk is told of them. -/
import Derived.Test.YtkodjioofkdepaaOpn
import Derived.Test.YtkodjioofkdepaaNod
import Derived.Test.YtkodjioofkdepaaJPln
namespace Go.Proofs.Ytkodjioofkdepaa
open Go.ChangeShapes Go.WideShapes Go.ChangeAt Go.RowKit Go.Deep Go.Joins
set_option linter.unusedVariables false

theorem cells5 : Try.prog.cellsOf 5 = 1 := by kernel_rfl
theorem open_byte1 {H : Type} {en : TypeId × Value → H} {W : World} {base fuel : Nat} {spare : Nat → Bool} {held : Bool} {cs : List Value} {x : DataW H × List MemPlace} (h : DataW.trod en Try.prog W base spare held fuel 5 cs = some x) :
    ∃ a : Int, cs = [.int .u8 a] ∧ (0 ≤ a ∧ a ≤ 255) := by
  obtain ⟨p, e0, _, w0⟩ := DataW.trod_int Try.underlying5 h
  have := bounds_u8 w0
  exact ⟨p, e0, by omega⟩
theorem cellsK : Try.prog.cellsOf 34 = 3 := by kernel_rfl
theorem cellsM6 : Try.prog.cellsOf 36 = 6 := by kernel_rfl
theorem cellsIt : Try.prog.cellsOf 38 = 8 := by kernel_rfl
theorem cellsOp : Try.prog.cellsOf 40 = 10 := by kernel_rfl
theorem list6 {cs : List Value} (h : cs.length = 6) : ∃ a b c d e f, cs = [a, b, c, d, e, f] := by
  match cs, h with
  | [a, b, c, d, e, f], _ => exact ⟨a, b, c, d, e, f, rfl⟩
theorem list8 {cs : List Value} (h : cs.length = 8) : ∃ a b c d e f g i, cs = [a, b, c, d, e, f, g, i] := by
  match cs, h with
  | [a, b, c, d, e, f, g, i], _ => exact ⟨a, b, c, d, e, f, g, i, rfl⟩
theorem list10 {cs : List Value} (h : cs.length = 10) : ∃ a b c d e f g i j k, cs = [a, b, c, d, e, f, g, i, j, k] := by
  match cs, h with
  | [a, b, c, d, e, f, g, i, j, k], _ => exact ⟨a, b, c, d, e, f, g, i, j, k, rfl⟩
/-- A call: its kind, from whom, the item's kind, its message, its colour. -/
structure Oq where
  k : Int
  fr : Int
  ik : Int
  m : Q.M
  co : Int
def encQ (o : Oq) : List Value := [.int .i64 o.k, .int .i64 o.fr, .int .i64 o.ik, .int .i64 o.m.1.1, .int .i64 o.m.1.2.1, .int .i64 o.m.1.2.2, .int .i64 o.m.2.1, .int .i64 o.m.2.2.1, .int .i64 o.m.2.2.2, .int .i64 o.co]
abbrev oqc (o : Oq) : Array Value := #[.int .i64 o.k, .int .i64 o.fr, .int .i64 o.ik, .int .i64 o.m.1.1, .int .i64 o.m.1.2.1, .int .i64 o.m.1.2.2, .int .i64 o.m.2.1, .int .i64 o.m.2.2.1, .int .i64 o.m.2.2.2, .int .i64 o.co]
def oq0 : Oq := ⟨0, 0, 0, ((0, 0, 0), 0, 0, 0), 0⟩
def nthQ (l : List Oq) (i : Nat) : Oq := l.getD i oq0
abbrev wfI (a : Int) : Prop := (Lit.int .i64 a).wf = true
def wfO (o : Oq) : Prop := wfI o.fr ∧ Q.mwf o.m
def RdQ (w : World) (a : Option Addr) (l : List Oq) : Prop :=
  (∀ i, i < l.length → wfO (nthQ l i)) ∧ (l ≠ [] → ∃ b off, a = some ⟨b, off, none⟩ ∧ b < w.heap.size ∧ ∀ i, i < l.length → ∀ c, c < 10 → w.cell? ⟨b, off + i * 10 + c, none⟩ = (encQ (nthQ l i))[c]?)
theorem open_i64 {H : Type} {en : TypeId × Value → H} {W : World} {base fuel : Nat} {spare : Nat → Bool} {held : Bool} {cs : List Value} {x : DataW H × List MemPlace} (h : DataW.trod en Try.prog W base spare held fuel 3 cs = some x) :
    ∃ a : Int, cs = [.int .i64 a] ∧ wfI a := by
  obtain ⟨p, e0, _, w0⟩ := DataW.trod_int Try.underlying3 h
  exact ⟨p, e0, w0⟩
theorem wfQ {a : Int} (h : wfI a) : Q.i64 a := by
  have := bounds_i64 h
  unfold Q.i64
  omega
theorem open_keyq {H : Type} {en : TypeId × Value → H} {W : World} {base fuel : Nat} {spare : Nat → Bool} {held : Bool} {cs : List Value} {x : DataW H × List MemPlace} (h : DataW.trod en Try.prog W base spare held fuel 34 cs = some x) :
    ∃ a b c : Int, cs = [.int .i64 a, .int .i64 b, .int .i64 c] ∧ wfI a ∧ wfI b ∧ wfI c := by
  obtain ⟨y0, y1, y2, n, _, hl, h0, h1, h2⟩ := trod_struct3 Try.underlying34 h
  rw [cellsK] at hl
  obtain ⟨a, b, c, rfl⟩ := list3 hl
  simp only [cells3] at h0 h1 h2
  obtain ⟨p, e0, w0⟩ := open_i64 h0
  obtain ⟨q, e1, w1⟩ := open_i64 h1
  obtain ⟨r, e2, w2⟩ := open_i64 h2
  simp at e0 e1 e2
  subst e0 e1 e2
  exact ⟨p, q, r, rfl, w0, w1, w2⟩
theorem open_msgq {H : Type} {en : TypeId × Value → H} {W : World} {base fuel : Nat} {spare : Nat → Bool} {held : Bool} {cs : List Value} {x : DataW H × List MemPlace} (h : DataW.trod en Try.prog W base spare held fuel 36 cs = some x) :
    ∃ m : Q.M, cs = [.int .i64 m.1.1, .int .i64 m.1.2.1, .int .i64 m.1.2.2, .int .i64 m.2.1, .int .i64 m.2.2.1, .int .i64 m.2.2.2] ∧ Q.mwf m := by
  obtain ⟨y0, y1, y2, y3, n, _, hl, h0, h1, h2, h3⟩ := trod_struct4 Try.underlying36 h
  rw [cellsM6] at hl
  obtain ⟨a, b, c, d, e, f, rfl⟩ := list6 hl
  simp only [cells3, cellsK] at h0 h1 h2 h3
  obtain ⟨p1, p2, p3, e0, w1, w2, w3⟩ := open_keyq h0
  obtain ⟨p4, e1, w4⟩ := open_i64 h1
  obtain ⟨p5, e2, w5⟩ := open_i64 h2
  obtain ⟨p6, e3, w6⟩ := open_i64 h3
  simp at e0 e1 e2 e3
  obtain ⟨rfl, rfl, rfl⟩ := e0
  subst e1 e2 e3
  exact ⟨((p1, p2, p3), p4, p5, p6), rfl, ⟨wfQ w1, wfQ w2, wfQ w3⟩, wfQ w4, wfQ w5, wfQ w6⟩
theorem open_op {H : Type} {en : TypeId × Value → H} {W : World} {base fuel : Nat} {spare : Nat → Bool} {held : Bool} {cs : List Value} {x : DataW H × List MemPlace} (h : DataW.trod en Try.prog W base spare held fuel 40 cs = some x) :
    ∃ o : Oq, cs = encQ o ∧ wfO o := by
  obtain ⟨y0, y1, y2, n, _, hl, h0, h1, h2⟩ := trod_struct3 Try.underlying40 h
  rw [cellsOp] at hl
  obtain ⟨a, b, c, d, e, f, g, i, j, k, rfl⟩ := list10 hl
  simp only [cells3, cellsIt] at h0 h1 h2
  obtain ⟨p0, e0, _⟩ := open_i64 h0
  obtain ⟨p1, e1, w1⟩ := open_i64 h1
  obtain ⟨z0, z1, z2, n2, _, hl2, g0, g1, g2⟩ := trod_struct3 Try.underlying38 h2
  simp only [cells3, cellsM6] at g0 g1 g2
  obtain ⟨q0, e3, _⟩ := open_i64 g0
  obtain ⟨m, e4, wm⟩ := open_msgq g1
  obtain ⟨q1, e5, _⟩ := open_i64 g2
  simp at e0 e1 e3 e4 e5
  obtain ⟨rfl, rfl, rfl, rfl, rfl, rfl⟩ := e4
  subst e0 e1 e3 e5
  exact ⟨⟨p0, p1, q0, m, q1⟩, rfl, w1, wm⟩
theorem mem_getQ {α : Type} {l : List α} {z : α} {i : Nat} (hi : i < l.length) : l.getD i z ∈ l := by simp [hi]
theorem open_ops {H : Type} {en : TypeId × Value → H} {W : World} {base fuel : Nat} {spare : Nat → Bool} {held : Bool} {v : Value} {x : DataW H × List MemPlace} (h : DataW.trod en Try.prog W base spare held fuel 22 [v] = some x) :
    ∃ (sa : Option Addr) (sc : Nat) (l : List Oq), v = .slice sa l.length sc ∧ l.length ≤ maxLen ∧ RdQ W sa l := by
  obtain ⟨sa, sc, l, rfl, hm, hok, hrd⟩ := open_gen oq0 40 22 encQ 10 (by omega) (fun _ => rfl) cellsOp Try.underlying22 (fun o => wfO o) (fun n cs x h => open_op h) h
  exact ⟨sa, sc, l, rfl, hm, fun i hi => hok _ (mem_getQ hi), hrd⟩
end Go.Proofs.Ytkodjioofkdepaa
