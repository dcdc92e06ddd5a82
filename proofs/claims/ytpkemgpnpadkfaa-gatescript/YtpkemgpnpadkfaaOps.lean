/- Proved: slices of calls of a gate that came in, and keys that came in. -/
import Derived.Test.YtpkemgpnpadkfaaOpg
import Derived.Test.YtpkemgpnpadkfaaStp
import Derived.ChangeSlices
import Derived.OpenShut
import Derived.ProofKit
import Derived.Deep.Slices
import Derived.Deep.Strs
import Derived.Lib.SmallJoins
namespace Go.Proofs.Ytpkemgpnpadkfaa
open Go.ChangeShapes Go.WideShapes Go.ChangeAt Go.RowKit Go.Deep Go.Joins
set_option linter.unusedVariables false

theorem cells3 : Try.prog.cellsOf 3 = 1 := by kernel_rfl
theorem cellsK : Try.prog.cellsOf 28 = 3 := by kernel_rfl
theorem cellsM : Try.prog.cellsOf 30 = 6 := by kernel_rfl
theorem cellsS : Try.prog.cellsOf 32 = 10 := by kernel_rfl
theorem list3 {cs : List Value} (h : cs.length = 3) : ∃ a b c, cs = [a, b, c] := by
  match cs, h with
  | [a, b, c], _ => exact ⟨a, b, c, rfl⟩
theorem list6 {cs : List Value} (h : cs.length = 6) : ∃ a b c d e f, cs = [a, b, c, d, e, f] := by
  match cs, h with
  | [a, b, c, d, e, f], _ => exact ⟨a, b, c, d, e, f, rfl⟩
theorem list10 {cs : List Value} (h : cs.length = 10) : ∃ a b c d e f g i j k, cs = [a, b, c, d, e, f, g, i, j, k] := by
  match cs, h with
  | [a, b, c, d, e, f, g, i, j, k], _ => exact ⟨a, b, c, d, e, f, g, i, j, k, rfl⟩
theorem open_i1 {H : Type} {en : TypeId × Value → H} {W : World} {base fuel : Nat} {spare : Nat → Bool} {held : Bool} {cs : List Value} {x : DataW H × List MemPlace} (h : DataW.trod en Try.prog W base spare held fuel 3 cs = some x) :
    ∃ a : Int, cs = [.int .i64 a] := by
  obtain ⟨p, e0, _, _⟩ := DataW.trod_int Try.underlying3 h
  exact ⟨p, e0⟩
theorem open_key {H : Type} {en : TypeId × Value → H} {W : World} {base fuel : Nat} {spare : Nat → Bool} {held : Bool} {cs : List Value} {x : DataW H × List MemPlace} (h : DataW.trod en Try.prog W base spare held fuel 28 cs = some x) :
    ∃ k : K, cs = [.int .i64 k.1, .int .i64 k.2.1, .int .i64 k.2.2] := by
  obtain ⟨y0, y1, y2, n, _, hl, h0, h1, h2⟩ := trod_struct3 Try.underlying28 h
  rw [cellsK] at hl
  obtain ⟨a, b, c, rfl⟩ := list3 hl
  simp only [cells3] at h0 h1 h2
  obtain ⟨p, e0⟩ := open_i1 h0
  obtain ⟨q, e1⟩ := open_i1 h1
  obtain ⟨r, e2⟩ := open_i1 h2
  simp at e0 e1 e2
  subst e0 e1 e2
  exact ⟨(p, q, r), rfl⟩
theorem open_msg {H : Type} {en : TypeId × Value → H} {W : World} {base fuel : Nat} {spare : Nat → Bool} {held : Bool} {cs : List Value} {x : DataW H × List MemPlace} (h : DataW.trod en Try.prog W base spare held fuel 30 cs = some x) :
    ∃ m : M, cs = enc m := by
  obtain ⟨y0, y1, y2, y3, n, _, hl, h0, h1, h2, h3⟩ := trod_struct4 Try.underlying30 h
  rw [cellsM] at hl
  obtain ⟨a, b, c, d, e, f, rfl⟩ := list6 hl
  simp only [cells3, cellsK] at h0 h1 h2 h3
  obtain ⟨⟨p1, p2, p3⟩, e0⟩ := open_key h0
  obtain ⟨p4, e1⟩ := open_i1 h1
  obtain ⟨p5, e2⟩ := open_i1 h2
  obtain ⟨p6, e3⟩ := open_i1 h3
  simp at e0 e1 e2 e3
  obtain ⟨rfl, rfl, rfl⟩ := e0
  subst e1 e2 e3
  exact ⟨((p1, p2, p3), p4, p5, p6), rfl⟩
theorem open_step {H : Type} {en : TypeId × Value → H} {W : World} {base fuel : Nat} {spare : Nat → Bool} {held : Bool} {cs : List Value} {x : DataW H × List MemPlace} (h : DataW.trod en Try.prog W base spare held fuel 32 cs = some x) :
    ∃ s : St, cs = encS s := by
  obtain ⟨y0, y1, y2, n, _, hl, h0, h1, h2⟩ := trod_struct3 Try.underlying32 h
  rw [cellsS] at hl
  obtain ⟨a, b, c, d, e, f, g, i, j, k, rfl⟩ := list10 hl
  simp only [cells3, cellsK, cellsM] at h0 h1 h2
  obtain ⟨p, e0⟩ := open_i1 h0
  obtain ⟨⟨p1, p2, p3⟩, e1⟩ := open_key h1
  obtain ⟨⟨⟨q1, q2, q3⟩, q4, q5, q6⟩, e2⟩ := open_msg h2
  simp at e0
  simp at e1
  simp [enc] at e2
  obtain ⟨rfl, rfl, rfl⟩ := e1
  obtain ⟨rfl, rfl, rfl, rfl, rfl, rfl⟩ := e2
  subst e0
  exact ⟨⟨p, ((p1, p2, p3), ((q1, q2, q3), q4, q5, q6))⟩, rfl⟩
theorem open_stps {H : Type} {en : TypeId × Value → H} {W : World} {base fuel : Nat} {spare : Nat → Bool} {held : Bool} {v : Value} {x : DataW H × List MemPlace} (h : DataW.trod en Try.prog W base spare held fuel 22 [v] = some x) :
    ∃ (sa : Option Addr) (sc : Nat) (l : List St), v = .slice sa l.length sc ∧ l.length ≤ maxLen ∧ RdS W sa l := by
  obtain ⟨sa, sc, l, rfl, hm, hok, hrd⟩ := open_gen s0 32 22 encS 10 (by omega) (fun _ => rfl) cellsS Try.underlying22 (fun _ => True) (fun n cs x h => by obtain ⟨s, e⟩ := open_step h; exact ⟨s, e, trivial⟩) h
  refine ⟨sa, sc, l, rfl, hm, fun g => ?_⟩
  obtain ⟨b, off, e, hb, hc⟩ := hrd g
  exact ⟨b, off, e, hb, trivial, hc⟩
set_option maxRecDepth 100000 in
theorem open_keyv {H : Type} {enc : TypeId × Value → H} {W : World} {base : Nat} {spare : Nat → Bool} {held : Bool} {r : Reach} {b0 : Nat} {v : Value} {d : DataW H} {p : List MemPlace}
    (hv : Value.okWide Try.prog W r b0 28 v) (h : DataW.Trod enc Try.prog W base spare held 28 v d p) :
    ∃ a b c : Int, v = .agg #[.int .i64 a, .int .i64 b, .int .i64 c] ∧ d = .agg [.lit (.int .i64 a), .lit (.int .i64 b), .lit (.int .i64 c)] ∧ p = [] ∧
      (Lit.int .i64 a).wf = true ∧ (Lit.int .i64 b).wf = true ∧ (Lit.int .i64 c).wf = true := by
  obtain ⟨c0, c1, c2, y0, y1, y2, m, rfl, rfl, rfl, hy0, hy1, hy2⟩ := open_agg3 Try.underlying28 (by kernel_rfl) cellsK hv h
  obtain ⟨a, e0, rfl, wa⟩ := DataW.trod_int Try.underlying3 hy0
  obtain ⟨b, e1, rfl, wb⟩ := DataW.trod_int Try.underlying3 hy1
  obtain ⟨c, e2, rfl, wc⟩ := DataW.trod_int Try.underlying3 hy2
  simp at e0 e1 e2
  subst e0 e1 e2
  exact ⟨a, b, c, rfl, rfl, rfl, wa, wb, wc⟩
end Go.Proofs.Ytpkemgpnpadkfaa
