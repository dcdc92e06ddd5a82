/- Proved: slices of calls of a past that came in. -/
import Derived.Test.YtgifanioeeacdaaOpg
import Derived.Test.YtgifanioeeacdaaStp
import Derived.ChangeSlices
import Derived.OpenShut
import Derived.ProofKit
import Derived.Deep.Slices
import Derived.Deep.Strs
import Derived.Lib.SmallJoins
namespace Go.Proofs.Ytgifanioeeacdaa
open Go.ChangeShapes Go.WideShapes Go.ChangeAt Go.RowKit Go.Deep Go.Joins
set_option linter.unusedVariables false

theorem cells3 : Try.prog.cellsOf 3 = 1 := by kernel_rfl
theorem cellsK : Try.prog.cellsOf 29 = 3 := by kernel_rfl
theorem cellsM : Try.prog.cellsOf 31 = 6 := by kernel_rfl
theorem cellsMs : Try.prog.cellsOf 32 = 1 := by kernel_rfl
theorem cellsE : Try.prog.cellsOf 34 = 10 := by kernel_rfl
theorem cellsS : Try.prog.cellsOf 36 = 11 := by kernel_rfl
theorem list3 {cs : List Value} (h : cs.length = 3) : ∃ a b c, cs = [a, b, c] := by
  match cs, h with
  | [a, b, c], _ => exact ⟨a, b, c, rfl⟩
theorem list6 {cs : List Value} (h : cs.length = 6) : ∃ a b c d e f, cs = [a, b, c, d, e, f] := by
  match cs, h with
  | [a, b, c, d, e, f], _ => exact ⟨a, b, c, d, e, f, rfl⟩
theorem list10 {cs : List Value} (h : cs.length = 10) : ∃ a b c d e f g i j k, cs = [a, b, c, d, e, f, g, i, j, k] := by
  match cs, h with
  | [a, b, c, d, e, f, g, i, j, k], _ => exact ⟨a, b, c, d, e, f, g, i, j, k, rfl⟩
theorem list11 {cs : List Value} (h : cs.length = 11) : ∃ a b c d e f g i j k l, cs = [a, b, c, d, e, f, g, i, j, k, l] := by
  match cs, h with
  | [a, b, c, d, e, f, g, i, j, k, l], _ => exact ⟨a, b, c, d, e, f, g, i, j, k, l, rfl⟩
theorem open_i1 {H : Type} {en : TypeId × Value → H} {W : World} {base fuel : Nat} {spare : Nat → Bool} {held : Bool} {cs : List Value} {x : DataW H × List MemPlace} (h : DataW.trod en Try.prog W base spare held fuel 3 cs = some x) :
    ∃ a : Int, cs = [.int .i64 a] := by
  obtain ⟨p, e0, _, _⟩ := DataW.trod_int Try.underlying3 h
  exact ⟨p, e0⟩
theorem open_key {H : Type} {en : TypeId × Value → H} {W : World} {base fuel : Nat} {spare : Nat → Bool} {held : Bool} {cs : List Value} {x : DataW H × List MemPlace} (h : DataW.trod en Try.prog W base spare held fuel 29 cs = some x) :
    ∃ k : K, cs = encK k := by
  obtain ⟨y0, y1, y2, n, _, hl, h0, h1, h2⟩ := trod_struct3 Try.underlying29 h
  rw [cellsK] at hl
  obtain ⟨a, b, c, rfl⟩ := list3 hl
  simp only [cells3] at h0 h1 h2
  obtain ⟨p, e0⟩ := open_i1 h0
  obtain ⟨q, e1⟩ := open_i1 h1
  obtain ⟨r, e2⟩ := open_i1 h2
  simp at e0 e1 e2
  subst e0 e1 e2
  exact ⟨(p, q, r), rfl⟩
theorem open_msg {H : Type} {en : TypeId × Value → H} {W : World} {base fuel : Nat} {spare : Nat → Bool} {held : Bool} {cs : List Value} {x : DataW H × List MemPlace} (h : DataW.trod en Try.prog W base spare held fuel 31 cs = some x) :
    ∃ m : M, cs = enc m := by
  obtain ⟨y0, y1, y2, y3, n, _, hl, h0, h1, h2, h3⟩ := trod_struct4 Try.underlying31 h
  rw [cellsM] at hl
  obtain ⟨a, b, c, d, e, f, rfl⟩ := list6 hl
  simp only [cells3, cellsK] at h0 h1 h2 h3
  obtain ⟨⟨p1, p2, p3⟩, e0⟩ := open_key h0
  obtain ⟨p4, e1⟩ := open_i1 h1
  obtain ⟨p5, e2⟩ := open_i1 h2
  obtain ⟨p6, e3⟩ := open_i1 h3
  simp [encK] at e0 e1 e2 e3
  obtain ⟨rfl, rfl, rfl⟩ := e0
  subst e1 e2 e3
  exact ⟨((p1, p2, p3), p4, p5, p6), rfl⟩
theorem open_msgs {H : Type} {en : TypeId × Value → H} {W : World} {base fuel : Nat} {spare : Nat → Bool} {held : Bool} {v : Value} {x : DataW H × List MemPlace} (h : DataW.trod en Try.prog W base spare held fuel 32 [v] = some x) :
    ∃ (sa : Option Addr) (sc : Nat) (l : List M), v = .slice sa l.length sc ∧ RdN cM (fun _ => True) W sa l := by
  obtain ⟨sa, sc, l, rfl, _, _, hrd⟩ := open_gen (((0, 0, 0), 0, 0, 0) : M) 31 32 enc 6 (by omega) enc_len cellsM Try.underlying32 (fun _ => True) (fun n cs x h => by obtain ⟨m, e⟩ := open_msg h; exact ⟨m, e, trivial⟩) h
  refine ⟨sa, sc, l, rfl, fun g => ?_⟩
  obtain ⟨b, off, e, hb, hc⟩ := hrd g
  exact ⟨b, off, e, hb, trivial, hc⟩
theorem open_entry {H : Type} {en : TypeId × Value → H} {W : World} {base fuel : Nat} {spare : Nat → Bool} {held : Bool} {cs : List Value} {x : DataW H × List MemPlace} (h : DataW.trod en Try.prog W base spare held fuel 34 cs = some x) :
    ∃ q : E, cs = encE q ∧ RdN cM (fun _ => True) W q.oa q.p.os := by
  obtain ⟨xs, n, _, _, hl, hlen, hf⟩ := DataW.trod_struct Try.underlying34 h
  rw [cellsE] at hl
  obtain ⟨a, b, c, d, e, f, g, i, j, k, rfl⟩ := list10 hl
  have h0 : DataW.trod en Try.prog W base spare held n 31 (List.take (Try.prog.cellsOf 31) (List.drop 0 [a, b, c, d, e, f, g, i, j, k])) = xs[0]? := hf 0 _ rfl
  have h1 : DataW.trod en Try.prog W base spare held n 3 (List.take (Try.prog.cellsOf 3) (List.drop 6 [a, b, c, d, e, f, g, i, j, k])) = xs[1]? := hf 1 _ rfl
  have h2 : DataW.trod en Try.prog W base spare held n 3 (List.take (Try.prog.cellsOf 3) (List.drop 7 [a, b, c, d, e, f, g, i, j, k])) = xs[2]? := hf 2 _ rfl
  have h3 : DataW.trod en Try.prog W base spare held n 3 (List.take (Try.prog.cellsOf 3) (List.drop 8 [a, b, c, d, e, f, g, i, j, k])) = xs[3]? := hf 3 _ rfl
  have h4 : DataW.trod en Try.prog W base spare held n 32 (List.take (Try.prog.cellsOf 32) (List.drop 9 [a, b, c, d, e, f, g, i, j, k])) = xs[4]? := hf 4 _ rfl
  simp only [cells3, cellsM, cellsMs] at h0 h1 h2 h3 h4
  have hx : xs.length = 5 := hlen
  rw [List.getElem?_eq_getElem (by omega)] at h0 h1 h2 h3 h4
  obtain ⟨⟨⟨p1, p2, p3⟩, p4, p5, p6⟩, e0⟩ := open_msg h0
  obtain ⟨q1, e1⟩ := open_i1 h1
  obtain ⟨q2, e2⟩ := open_i1 h2
  obtain ⟨q3, e3⟩ := open_i1 h3
  obtain ⟨sa, sc, os, e4, hr⟩ := open_msgs (v := k) (by simpa using h4)
  simp [enc] at e0 e1 e2 e3
  obtain ⟨rfl, rfl, rfl, rfl, rfl, rfl⟩ := e0
  subst e1 e2 e3 e4
  exact ⟨⟨⟨((p1, p2, p3), p4, p5, p6), q1, q2, q3, os⟩, sa, sc⟩, rfl, hr⟩
theorem open_step {H : Type} {en : TypeId × Value → H} {W : World} {base fuel : Nat} {spare : Nat → Bool} {held : Bool} {cs : List Value} {x : DataW H × List MemPlace} (h : DataW.trod en Try.prog W base spare held fuel 36 cs = some x) :
    ∃ s : St, cs = encS s ∧ RdN cM (fun _ => True) W s.e.oa s.e.p.os := by
  obtain ⟨y0, y1, n, _, hl, h0, h1⟩ := trod_struct2 Try.underlying36 h
  rw [cellsS] at hl
  obtain ⟨a, b, c, d, e, f, g, i, j, k, l, rfl⟩ := list11 hl
  simp only [cells3, cellsE] at h0 h1
  obtain ⟨p, e0⟩ := open_i1 h0
  obtain ⟨q, e1, hr⟩ := open_entry h1
  simp at e0
  simp at e1
  subst e0
  exact ⟨⟨p, q⟩, by unfold encS; rw [← e1], hr⟩
theorem open_stps {H : Type} {en : TypeId × Value → H} {W : World} {base fuel : Nat} {spare : Nat → Bool} {held : Bool} {v : Value} {x : DataW H × List MemPlace} (h : DataW.trod en Try.prog W base spare held fuel 22 [v] = some x) :
    ∃ (sa : Option Addr) (sc : Nat) (l : List St), v = .slice sa l.length sc ∧ l.length ≤ maxLen ∧ RdS W sa l := by
  obtain ⟨sa, sc, l, rfl, hm, hok, hrd⟩ := open_gen (⟨0, e0⟩ : St) 36 22 encS 11 (by omega) (fun _ => rfl) cellsS Try.underlying22 (fun s => RdN cM (fun _ => True) W s.e.oa s.e.p.os) (fun n cs x h => open_step h) h
  refine ⟨sa, sc, l, rfl, hm, fun g => ?_, hok⟩
  obtain ⟨b, off, e, hb, hc⟩ := hrd g
  exact ⟨b, off, e, hb, trivial, hc⟩
end Go.Proofs.Ytgifanioeeacdaa
