/- Proved: slices of members, of bools that came in: what the walk is told of them. -/
import Derived.Test.YtmkhgihhledegaaNum
import Derived.Test.YtmkhgihhledegaaMbr
namespace Go.Proofs.Ytmkhgihhledegaa
open Go.ChangeShapes Go.WideShapes Go.ChangeAt Go.RowKit Go.Deep Go.Joins
open L (Mb)
set_option linter.unusedVariables false

theorem cells4 : Try.prog.cellsOf 4 = 1 := by kernel_rfl
theorem cellsB : Try.prog.cellsOf 33 = 7 := by kernel_rfl
theorem open_i1 {H : Type} {en : TypeId × Value → H} {W : World} {base fuel : Nat} {spare : Nat → Bool} {held : Bool} {cs : List Value} {x : DataW H × List MemPlace} (h : DataW.trod en Try.prog W base spare held fuel 3 cs = some x) :
    ∃ a : Int, cs = [.int .i64 a] := by
  obtain ⟨p, e0, _, _⟩ := DataW.trod_int Try.underlying3 h
  exact ⟨p, e0⟩
theorem open_t1 {H : Type} {en : TypeId × Value → H} {W : World} {base fuel : Nat} {spare : Nat → Bool} {held : Bool} {cs : List Value} {x : DataW H × List MemPlace} (h : DataW.trod en Try.prog W base spare held fuel 4 cs = some x) :
    ∃ a : Bool, cs = [.bool a] := by
  obtain ⟨p, e0, _⟩ := DataW.trod_bool Try.underlying4 h
  exact ⟨p, e0⟩
theorem open_mb {H : Type} {en : TypeId × Value → H} {W : World} {base fuel : Nat} {spare : Nat → Bool} {held : Bool} {cs : List Value} {x : DataW H × List MemPlace} (h : DataW.trod en Try.prog W base spare held fuel 33 cs = some x) :
    ∃ m : Mb, cs = encB m := by
  obtain ⟨xs, n, _, _, hl, hlen, hf⟩ := DataW.trod_struct Try.underlying33 h
  rw [cellsB] at hl
  match cs, hl with
  | [a, b, c, d, e, f, g], _ =>
    match xs, hlen with
    | [x0, x1, x2, x3, x4, x5, x6], _ =>
      have h0 : DataW.trod en Try.prog W base spare held n 4 (List.take (Try.prog.cellsOf 4) (List.drop 0 [a, b, c, d, e, f, g])) = some x0 := hf 0 _ rfl
      have h1 : DataW.trod en Try.prog W base spare held n 4 (List.take (Try.prog.cellsOf 4) (List.drop 1 [a, b, c, d, e, f, g])) = some x1 := hf 1 _ rfl
      have h2 : DataW.trod en Try.prog W base spare held n 3 (List.take (Try.prog.cellsOf 3) (List.drop 2 [a, b, c, d, e, f, g])) = some x2 := hf 2 _ rfl
      have h3 : DataW.trod en Try.prog W base spare held n 3 (List.take (Try.prog.cellsOf 3) (List.drop 3 [a, b, c, d, e, f, g])) = some x3 := hf 3 _ rfl
      have h4 : DataW.trod en Try.prog W base spare held n 3 (List.take (Try.prog.cellsOf 3) (List.drop 4 [a, b, c, d, e, f, g])) = some x4 := hf 4 _ rfl
      have h5 : DataW.trod en Try.prog W base spare held n 3 (List.take (Try.prog.cellsOf 3) (List.drop 5 [a, b, c, d, e, f, g])) = some x5 := hf 5 _ rfl
      have h6 : DataW.trod en Try.prog W base spare held n 3 (List.take (Try.prog.cellsOf 3) (List.drop 6 [a, b, c, d, e, f, g])) = some x6 := hf 6 _ rfl
      rw [cells4] at h0 h1
      rw [cells3] at h2 h3 h4 h5 h6
      obtain ⟨p0, e0⟩ := open_t1 h0
      obtain ⟨p1, e1⟩ := open_t1 h1
      obtain ⟨p2, e2⟩ := open_i1 h2
      obtain ⟨p3, e3⟩ := open_i1 h3
      obtain ⟨p4, e4⟩ := open_i1 h4
      obtain ⟨p5, e5⟩ := open_i1 h5
      obtain ⟨p6, e6⟩ := open_i1 h6
      simp at e0 e1 e2 e3 e4 e5 e6
      subst e0 e1 e2 e3 e4 e5 e6
      exact ⟨⟨p0, p1, p2, p3, p4, p5, p6⟩, rfl⟩
/-- A slice of members that came in. -/
abbrev RdM (w : World) (a : Option Addr) (l : List Mb) : Prop := RdN cB (fun _ => True) w a l
theorem open_mbs {H : Type} {en : TypeId × Value → H} {W : World} {base fuel : Nat} {spare : Nat → Bool} {held : Bool} {v : Value} {x : DataW H × List MemPlace} (h : DataW.trod en Try.prog W base spare held fuel 22 [v] = some x) :
    ∃ (sa : Option Addr) (sc : Nat) (l : List Mb), v = .slice sa l.length sc ∧ l.length ≤ maxLen ∧ RdM W sa l := by
  obtain ⟨sa, sc, l, rfl, hm, _, hrd⟩ := open_gen L.mb0 33 22 encB 7 (by omega) (fun _ => rfl) cellsB Try.underlying22 (fun _ => True) (fun n cs x h => (open_mb h).elim fun m e => ⟨m, e, trivial⟩) h
  refine ⟨sa, sc, l, rfl, hm, fun g => ?_⟩
  obtain ⟨b, off, rfl, hb, hc⟩ := hrd g
  exact ⟨b, off, rfl, hb, trivial, hc⟩
/-- And its capacity. -/
def RdMc (w : World) (a : Option Addr) (c : Nat) (l : List Mb) : Prop := l.length ≤ c ∧ RdM w a l
theorem open_mbsc {H : Type} {en : TypeId × Value → H} {W : World} {base fuel : Nat} {spare : Nat → Bool} {held : Bool} {v : Value} {x : DataW H × List MemPlace} (h : DataW.trod en Try.prog W base spare held fuel 22 [v] = some x) :
    ∃ (sa : Option Addr) (sc : Nat) (l : List Mb), v = .slice sa l.length sc ∧ l.length ≤ maxLen ∧ RdMc W sa sc l := by
  obtain ⟨sa, sc, l, rfl, hm, hr⟩ := open_mbs h
  refine ⟨sa, sc, l, rfl, hm, ?_, hr⟩
  rcases open_slice Try.underlying22 h with ⟨e, _⟩ | ⟨a, len, cap, m, n, D, Pl, e, _, hl, _⟩
  · simp at e
    obtain ⟨_, e2, e3⟩ := e
    rw [e2]
    simp
  · simp at e
    obtain ⟨_, e2, e3⟩ := e
    omega
/-- A slice of bools that came in. -/
def InT (w : World) (a : Option Addr) (z : List Bool) : Prop :=
  z ≠ [] → ∃ b off, a = some ⟨b, off, none⟩ ∧ b < w.heap.size ∧ ∀ i, i < z.length → w.cell? ⟨b, off + i, none⟩ = some (.bool (z.getD i false))
theorem InT.cell {w : World} {a : Option Addr} {z : List Bool} (h : InT w a z) {i : Nat} (hi : i < z.length) {x : Bool} (hx : z.getD i false = x) : ∃ b off, a = some ⟨b, off, none⟩ ∧ b < w.heap.size ∧ ∀ W, Below w.heap.size w W → W.cell? ⟨b, off + i, none⟩ = some (.bool x) := by
  obtain ⟨b, off, rfl, hb, hc⟩ := h (by intro e; rw [e] at hi; simp at hi)
  exact ⟨b, off, rfl, hb, fun W hW => by rw [← hx]; exact (hW.cell (p := ⟨b, off + i, none⟩) hb).trans (hc i hi)⟩
theorem open_bools {H : Type} {en : TypeId × Value → H} {W : World} {base fuel : Nat} {spare : Nat → Bool} {held : Bool} {v : Value} {x : DataW H × List MemPlace} (h : DataW.trod en Try.prog W base spare held fuel 42 [v] = some x) :
    ∃ (sa : Option Addr) (sc : Nat) (l : List Bool), v = .slice sa l.length sc ∧ l.length ≤ maxLen ∧ InT W sa l := by
  obtain ⟨sa, sc, l, rfl, hm, _, hrd⟩ := open_gen false 4 42 (fun a : Bool => [.bool a]) 1 (by omega) (fun _ => rfl) cells4 Try.underlying42 (fun _ => True) (fun n cs x h => (open_t1 h).elim fun m e => ⟨m, e, trivial⟩) h
  refine ⟨sa, sc, l, rfl, hm, fun g => ?_⟩
  obtain ⟨b, off, rfl, hb, hc⟩ := hrd g
  refine ⟨b, off, rfl, hb, fun i hi => ?_⟩
  have := hc i hi 0 (by omega)
  simpa using this
end Go.Proofs.Ytmkhgihhledegaa
