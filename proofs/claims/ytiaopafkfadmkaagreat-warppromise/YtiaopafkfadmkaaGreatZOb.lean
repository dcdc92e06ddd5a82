/- Joined: the texts that follow, each with its own sentence. -/
import Derived.Test.YtiaopafkfadmkaaGreatZB
import Derived.ChangeSlices
import Derived.OpenShut
import Derived.ProofKit
import Derived.Deep.Slices
import Derived.Deep.Strs
import Derived.Lib.SmallJoins
import Derived.Test.YtiaopafkfadmkaaGreatZJf
import Derived.Test.YtiaopafkfadmkaaGreatZQa
/- Proved: slices that came in, whatever their elements: what the walk is told of them. -/
namespace Go.Proofs.YtiaopafkfadmkaaGreat
open Go.ChangeShapes Go.WideShapes Go.ChangeAt Go.RowKit Go.Deep Go.Joins
set_option linter.unusedVariables false
open Go.Proofs.YtiaopafkfadmkaaGreat.B

theorem spot_of {w : World} {a : Addr} {v : Value} (h : w.cell? a = some v) : a.spot = none := by
  unfold World.cell? at h
  split at h
  · split at h
    · cases h
    · rename_i hs
      simpa using hs
  · cases h
/-- A slice that came in, whatever its elements. -/
theorem open_gen {α H : Type} {en : TypeId × Value → H} {W : World} {base fuel : Nat} {spare : Nat → Bool} {held : Bool} {v : Value} {x : DataW H × List MemPlace} (z : α) (e t : TypeId) (enc : α → List Value) (sz : Nat) (h0 : 0 < sz) (hlen : ∀ x, (enc x).length = sz) (hc : Tryz.prog.cellsOf e = sz) (ht : Tryz.prog.underlying t = some (.slice e)) (ok : α → Prop)
    (hel : ∀ n cs x, DataW.trod en Tryz.prog W base spare held n e cs = some x → ∃ a : α, cs = enc a ∧ ok a)
    (h : DataW.trod en Tryz.prog W base spare held fuel t [v] = some x) :
    ∃ (sa : Option Addr) (sc : Nat) (l : List α), v = .slice sa l.length sc ∧ l.length ≤ maxLen ∧ (∀ a ∈ l, ok a) ∧ (l ≠ [] → ∃ b off, sa = some ⟨b, off, none⟩ ∧ b < W.heap.size ∧ ∀ i, i < l.length → ∀ c, c < sz → W.cell? ⟨b, off + i * sz + c, none⟩ = (enc (l.getD i z))[c]?) := by
  rcases open_slice ht h with ⟨hcs, _⟩ | ⟨a, len, cap, m, n, D, Pl, hcs, _, hl, hm, hmm, _, hx⟩
  · simp at hcs
    exact ⟨none, 0, [], hcs, Nat.zero_le _, (fun a ha => by cases ha), fun g => absurd rfl g⟩
  · simp at hcs
    have hml : len ≤ m := by rw [hmm]; split <;> omega
    rw [hc] at hx
    haveI : Inhabited α := ⟨z⟩
    obtain ⟨F, hF⟩ := choose_lt (α := α) (p := fun i o => ok o ∧ W.cells? base (a.add (i * sz)) sz = some (enc o)) (fun i (hi : i < m) => by
      obtain ⟨cs', h1, h2⟩ := hx i hi
      obtain ⟨o, rfl, hok⟩ := hel _ _ _ h2
      exact ⟨o, hok, h1⟩)
    refine ⟨some a, cap, (List.range len).map F, by simpa using hcs, by simp; omega, fun y hy => ?_, fun g => ?_⟩
    · obtain ⟨i, hi, rfl⟩ := List.mem_map.1 hy
      exact (hF i (by simp at hi; omega)).1
    · have hlp : 0 < len := by
        rcases Nat.eq_zero_or_pos len with e | e
        · rw [e] at g; simp at g
        · exact e
      have hcell0 : ∀ i, i < len → ∀ c, c < sz → W.cell? ((a.add (i * sz)).add c) = (enc (F i))[c]? := fun i hi c hc => (World.cells?_some (hF i (by omega)).2).2.2 c hc
      have hc0 := hcell0 0 hlp 0 h0
      obtain ⟨v0, hv0⟩ : ∃ v0, (enc (F 0))[0]? = some v0 := ⟨_, List.getElem?_eq_getElem (by rw [hlen]; exact h0)⟩
      rw [hv0] at hc0
      have hs := spot_of (a := a) (v := v0) (by simpa [Addr.add] using hc0)
      obtain ⟨b, off, spot⟩ := a
      simp only at hs
      subst hs
      have hcell : ∀ i, i < len → ∀ c, c < sz → W.cell? ⟨b, off + i * sz + c, none⟩ = (enc (F i))[c]? := fun i hi c hc => by
        have := hcell0 i hi c hc
        rwa [Addr.add_lit, Addr.add_lit] at this
      refine ⟨b, off, rfl, ?_, ?_⟩
      · have := hcell 0 hlp 0 h0
        rw [hv0] at this
        exact clt this
      · intro i hi c hc
        simp only [List.length_map, List.length_range] at hi
        rw [hcell i hi c hc]
        simp [hi]
end Go.Proofs.YtiaopafkfadmkaaGreat
/- Proved: slices of bytes that came in. -/
namespace Go.Proofs.YtiaopafkfadmkaaGreat
open Go.ChangeShapes Go.WideShapes Go.ChangeAt Go.RowKit Go.Deep Go.Joins
set_option linter.unusedVariables false

end Go.Proofs.YtiaopafkfadmkaaGreat
/- Proved: slices of calls that came in: what the walk is told of them. -/
namespace Go.Proofs.YtiaopafkfadmkaaGreat
open Go.ChangeShapes Go.WideShapes Go.ChangeAt Go.RowKit Go.Deep Go.Joins
set_option linter.unusedVariables false

theorem cells3 : Tryz.prog.cellsOf 3 = 1 := by kernel_rfl
theorem list3 {cs : List Value} (h : cs.length = 3) : ∃ a b c, cs = [a, b, c] := by
  match cs, h with
  | [a, b, c], _ => exact ⟨a, b, c, rfl⟩
theorem cellsK : Tryz.prog.cellsOf 37 = 3 := by kernel_rfl
theorem cellsM6 : Tryz.prog.cellsOf 39 = 6 := by kernel_rfl
theorem cellsIt : Tryz.prog.cellsOf 41 = 8 := by kernel_rfl
theorem cellsOp : Tryz.prog.cellsOf 43 = 11 := by kernel_rfl
theorem list6 {cs : List Value} (h : cs.length = 6) : ∃ a b c d e f, cs = [a, b, c, d, e, f] := by
  match cs, h with
  | [a, b, c, d, e, f], _ => exact ⟨a, b, c, d, e, f, rfl⟩
theorem list11 {cs : List Value} (h : cs.length = 11) : ∃ a b c d e f g i j k l, cs = [a, b, c, d, e, f, g, i, j, k, l] := by
  match cs, h with
  | [a, b, c, d, e, f, g, i, j, k, l], _ => exact ⟨a, b, c, d, e, f, g, i, j, k, l, rfl⟩
/-- A call: its kind, from whom, its time, the item's kind, its message, its colour. -/
structure Oq where
  k : Int
  fr : Int
  t : Int
  ik : Int
  m : Q.M
  co : Int
def encQ (o : Oq) : List Value := [.int .i64 o.k, .int .i64 o.fr, .int .i64 o.t, .int .i64 o.ik, .int .i64 o.m.1.1, .int .i64 o.m.1.2.1, .int .i64 o.m.1.2.2, .int .i64 o.m.2.1, .int .i64 o.m.2.2.1, .int .i64 o.m.2.2.2, .int .i64 o.co]
abbrev oqc (o : Oq) : Array Value := #[.int .i64 o.k, .int .i64 o.fr, .int .i64 o.t, .int .i64 o.ik, .int .i64 o.m.1.1, .int .i64 o.m.1.2.1, .int .i64 o.m.1.2.2, .int .i64 o.m.2.1, .int .i64 o.m.2.2.1, .int .i64 o.m.2.2.2, .int .i64 o.co]
def oq0 : Oq := ⟨0, 0, 0, 0, ((0, 0, 0), 0, 0, 0), 0⟩
def nthQ (l : List Oq) (i : Nat) : Oq := l.getD i oq0
abbrev wfI (a : Int) : Prop := (Lit.int .i64 a).wf = true
def wfO (o : Oq) : Prop := wfI o.fr ∧ wfI o.t ∧ Q.mwf o.m
def RdQ (w : World) (a : Option Addr) (l : List Oq) : Prop :=
  (∀ i, i < l.length → wfO (nthQ l i)) ∧ (l ≠ [] → ∃ b off, a = some ⟨b, off, none⟩ ∧ b < w.heap.size ∧ ∀ i, i < l.length → ∀ c, c < 11 → w.cell? ⟨b, off + i * 11 + c, none⟩ = (encQ (nthQ l i))[c]?)
theorem open_i64 {H : Type} {en : TypeId × Value → H} {W : World} {base fuel : Nat} {spare : Nat → Bool} {held : Bool} {cs : List Value} {x : DataW H × List MemPlace} (h : DataW.trod en Tryz.prog W base spare held fuel 3 cs = some x) :
    ∃ a : Int, cs = [.int .i64 a] ∧ wfI a := by
  obtain ⟨p, e0, _, w0⟩ := DataW.trod_int Tryz.underlying3 h
  exact ⟨p, e0, w0⟩
theorem wfQ {a : Int} (h : wfI a) : Q.i64 a := by
  have := bounds_i64 h
  unfold Q.i64
  omega
theorem open_keyq {H : Type} {en : TypeId × Value → H} {W : World} {base fuel : Nat} {spare : Nat → Bool} {held : Bool} {cs : List Value} {x : DataW H × List MemPlace} (h : DataW.trod en Tryz.prog W base spare held fuel 37 cs = some x) :
    ∃ a b c : Int, cs = [.int .i64 a, .int .i64 b, .int .i64 c] ∧ wfI a ∧ wfI b ∧ wfI c := by
  obtain ⟨y0, y1, y2, n, _, hl, h0, h1, h2⟩ := trod_struct3 Tryz.underlying37 h
  rw [cellsK] at hl
  obtain ⟨a, b, c, rfl⟩ := list3 hl
  simp only [cells3] at h0 h1 h2
  obtain ⟨p, e0, w0⟩ := open_i64 h0
  obtain ⟨q, e1, w1⟩ := open_i64 h1
  obtain ⟨r, e2, w2⟩ := open_i64 h2
  simp at e0 e1 e2
  subst e0 e1 e2
  exact ⟨p, q, r, rfl, w0, w1, w2⟩
theorem open_msgq {H : Type} {en : TypeId × Value → H} {W : World} {base fuel : Nat} {spare : Nat → Bool} {held : Bool} {cs : List Value} {x : DataW H × List MemPlace} (h : DataW.trod en Tryz.prog W base spare held fuel 39 cs = some x) :
    ∃ m : Q.M, cs = [.int .i64 m.1.1, .int .i64 m.1.2.1, .int .i64 m.1.2.2, .int .i64 m.2.1, .int .i64 m.2.2.1, .int .i64 m.2.2.2] ∧ Q.mwf m := by
  obtain ⟨y0, y1, y2, y3, n, _, hl, h0, h1, h2, h3⟩ := trod_struct4 Tryz.underlying39 h
  rw [cellsM6] at hl
  obtain ⟨a, b, c, d, e, f, rfl⟩ := list6 hl
  simp only [cells3, cellsK] at h0 h1 h2 h3
  obtain ⟨p1, p2, p3, e0, w1, w2, w3⟩ := open_keyq h0
  obtain ⟨p4, e1, w4⟩ := open_i64 h1
  obtain ⟨p5, e2, w5⟩ := open_i64 h2
  obtain ⟨p6, e3, w6⟩ := open_i64 h3
  simp at e0 e1 e2 e3
  obtain ⟨rfl, rfl, rfl⟩ := e0
  subst e1 e2 e3
  exact ⟨((p1, p2, p3), p4, p5, p6), rfl, ⟨wfQ w1, wfQ w2, wfQ w3⟩, wfQ w4, wfQ w5, wfQ w6⟩
theorem open_op {H : Type} {en : TypeId × Value → H} {W : World} {base fuel : Nat} {spare : Nat → Bool} {held : Bool} {cs : List Value} {x : DataW H × List MemPlace} (h : DataW.trod en Tryz.prog W base spare held fuel 43 cs = some x) :
    ∃ o : Oq, cs = encQ o ∧ wfO o := by
  obtain ⟨y0, y1, y2, y3, n, _, hl, h0, h1, h3, h2⟩ := trod_struct4 Tryz.underlying43 h
  rw [cellsOp] at hl
  obtain ⟨a, b, c, d, e, f, g, i, j, k, l, rfl⟩ := list11 hl
  simp only [cells3, cellsIt] at h0 h1 h2 h3
  obtain ⟨p0, e0, _⟩ := open_i64 h0
  obtain ⟨p1, e1, w1⟩ := open_i64 h1
  obtain ⟨p2, e2, w2⟩ := open_i64 h3
  obtain ⟨z0, z1, z2, n2, _, hl2, g0, g1, g2⟩ := trod_struct3 Tryz.underlying41 h2
  simp only [cells3, cellsM6] at g0 g1 g2
  obtain ⟨q0, e3, _⟩ := open_i64 g0
  obtain ⟨m, e4, wm⟩ := open_msgq g1
  obtain ⟨q1, e5, _⟩ := open_i64 g2
  simp at e0 e1 e2 e3 e4 e5
  obtain ⟨rfl, rfl, rfl, rfl, rfl, rfl⟩ := e4
  subst e0 e1 e2 e3 e5
  exact ⟨⟨p0, p1, p2, q0, m, q1⟩, rfl, w1, w2, wm⟩
theorem mem_getQ {α : Type} {l : List α} {z : α} {i : Nat} (hi : i < l.length) : l.getD i z ∈ l := by simp [hi]
theorem open_ops {H : Type} {en : TypeId × Value → H} {W : World} {base fuel : Nat} {spare : Nat → Bool} {held : Bool} {v : Value} {x : DataW H × List MemPlace} (h : DataW.trod en Tryz.prog W base spare held fuel 26 [v] = some x) :
    ∃ (sa : Option Addr) (sc : Nat) (l : List Oq), v = .slice sa l.length sc ∧ l.length ≤ maxLen ∧ RdQ W sa l := by
  obtain ⟨sa, sc, l, rfl, hm, hok, hrd⟩ := open_gen oq0 43 26 encQ 11 (by omega) (fun _ => rfl) cellsOp Tryz.underlying26 (fun o => wfO o) (fun n cs x h => open_op h) h
  exact ⟨sa, sc, l, rfl, hm, fun i hi => hok _ (mem_getQ hi), hrd⟩
end Go.Proofs.YtiaopafkfadmkaaGreat
