/- Proved: a federation that came in by value, and slices of sends, of bytes, of bools that came in: what the walk is told of them. -/
import Derived.Test.YtkodjioofkdepaaJPln
import Derived.ChangeSlices
import Derived.OpenShut
import Derived.ProofKit
import Derived.Deep.Slices
import Derived.Deep.Strs
import Derived.Lib.SmallJoins
namespace Go.Proofs.Ytkodjioofkdepaa
open Go.ChangeShapes Go.WideShapes Go.ChangeAt Go.RowKit Go.Deep Go.Joins
set_option linter.unusedVariables false

theorem spot_of {w : World} {a : Addr} {v : Value} (h : w.cell? a = some v) : a.spot = none := by
  unfold World.cell? at h
  split at h
  · split at h
    · cases h
    · rename_i hs
      simpa using hs
  · cases h
theorem wf_i64' {a : Int} (h : (Lit.int .i64 a).wf = true) : i64 a := by
  have := bounds_i64 h
  unfold i64
  omega
/-- A slice that came in, whatever its elements. -/
theorem open_gen {α H : Type} {en : TypeId × Value → H} {W : World} {base fuel : Nat} {spare : Nat → Bool} {held : Bool} {v : Value} {x : DataW H × List MemPlace} (z : α) (e t : TypeId) (enc : α → List Value) (sz : Nat) (h0 : 0 < sz) (hlen : ∀ x, (enc x).length = sz) (hc : Try.prog.cellsOf e = sz) (ht : Try.prog.underlying t = some (.slice e)) (ok : α → Prop)
    (hel : ∀ n cs x, DataW.trod en Try.prog W base spare held n e cs = some x → ∃ a : α, cs = enc a ∧ ok a)
    (h : DataW.trod en Try.prog W base spare held fuel t [v] = some x) :
    ∃ (sa : Option Addr) (sc : Nat) (l : List α), v = .slice sa l.length sc ∧ l.length ≤ maxLen ∧ (∀ a ∈ l, ok a) ∧ (l ≠ [] → ∃ b off, sa = some ⟨b, off, none⟩ ∧ b < W.heap.size ∧ ∀ i, i < l.length → ∀ c, c < sz → W.cell? ⟨b, off + i * sz + c, none⟩ = (enc (l.getD i z))[c]?) := by
  rcases open_slice ht h with ⟨hcs, _⟩ | ⟨a, len, cap, m, n, D, Pl, hcs, _, hl, hm, hmm, _, hx⟩
  · simp at hcs
    exact ⟨none, 0, [], hcs, Nat.zero_le _, (fun a ha => by cases ha), fun g => absurd rfl g⟩
  · simp at hcs
    have hml : len ≤ m := by rw [hmm]; split <;> omega
    rw [hc] at hx
    haveI : Inhabited α := ⟨z⟩
    obtain ⟨F, hF⟩ := choose_lt (α := α) (p := fun i o => ok o ∧ W.cells? base (a.add (i * sz)) sz = some (enc o)) (fun i (hi : i < m) => by
      obtain ⟨cs', h1, h2⟩ := hx i hi
      obtain ⟨o, rfl, hok⟩ := hel _ _ _ h2
      exact ⟨o, hok, h1⟩)
    refine ⟨some a, cap, (List.range len).map F, by simpa using hcs, by simp; omega, fun y hy => ?_, fun g => ?_⟩
    · obtain ⟨i, hi, rfl⟩ := List.mem_map.1 hy
      exact (hF i (by simp at hi; omega)).1
    · have hlp : 0 < len := by
        rcases Nat.eq_zero_or_pos len with e | e
        · rw [e] at g; simp at g
        · exact e
      have hcell0 : ∀ i, i < len → ∀ c, c < sz → W.cell? ((a.add (i * sz)).add c) = (enc (F i))[c]? := fun i hi c hc => (World.cells?_some (hF i (by omega)).2).2.2 c hc
      have hc0 := hcell0 0 hlp 0 h0
      obtain ⟨v0, hv0⟩ : ∃ v0, (enc (F 0))[0]? = some v0 := ⟨_, List.getElem?_eq_getElem (by rw [hlen]; exact h0)⟩
      rw [hv0] at hc0
      have hs := spot_of (a := a) (v := v0) (by simpa [Addr.add] using hc0)
      obtain ⟨b, off, spot⟩ := a
      simp only at hs
      subst hs
      have hcell : ∀ i, i < len → ∀ c, c < sz → W.cell? ⟨b, off + i * sz + c, none⟩ = (enc (F i))[c]? := fun i hi c hc => by
        have := hcell0 i hi c hc
        rwa [Addr.add_lit, Addr.add_lit] at this
      refine ⟨b, off, rfl, ?_, ?_⟩
      · have := hcell 0 hlp 0 h0
        rw [hv0] at this
        exact clt this
      · intro i hi c hc
        simp only [List.length_map, List.length_range] at hi
        rw [hcell i hi c hc]
        simp [hi]
theorem cells3 : Try.prog.cellsOf 3 = 1 := by kernel_rfl
theorem cellsI : Try.prog.cellsOf 28 = 1 := by kernel_rfl
theorem cellsO : Try.prog.cellsOf 69 = 3 := by kernel_rfl
theorem cellsOs : Try.prog.cellsOf 63 = 1 := by kernel_rfl
theorem cellsR : Try.prog.cellsOf 71 = 4 := by kernel_rfl
theorem cellsRs : Try.prog.cellsOf 62 = 1 := by kernel_rfl
theorem cellsF : Try.prog.cellsOf 65 = 7 := by kernel_rfl
theorem cellsW : Try.prog.cellsOf 31 = 3 := by kernel_rfl
theorem list3 {cs : List Value} (h : cs.length = 3) : ∃ a b c, cs = [a, b, c] := by
  match cs, h with
  | [a, b, c], _ => exact ⟨a, b, c, rfl⟩
theorem list4 {cs : List Value} (h : cs.length = 4) : ∃ a b c d, cs = [a, b, c, d] := by
  match cs, h with
  | [a, b, c, d], _ => exact ⟨a, b, c, d, rfl⟩
theorem list7 {cs : List Value} (h : cs.length = 7) : ∃ a b c d e f g, cs = [a, b, c, d, e, f, g] := by
  match cs, h with
  | [a, b, c, d, e, f, g], _ => exact ⟨a, b, c, d, e, f, g, rfl⟩
theorem open_int1 {H : Type} {en : TypeId × Value → H} {W : World} {base fuel : Nat} {spare : Nat → Bool} {held : Bool} {cs : List Value} {x : DataW H × List MemPlace} (h : DataW.trod en Try.prog W base spare held fuel 3 cs = some x) :
    ∃ a : Int, cs = [.int .i64 a] ∧ i64 a := by
  obtain ⟨p, e0, _, w0⟩ := DataW.trod_int Try.underlying3 h
  exact ⟨p, e0, wf_i64' w0⟩
theorem open_intsl {H : Type} {en : TypeId × Value → H} {W : World} {base fuel : Nat} {spare : Nat → Bool} {held : Bool} {v : Value} {x : DataW H × List MemPlace} (h : DataW.trod en Try.prog W base spare held fuel 28 [v] = some x) :
    ∃ (sa : Option Addr) (sc : Nat) (l : List Int), v = .slice sa l.length sc ∧ RdI W W.heap.size sa l := by
  obtain ⟨sa, sc, l, rfl, _, _, hrd⟩ := open_gen (0 : Int) 3 28 (fun a : Int => [.int .i64 a]) 1 (by omega) (fun _ => rfl) cells3 Try.underlying28 i64 (fun n cs x h => open_int1 h) h
  refine ⟨sa, sc, l, rfl, fun g => ?_⟩
  obtain ⟨b, off, rfl, hb, hc⟩ := hrd g
  refine ⟨b, off, rfl, hb, fun i hi => ?_⟩
  have := hc i hi 0 (by omega)
  simpa [nthI] using this
theorem open_out {H : Type} {en : TypeId × Value → H} {W : World} {base fuel : Nat} {spare : Nat → Bool} {held : Bool} {cs : List Value} {x : DataW H × List MemPlace} (h : DataW.trod en Try.prog W base spare held fuel 69 cs = some x) :
    ∃ o : O, cs = encO o ∧ True := by
  obtain ⟨y0, y1, y2, n, _, hl, h0, h1, h2⟩ := trod_struct3 Try.underlying69 h
  rw [cellsO] at hl
  obtain ⟨a, b, c, rfl⟩ := list3 hl
  simp only [cells3] at h0 h1 h2
  obtain ⟨p, e0, _⟩ := open_int1 h0
  obtain ⟨q, e1, _⟩ := open_int1 h1
  obtain ⟨r, e2, _⟩ := open_int1 h2
  simp at e0 e1 e2
  subst e0 e1 e2
  exact ⟨(p, q, r), rfl, trivial⟩
theorem open_outs {H : Type} {en : TypeId × Value → H} {W : World} {base fuel : Nat} {spare : Nat → Bool} {held : Bool} {v : Value} {x : DataW H × List MemPlace} (h : DataW.trod en Try.prog W base spare held fuel 63 [v] = some x) :
    ∃ (sa : Option Addr) (sc : Nat) (l : List O), v = .slice sa l.length sc ∧ RdO W sa l := by
  obtain ⟨sa, sc, l, rfl, _, _, hrd⟩ := open_gen ((0, 0, 0) : O) 69 63 encO 3 (by omega) (fun _ => rfl) cellsO Try.underlying63 (fun _ => True) (fun n cs x h => open_out h) h
  exact ⟨sa, sc, l, rfl, hrd⟩
theorem open_rule {H : Type} {en : TypeId × Value → H} {W : World} {base fuel : Nat} {spare : Nat → Bool} {held : Bool} {cs : List Value} {x : DataW H × List MemPlace} (h : DataW.trod en Try.prog W base spare held fuel 71 cs = some x) :
    ∃ r : Rl, cs = encR r ∧ okM W r := by
  obtain ⟨y0, y1, y2, y3, n, _, hl, h0, h1, h2, h3⟩ := trod_struct4 Try.underlying71 h
  rw [cellsR] at hl
  obtain ⟨a, b, c, d, rfl⟩ := list4 hl
  simp only [cells3, cellsOs] at h0 h1 h2 h3
  obtain ⟨p, e0, w0⟩ := open_int1 h0
  obtain ⟨q, e1, w1⟩ := open_int1 h1
  obtain ⟨r, e2, w2⟩ := open_int1 h2
  obtain ⟨sa, sc, os, e3, hrd⟩ := open_outs (v := d) (by simpa using h3)
  simp at e0 e1 e2
  subst e0 e1 e2 e3
  exact ⟨⟨p, q, r, sa, sc, os⟩, rfl, w0, w1, hrd⟩
theorem open_rules {H : Type} {en : TypeId × Value → H} {W : World} {base fuel : Nat} {spare : Nat → Bool} {held : Bool} {v : Value} {x : DataW H × List MemPlace} (h : DataW.trod en Try.prog W base spare held fuel 62 [v] = some x) :
    ∃ (sa : Option Addr) (sc : Nat) (l : List Rl), v = .slice sa l.length sc ∧ RdR W sa l := by
  obtain ⟨sa, sc, l, rfl, _, hok, hrd⟩ := open_gen zeroR 71 62 encR 4 (by omega) (fun _ => rfl) cellsR Try.underlying62 (okM W) (fun n cs x h => open_rule h) h
  exact ⟨sa, sc, l, rfl, hrd, hok⟩
theorem open_fed {H : Type} {en : TypeId × Value → H} {W : World} {base fuel : Nat} {spare : Nat → Bool} {held : Bool} {cs : List Value} {x : DataW H × List MemPlace} (h : DataW.trod en Try.prog W base spare held fuel 65 cs = some x) :
    ∃ f : Fd, cs = encF f ∧ okF W f := by
  obtain ⟨xs, n, _, _, hl, hlen, hf⟩ := DataW.trod_struct Try.underlying65 h
  rw [cellsF] at hl
  obtain ⟨a, b, c, d, e, f, g, rfl⟩ := list7 hl
  have h0 : DataW.trod en Try.prog W base spare held n 3 (List.take (Try.prog.cellsOf 3) (List.drop 0 [a, b, c, d, e, f, g])) = xs[0]? := hf 0 _ rfl
  have h1 : DataW.trod en Try.prog W base spare held n 3 (List.take (Try.prog.cellsOf 3) (List.drop 1 [a, b, c, d, e, f, g])) = xs[1]? := hf 1 _ rfl
  have h2 : DataW.trod en Try.prog W base spare held n 3 (List.take (Try.prog.cellsOf 3) (List.drop 2 [a, b, c, d, e, f, g])) = xs[2]? := hf 2 _ rfl
  have h3 : DataW.trod en Try.prog W base spare held n 62 (List.take (Try.prog.cellsOf 62) (List.drop 3 [a, b, c, d, e, f, g])) = xs[3]? := hf 3 _ rfl
  have h4 : DataW.trod en Try.prog W base spare held n 28 (List.take (Try.prog.cellsOf 28) (List.drop 4 [a, b, c, d, e, f, g])) = xs[4]? := hf 4 _ rfl
  have h5 : DataW.trod en Try.prog W base spare held n 28 (List.take (Try.prog.cellsOf 28) (List.drop 5 [a, b, c, d, e, f, g])) = xs[5]? := hf 5 _ rfl
  have h6 : DataW.trod en Try.prog W base spare held n 63 (List.take (Try.prog.cellsOf 63) (List.drop 6 [a, b, c, d, e, f, g])) = xs[6]? := hf 6 _ rfl
  simp only [cells3, cellsI, cellsOs, cellsRs] at h0 h1 h2 h3 h4 h5 h6
  have hx : xs.length = 7 := hlen
  rw [List.getElem?_eq_getElem (by omega)] at h0 h1 h2 h3 h4 h5 h6
  obtain ⟨p, e0, _⟩ := open_int1 h0
  obtain ⟨q, e1, _⟩ := open_int1 h1
  obtain ⟨r, e2, _⟩ := open_int1 h2
  obtain ⟨ra, rc, rs, e3, hr⟩ := open_rules (v := d) (by simpa using h3)
  obtain ⟨pa, pc, ps, e4, hp⟩ := open_intsl (v := e) (by simpa using h4)
  obtain ⟨sa, sc, ss, e5, hs⟩ := open_intsl (v := f) (by simpa using h5)
  obtain ⟨ia, ic, is, e6, hi⟩ := open_outs (v := g) (by simpa using h6)
  simp at e0 e1 e2
  subst e0 e1 e2 e3 e4 e5 e6
  exact ⟨⟨p, q, r, ra, rc, rs, pa, pc, ps, sa, sc, ss, ia, ic, is⟩, rfl, hr, hp, hs, hi⟩
theorem open_feds {H : Type} {en : TypeId × Value → H} {W : World} {base fuel : Nat} {spare : Nat → Bool} {held : Bool} {v : Value} {x : DataW H × List MemPlace} (h : DataW.trod en Try.prog W base spare held fuel 29 [v] = some x) :
    ∃ (sa : Option Addr) (sc : Nat) (l : List Fd), v = .slice sa l.length sc ∧ RdF W sa l := by
  obtain ⟨sa, sc, l, rfl, _, hok, hrd⟩ := open_gen zeroF 65 29 encF 7 (by omega) (fun _ => rfl) cellsF Try.underlying29 (okF W) (fun n cs x h => open_fed h) h
  exact ⟨sa, sc, l, rfl, hrd, hok⟩
set_option maxRecDepth 100000 in
theorem open_world {H : Type} {enc : TypeId × Value → H} {W : World} {base : Nat} {spare : Nat → Bool} {held : Bool} {r : Reach} {b0 : Nat} {v : Value} {d : DataW H} {p : List MemPlace}
    (hv : Value.okWide Try.prog W r b0 31 v) (h : DataW.Trod enc Try.prog W base spare held 31 v d p) :
    ∃ D : Wd, v = wv D ∧ RdI W W.heap.size D.pa D.ps ∧ RdF W D.fa D.fs := by
  obtain ⟨c0, c1, c2, y0, y1, y2, m, rfl, _, _, hy0, hy1, hy2⟩ := open_agg3 Try.underlying31 (by kernel_rfl) cellsW hv h
  obtain ⟨pa, pc, ps, e0, h0⟩ := open_intsl hy0
  obtain ⟨fa, fc, fs, e1, h1⟩ := open_feds hy1
  obtain ⟨en, e2, _⟩ := open_int1 hy2
  simp at e2
  subst e0 e1 e2
  exact ⟨⟨pa, pc, ps, fa, fc, fs, en⟩, rfl, h0, h1⟩
end Go.Proofs.Ytkodjioofkdepaa
