/- Proved: rows of integers in memory, one's own, and slices that came in. -/
import Derived.Test.YtmciameckbbgaaaRow
import Derived.Test.YtmciameckbbgaaaOpg
import Derived.Test.YtmciameckbbgaaaGpl
namespace Go.Proofs.Ytmciameckbbgaaa
open Go.ChangeShapes Go.WideShapes Go.ChangeAt Go.RowKit Go.Deep Go.Joins Go.Shelf
set_option linter.unusedVariables false

def encI (x : Int) : List Value := [.int .i64 x]
theorem encI_one (x : Int) : ∀ v ∈ encI x, v.oneCell' = true := by
  intro v hv
  simp only [encI, List.mem_cons, List.not_mem_nil, or_false] at hv
  subst hv
  rfl
def cI : Cd Int := ⟨encI, 1, 0, fun _ => rfl, encI_one, by decide⟩
def tyI : Ty cI 22 3 := ⟨.int .i64 0, 8, Try.underlying22, by kernel_rfl, rfl, by decide⟩
theorem RdN.int {N : Nat → Prop} {W : World} {a : Option Addr} {l : List Int} (h : RdN cI N W a l) {i : Nat} (hi : i < l.length) {x : Int} (hx : l.getD i 0 = x) : ∃ b off, a = some ⟨b, off, none⟩ ∧ b < W.heap.size ∧ W.cell? ⟨b, off + i, none⟩ = some (.int .i64 x) := by
  obtain ⟨b, off, rfl, hb, _, hc⟩ := h (by intro e; rw [e] at hi; simp at hi)
  have hx' : nth cI l i = x := hx
  have g := hc i hi 0 (by show 0 < 1; omega)
  rw [hx'] at g
  exact ⟨b, off, rfl, hb, by simpa [cI, encI] using g⟩
theorem OwR.rdI {W : World} {a : Option Addr} {n c : Nat} {l : List Int} (h : OwR cI 3 W (.slice a n c) l) : n = l.length ∧ RdN cI (fun _ => True) W a l := ⟨h.look.1, h.look.2.wide (fun _ _ _ => trivial)⟩
/-- A row of integers that was made since w. -/
structure Ri (w W : World) (v : Value) (l : List Int) : Prop where
  own : OwR cI 3 W v l
  new : ∀ k, v.ownBlock = some k → w.heap.size ≤ k
  bel : Below w.heap.size w W
theorem Ri.on {w W W2 : World} {v : Value} {l : List Int} (h : Ri w W v l) (g : Below W.heap.size W W2) : Ri w W2 v l := ⟨h.own.below g, h.new, Below.on h.bel g⟩
theorem Ri.app {w W W2 : World} {v v2 : Value} {l l2 : List Int} (h : Ri w W v l) (ho : OwR cI 3 W2 v2 l2) (hm : Mw (fun k => v.ownBlock = some k) (fun k => v2.ownBlock = some k) W W2) : Ri w W2 v2 l2 :=
  ⟨ho, fun k e => by
    by_cases g : k < W.heap.size
    · exact h.new k (hm.new k g e)
    · have := h.bel.size; omega, h.bel.trans (hm.fr.below h.bel.size h.new)⟩
theorem Ri.made {w W : World} (h : Below w.heap.size w W) : Ri w (W.alloc (.cells #[] 3)) (.slice (some ⟨W.heap.size, 0, none⟩) 0 0) [] :=
  ⟨OwR.made _ _ _, fun k e => by simp [Value.ownBlock] at e; have := h.size; omega, Below.on h (al _ _)⟩
theorem Ri.rd {w W : World} {a : Option Addr} {n c : Nat} {l : List Int} (h : Ri w W (.slice a n c) l) : RdN cI (fun _ => True) W a l := h.own.rdI.2
theorem cells3 : Try.prog.cellsOf 3 = 1 := by kernel_rfl
theorem open_i1 {H : Type} {en : TypeId × Value → H} {W : World} {base fuel : Nat} {spare : Nat → Bool} {held : Bool} {cs : List Value} {x : DataW H × List MemPlace} (h : DataW.trod en Try.prog W base spare held fuel 3 cs = some x) :
    ∃ a : Int, cs = [.int .i64 a] := by
  obtain ⟨p, e0, _, _⟩ := DataW.trod_int Try.underlying3 h
  exact ⟨p, e0⟩
/-- A slice of integers that came in. -/
abbrev RdI (w : World) (a : Option Addr) (l : List Int) : Prop := RdN cI (fun _ => True) w a l
theorem open_ints {H : Type} {en : TypeId × Value → H} {W : World} {base fuel : Nat} {spare : Nat → Bool} {held : Bool} {v : Value} {x : DataW H × List MemPlace} (h : DataW.trod en Try.prog W base spare held fuel 22 [v] = some x) :
    ∃ (sa : Option Addr) (sc : Nat) (l : List Int), v = .slice sa l.length sc ∧ l.length ≤ maxLen ∧ RdI W sa l := by
  obtain ⟨sa, sc, l, rfl, hm, _, hrd⟩ := open_gen (0 : Int) 3 22 encI 1 (by omega) (fun _ => rfl) cells3 Try.underlying22 (fun _ => True) (fun n cs x h => (open_i1 h).elim fun m e => ⟨m, e, trivial⟩) h
  refine ⟨sa, sc, l, rfl, hm, fun g => ?_⟩
  obtain ⟨b, off, rfl, hb, hc⟩ := hrd g
  exact ⟨b, off, rfl, hb, trivial, hc⟩
end Go.Proofs.Ytmciameckbbgaaa
