/- Proved: a gate, rows of messages beside it, and one more row that grows. -/
import Derived.Test.YtpkemgpnpadkfaaLw0
namespace Go.Proofs.Ytpkemgpnpadkfaa
open Go.RowKit Go.Shelf Go.Sort
set_option linter.unusedVariables false

/-- A gate, rows, and a row vl of one's own, that tells l. -/
def Gr (w W : World) (fl : Int) (L : List H) (b : Nat) (rs : Rws) (vl : Value) (l : List M) : Prop :=
  ∃ v, GQ (fun k => k < w.heap.size) W fl L b v ∧ Below w.heap.size w W ∧ (∀ r ∈ rs, RdN cM (fun k => ¬ D b v k ∧ vl.ownBlock ≠ some k) W r.1 r.2) ∧ OwR cM 30 W vl l ∧ ∀ k, vl.ownBlock = some k → w.heap.size ≤ k ∧ ¬ D b v k
theorem Gr.bel {w W : World} {fl : Int} {L : List H} {b : Nat} {rs : Rws} {vl : Value} {l : List M} (h : Gr w W fl L b rs vl l) : Below w.heap.size w W := by
  obtain ⟨v, _, h2, _⟩ := h
  exact h2
theorem Gr.own {w W : World} {fl : Int} {L : List H} {b : Nat} {rs : Rws} {vl : Value} {l : List M} (h : Gr w W fl L b rs vl l) : OwR cM 30 W vl l := by
  obtain ⟨v, _, _, _, h4, _⟩ := h
  exact h4
theorem Gr.row {w W : World} {fl : Int} {L : List H} {b : Nat} {rs : Rws} {vl : Value} {l : List M} (h : Gr w W fl L b rs vl l) {a : Option Addr} {ms : List M} (hr : (a, ms) ∈ rs) : RdN cM (fun _ => True) W a ms := by
  obtain ⟨v, _, _, h3, _⟩ := h
  exact (h3 _ hr).wide (fun _ _ _ => trivial)
theorem Gr.on {w W W2 : World} {fl : Int} {L : List H} {b : Nat} {rs : Rws} {vl : Value} {l : List M} (h : Gr w W fl L b rs vl l) (hb : Below W.heap.size W W2) : Gr w W2 fl L b rs vl l := by
  obtain ⟨v, h1, h2, h3, h4, h5⟩ := h
  exact ⟨v, h1.below hb, Below.on h2 hb, fun r hr => (h3 r hr).below hb, h4.below hb, h5⟩
/-- It begins with a row that is made. -/
theorem Gr.start {w W : World} {fl : Int} {L : List H} {b : Nat} {rs : Rws} (h : Ga w W fl L b rs) : Gr w (W.alloc (.cells #[] 30)) fl L b rs (.slice (some ⟨W.heap.size, 0, none⟩) 0 0) [] := by
  obtain ⟨v, h1, h2, h3⟩ := h
  have hb := al W (.cells #[] 30)
  refine ⟨v, h1.below hb, Below.on h2 hb, fun r hr g => ?_, OwR.made cM _ W, fun k e => ?_⟩
  · obtain ⟨bb, off, e, hB, hN, hc⟩ := (h3 r hr) g
    obtain ⟨bb', off', e', hB', hN', hc'⟩ := ((h3 r hr).below hb) g
    rw [e] at e'
    simp at e'
    obtain ⟨rfl, rfl⟩ := e'
    exact ⟨bb, off, e, hB', ⟨hN, by simp [Value.ownBlock]; omega⟩, hc'⟩
  · simp [Value.ownBlock] at e
    subst e
    exact ⟨h2.size, fun d => by have := h1.dlt d; omega⟩
theorem Gr.app {w W w2 : World} {fl : Int} {L : List H} {b : Nat} {rs : Rws} {vl vl' : Value} {l l' : List M} (h : Gr w W fl L b rs vl l) (ho : OwR cM 30 w2 vl' l') (hm : Mw (fun k => vl.ownBlock = some k) (fun k => vl'.ownBlock = some k) W w2) : Gr w w2 fl L b rs vl' l' := by
  obtain ⟨v, h1, h2, h3, h4, h5⟩ := h
  refine ⟨v, h1.keep hm.fr (fun k e d => (h5 k e).2 d) (fun k _ e d => h1.dx d e) (fun k e => Nat.lt_of_lt_of_le (h1.xl k e) hm.fr.size), h2.trans (hm.fr.below h2.size (fun i e => (h5 i e).1)), fun r hr => (h3 r hr).keep hm.fr (fun k hk e => ⟨e.2, e.1, fun g => e.2 (hm.new k hk g)⟩), ho, fun k e => ?_⟩
  rcases Nat.lt_or_ge k W.heap.size with g | g
  · exact h5 k (hm.new k g e)
  · exact ⟨Nat.le_trans h2.size g, fun d => by have := h1.dlt d; omega⟩
/-- The row that has grown is a row as the others. -/
theorem Gr.done {w W : World} {fl : Int} {L : List H} {b : Nat} {rs : Rws} {a : Option Addr} {n c : Nat} {l : List M} (h : Gr w W fl L b rs (.slice a n c) l) : Ga w W fl L b ((a, l) :: rs) := by
  obtain ⟨v, h1, h2, h3, h4, h5⟩ := h
  refine ⟨v, h1, h2, fun r hr => ?_⟩
  rcases List.mem_cons.1 hr with rfl | hr
  · exact h4.look.2.wide (fun k _ e => (h5 k e).2)
  · exact (h3 r hr).wide (fun k _ e => e.1)
end Go.Proofs.Ytpkemgpnpadkfaa
