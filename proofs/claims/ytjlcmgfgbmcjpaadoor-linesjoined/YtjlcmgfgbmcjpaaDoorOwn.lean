/- Proved: how rows that a call itself makes lie in memory, one behind the other, and that they are kept. -/
import Derived.Test.YtjlcmgfgbmcjpaaDoorMem
import Derived.OwnWalk
import Derived.Laws.OwnMore
import Derived.Maps.AppendAt
namespace Go.Proofs.YtjlcmgfgbmcjpaaDoor
open Go.RowKit
set_option linter.unusedVariables false

theorem info9 : (Tryd.prog.info? 9).map (fun i => (i.zero, i.size, i.bytes)) = some (some (.string ⟨#[]⟩), 1, 16) := by kernel_rfl
theorem info42 : (Tryd.prog.info? 42).map (fun i => (i.zero, i.size, i.bytes)) = some (some (.slice none 0 0), 1, 24) := by kernel_rfl

/-- u is the call's own slice of the texts F. -/
def OwnS (B : Nat) (w : World) (u : Value) (F : List ByteArray) : Prop := w.ownsRow B 9 1 u F.length (F.map Value.string)
/-- v is the call's own slice of the rows RS, each the call's own, in blocks below C. -/
def OwnR (B C : Nat) (w : World) (v : Value) (RS : List (List ByteArray)) : Prop :=
  ∃ vs : List Value, w.ownsRow B 42 1 v RS.length vs ∧ ∀ i (h : i < RS.length), ∃ u, vs[i]? = some u ∧ OwnS B w u RS[i] ∧ ∀ k, u.ownBlock = some k → k < C

theorem own_kept {B : Nat} {w w' : World} {e n : Nat} {v : Value} {xs : List Value} (h : w.ownsRow B e 1 v n xs) (hb : Below w.heap.size w w') : w'.ownsRow B e 1 v n xs := by
  refine ⟨h.1, ?_⟩
  rcases h.2 with hn | ⟨g, cap, cur, rfl, hb2, hgg, rest⟩
  · exact .inl hn
  · exact .inr ⟨g, cap, cur, rfl, hb2, (hb.block g (Array.getElem?_eq_some_iff.1 hgg).1).trans hgg, rest⟩
theorem OwnR.kept {B C : Nat} {w w' : World} {v : Value} {RS : List (List ByteArray)} (h : OwnR B C w v RS) (hb : Below w.heap.size w w') : OwnR B C w' v RS := by
  obtain ⟨vs, h1, h2⟩ := h
  refine ⟨vs, own_kept h1 hb, fun i hi => ?_⟩
  obtain ⟨u, hu, ho, hc⟩ := h2 i hi
  exact ⟨u, hu, own_kept ho hb, hc⟩
theorem OwnR.wide {B C C' : Nat} {w : World} {v : Value} {RS : List (List ByteArray)} (h : OwnR B C w v RS) (hc : C ≤ C') : OwnR B C' w v RS := by
  obtain ⟨vs, h1, h2⟩ := h
  refine ⟨vs, h1, fun i hi => ?_⟩
  obtain ⟨u, hu, ho, hk⟩ := h2 i hi
  exact ⟨u, hu, ho, fun k e => Nat.lt_of_lt_of_le (hk k e) hc⟩
/-- A slice of texts and a slice of rows lie in two blocks. -/
theorem apart {B B' n m : Nat} {w : World} {u v : Value} {xs ys : List Value} (hu : w.ownsRow B 9 1 u n xs) (hv : w.ownsRow B' 42 1 v m ys) : u.ownBlock = none ∨ u.ownBlock ≠ v.ownBlock := by
  rcases hu.2 with ⟨rfl, _⟩ | ⟨g, cap, cur, rfl, _, hg, _⟩
  · exact .inl rfl
  · rcases hv.2 with ⟨rfl, _⟩ | ⟨g', cap', cur', rfl, _, hg', _⟩
    · right; simp [Value.ownBlock]
    · right
      simp only [Value.ownBlock, ne_eq, Option.some.injEq]
      rintro rfl
      rw [hg] at hg'
      simp at hg'
theorem apart' {B B' n m : Nat} {w : World} {u v : Value} {xs ys : List Value} (hu : w.ownsRow B 9 1 u n xs) (hv : w.ownsRow B' 42 1 v m ys) : v.ownBlock = none ∨ v.ownBlock ≠ u.ownBlock := by
  rcases hv.2 with ⟨rfl, _⟩ | ⟨g', cap', cur', rfl, _, hg', _⟩
  · exact .inl rfl
  · rcases apart hu hv with h | h
    · rw [h]; right; simp [Value.ownBlock]
    · exact .inr (Ne.symm h)
theorem OwnR.alloc {B C : Nat} {w : World} {v : Value} {RS : List (List ByteArray)} (h : OwnR B C w v RS) (o : Obj) : OwnR B C (w.alloc o) v RS := by
  obtain ⟨vs, h1, h2⟩ := h
  refine ⟨vs, h1.alloc o, fun i hi => ?_⟩
  obtain ⟨u, hu, ho, hk⟩ := h2 i hi
  exact ⟨u, hu, World.ownsRow.alloc ho o, hk⟩
/-- A row is put behind the others. -/
theorem OwnR.push {B C C' : Nat} {w w1 : World} {v v' u : Value} {RS : List (List ByteArray)} {F : List ByteArray} {vs : List Value} {o : Obj}
    (h : w.ownsRow B 42 1 v RS.length vs ∧ ∀ i (h : i < RS.length), ∃ u, vs[i]? = some u ∧ OwnS B w u RS[i] ∧ ∀ k, u.ownBlock = some k → k < C) (hu : OwnS B w u F) (hc : ∀ k, u.ownBlock = some k → k < C') (hcc : C ≤ C')
    (h1 : w1.ownsRow B 42 1 v' (RS.length + 1) (vs ++ [u])) (hg : (w.alloc o).grownBy w1 v.ownBlock) : OwnR B C' w1 v' (RS ++ [F]) := by
  obtain ⟨h0, h2⟩ := h
  have hv := h0.alloc o
  have hvl : vs.length = RS.length := by have := h0.1; omega
  refine ⟨vs ++ [u], by simpa using h1, fun i hi => ?_⟩
  by_cases hlt : i < RS.length
  · obtain ⟨x, hx, ho, hk⟩ := h2 i hlt
    have ho' := World.ownsRow.alloc ho o
    refine ⟨x, by rw [List.getElem?_append_left (by omega)]; exact hx, ?_, fun k e => Nat.lt_of_lt_of_le (hk k e) hcc⟩
    rw [List.getElem_append_left hlt]
    exact ho'.kept hg (apart ho' hv)
  · obtain rfl : i = RS.length := by simp at hi; omega
    have hu' := World.ownsRow.alloc hu o
    refine ⟨u, by rw [List.getElem?_append_right (by omega)]; simp [hvl], ?_, hc⟩
    rw [List.getElem_append_right (by omega)]
    simpa [OwnS] using hu'.kept hg (apart hu' hv)
/-- Rows of the call's own, read. -/
theorem OwnS.strs {B : Nat} {w : World} {u : Value} {F : List ByteArray} (h : OwnS B w u F) : IsStrs w.heap.size w u F := by
  rcases h.2 with ⟨rfl, hn⟩ | ⟨g, cap, cur, rfl, hb, hg, hnc, hcm, hcs, htake⟩
  · have : F = [] := List.length_eq_zero_iff.1 hn
    subst this
    exact ⟨none, 0, rfl, fun hf => absurd rfl hf⟩
  · refine ⟨_, _, rfl, fun _ => ⟨g, 0, rfl, (Array.getElem?_eq_some_iff.1 hg).1, fun i hi => ?_⟩⟩
    rw [Nat.zero_add]
    have := World.ownsRow.cellAt h i (by omega)
    rw [this, List.getElem?_map, List.getElem?_eq_getElem hi]; rfl
theorem OwnR.rows {B C : Nat} {w : World} {v : Value} {RS : List (List ByteArray)} (h : OwnR B C w v RS) : IsRows w.heap.size w v RS := by
  obtain ⟨vs, h0, h2⟩ := h
  rcases h0.2 with ⟨rfl, hn⟩ | ⟨g, cap, cur, rfl, hb, hg, hnc, hcm, hcs, htake⟩
  · have : RS = [] := List.length_eq_zero_iff.1 hn
    subst this
    exact ⟨none, 0, rfl, fun hf => absurd rfl hf⟩
  · refine ⟨_, _, rfl, fun _ => ⟨g, 0, rfl, (Array.getElem?_eq_some_iff.1 hg).1, fun i hi => ?_⟩⟩
    obtain ⟨u, hu, ho, _⟩ := h2 i hi
    rw [Nat.zero_add]
    have := World.ownsRow.cellAt h0 i (by omega)
    exact ⟨u, this.trans hu, ho.strs⟩
end Go.Proofs.YtjlcmgfgbmcjpaaDoor
