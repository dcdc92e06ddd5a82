/- Proved: the contract of Send of the document's net. -/
import Derived.Test.YtkngokpildoljaaDn3
namespace Go.Proofs.Ytkngokpildoljaa
open Go.RowKit Go.Shelf Go.Sort
set_option linter.unusedVariables false

/-- A thing in the blocks F has become one in the blocks F2. -/
def Stp2 (F F2 : Nat → Prop) (w w' : World) : Prop := Fr F w w' ∧ ∀ k, F2 k → F k ∨ w.heap.size ≤ k
theorem Stp2.same {F : Nat → Prop} {w w' : World} (h : Below w.heap.size w w') : Stp2 F F w w' := ⟨Fr.of_below h, fun _ hk => .inl hk⟩
theorem step_append_run {P : Program} {ops : Array Oper} {o : Oper} {a : Act} {w : World} {K : Act → World → Prop} {Q : Exit → Act → World → Prop} {E : Prop}
    (hg : o.guard = none) (s x : Operand) (t : TypeId) (hop : o.op = Op.call { callee := Callee.builtin Builtin.append, args := #[s, x], argTypes := #[t, t] })
    {v1 v2 v' : Value} {w' : World} (hs : a.eval s = v1) (hx : a.eval x = v2) (hrun : (Builtin.append_ #[t, t] o.type #[v1, v2]).run P w = .ok v' w')
    (hK : K (a.put o.dst v') w') :
    if Region.wanted o (yielded ops a.tmps) = true then Oper.wp P o a w K Q else E := by
  have hw : Region.wanted o (yielded ops a.tmps) = true := by simp [Region.wanted, hg]
  rw [if_pos hw]
  unfold Oper.wp
  simp [execOp, hop, resolve, invoke, builtin, hs, hx, hrun, Result.andThen]
  exact hK
theorem lk_upd {n : Nat} (L : Ln) {a b : Nat} (ha : a < n) (hb : b < n) (l : List It) (k : Nat) : lk n (updL L a b l) k = if k = a * n + b then l else lk n L k := by
  by_cases e : k = a * n + b
  · rw [if_pos e, e, lk_at _ hb, updL_at]
  · rw [if_neg e]
    unfold lk
    refine updL_out _ _ _ _ (fun g => e ?_)
    have h1 : k / n = a := by omega
    have h2 : k % n = b := by omega
    have h3 := Nat.div_add_mod k n
    rw [h1, h2, Nat.mul_comm] at h3
    exact h3.symm
theorem RdG.wide2 {w : World} {G G2 : Nat → Prop} {a : Option Addr} {l : List It} (h : RdG w G a l) (hd : ∀ k, G k → k < w.heap.size → G2 k) : RdG w G2 a l := fun g => by
  obtain ⟨b, off, e, hg, hb, hc⟩ := h g
  exact ⟨b, off, e, hd b hg hb, hb, hc⟩
theorem RwT.cap {n0 : Nat} {W : World} {a : Option Addr} {k c : Nat} {l : List It} (h : RwT n0 W (.slice a k c) l) : l.length ≤ c := by
  rcases h.2 with ⟨g, hn⟩ | ⟨gb, cap, cur, g, _, _, hk, _⟩
  · rw [hn]; exact Nat.zero_le _
  · simp at g
    rw [g.2.2]
    exact hk
/-- One list is another one, in new blocks. -/
theorem DN.upd {n room : Nat} {L : Ln} {tb pu : Nat} {w W w' : World} {F : Nat → Prop} (h : DN n room L tb pu w F) {a b : Nat} (ha : a < n) (hb : b < n) (hl : isL n a b = true) {l : List It} (hr : l.length ≤ room) {sa : Option Addr} {sc : Nat}
    (hW : Below w.heap.size w W) (hrd : RdG W (fun j => w.heap.size ≤ j) sa l) (hw' : w' = W.setCell ⟨pu, a * n + b, none⟩ (.slice sa l.length sc)) (hcap : l.length ≤ sc) :
    DN n room (updL L a b l) tb pu w' (fun k => F k ∨ (w.heap.size ≤ k ∧ k < w'.heap.size)) ∧ Stp2 F (fun k => F k ∨ (w.heap.size ≤ k ∧ k < w'.heap.size)) w w' := by
  have hf : Fr (fun k => k = pu) W w' := by rw [hw']; exact (Fr.refl _ W).setCell _ _ (.inl rfl)
  have hd := h.below hW
  have hsz : w'.heap.size = W.heap.size := by rw [hw']; simp
  have hpl : pu < w.heap.size := h.lt _ h.fp
  refine ⟨⟨?_, ?_, ?_, fun k hk => ?_, fun k hk a1 c1 hc1 => ?_, .inl h.ft, .inl h.fp, h.n1, fun k hk => ?_, h.ok.upd hl hr⟩, (Fr.of_below (S := F) hW).trans hf (fun i _ e => by subst e; exact h.fp), fun k hk => ?_⟩
  · exact (hf.cell (p := ⟨tb, 0, none⟩) (hd.lt _ hd.ft) h.n1).trans hd.c0
  · exact (hf.cell (p := ⟨tb, 1, none⟩) (hd.lt _ hd.ft) h.n1).trans hd.c1
  · exact (hf.cell (p := ⟨tb, 2, none⟩) (hd.lt _ hd.ft) h.n1).trans hd.c2
  · obtain ⟨a1, c1, k1, k2, k3⟩ := hd.ls k hk
    have hfz : w'.frozen? ⟨pu, k, none⟩ = false := by rw [hw', World.frozen?_setCell]; exact k2
    rw [lk_upd L ha hb l k]
    by_cases e : k = a * n + b
    · rw [if_pos e]
      refine ⟨sa, sc, ?_, hfz, ?_⟩
      · rw [hw', ← e]; exact cell_set k1
      · refine (hrd.keep hf (fun j hj g => by subst g; omega)).wide2 ?_
        intro j hj hjl
        have h1 := h.lt _ h.ft
        exact ⟨.inr ⟨hj, hjl⟩, by omega, by omega⟩
    · rw [if_neg e]
      refine ⟨a1, c1, ?_, hfz, (k3.keep hf (fun j hj => hj.2.2)).wide (fun j hj => ⟨.inl hj.1, hj.2⟩)⟩
      rw [hw', World.cell?_setCell_other _ _ _ _ (by intro g; exact e (by cases g; rfl))]
      exact k1
  · obtain ⟨a2, c2, k1, k2, k3⟩ := hd.ls k hk
    rw [lk_upd L ha hb l k] at hc1 ⊢
    by_cases e : k = a * n + b
    · rw [if_pos e] at hc1 ⊢
      subst e
      rw [hw', cell_set k1] at hc1
      simp at hc1
      omega
    · rw [if_neg e] at hc1 ⊢
      rw [hw', World.cell?_setCell_other _ _ _ _ (by intro g; exact e (by cases g; rfl))] at hc1
      exact hd.cp k hk a1 c1 hc1
  · rcases hk with g | g
    · have := hd.lt _ g; omega
    · exact g.2
  · rcases hk with g | g
    · exact .inl g
    · exact .inr g.1
end Go.Proofs.Ytkngokpildoljaa
