/- Proved: sends behind sends; rules that are not heavy. -/
import Derived.Test.YtpifkoblcbjiiaaFnd
import Derived.Deep.RegionLaw
namespace Go.Proofs.Ytpifkoblcbjiiaa
open Go.RowKit Go.Shelf
set_option linter.unusedVariables false

/-- Sends behind the sends of a row that a call has made. -/
theorem append_O {w W : World} {v : Value} {a : Option Addr} {c : Nat} {l1 l2 : List O} (h1 : RowO w W v l1) (h2 : RdO W a l2) (hl1 : l1.length ≤ 100000) (hl2 : l2.length ≤ 100000) (ty : TypeId) (X : List O) (hX : l1 ++ l2 = X) :
    ∃ a' c' w', (Builtin.append_ #[31, 31] ty #[v, .slice a l2.length c]).run Try.prog W = .ok (.slice a' X.length c') w' ∧ RowO w w' (.slice a' X.length c') X := by
  obtain ⟨i0, hi0, hz0, hz1, hz2⟩ := info_parts infoO
  have fin : ∀ v' w', RowO w w' v' X → (Builtin.append_ #[31, 31] ty #[v, .slice a l2.length c]).run Try.prog W = .ok v' w' → ∃ a' c' w', (Builtin.append_ #[31, 31] ty #[v, .slice a l2.length c]).run Try.prog W = .ok (.slice a' X.length c') w' ∧ RowO w w' (.slice a' X.length c') X := fun v' w' h hr => by
    obtain ⟨a', c', rfl, _⟩ := h.rd
    exact ⟨a', c', w', hr, h⟩
  cases a with
  | none =>
    have hd : l2 = [] := Classical.byContradiction fun g => by
      obtain ⟨b, off, e, _⟩ := h2 g
      cases e
    subst hd
    rw [List.append_nil] at hX
    subst hX
    have hr := run_append_owned_none (P := Try.prog) W w.heap.size 31 ty 55 i0 3 Try.underlying31 hi0 v l1.length (flatO l1) h1.1
    exact fin _ _ h1 (by first | exact hr | (have := hr; simpa using this))
  | some ad =>
    obtain ⟨v', w', hr, h3, h4, h5, h6⟩ := run_append_own_at (P := Try.prog) W w.heap.size 31 ty 55 i0 _ 3 24 Try.underlying31 hi0 hz0 hz1 hz2 rfl (by decide) v l1.length (flatO l1) h1.1 ad l2.length c (flatO l2) (flatO_len l2) (fun j u hj => by
      have hj' : j < l2.length * 3 := by have := (List.getElem?_eq_some_iff.1 hj).1; rwa [flatO_len] at this
      obtain ⟨b, off, e, _⟩ := h2 (by intro e; simp [e] at hj')
      simp at e
      subst e
      rw [Addr.add_lit]
      exact h2.flat j u hj) (flatO_one _) (by unfold maxLen; omega) (by omega) h1.2.size
    refine fin v' w' ⟨?_, h1.2.grown h4 h1.2.size (fun k e => rowO_ge h1 e)⟩ hr
    rw [← hX, flatO_append, List.length_append]
    exact h3
theorem wpList_append_O (W : World) {ops : Array Oper} {rest : List Oper} {o : Oper} {a : Act} {Q : Exit → Act → World → Prop} (hgd : o.guard = none) (s x : Operand)
    (ho : o.op = .call { callee := .builtin .append, args := #[s, x], argTypes := #[31, 31] })
    (w : World) (v : Value) (ad : Option Addr) (c : Nat) (l1 l2 : List O) (hs : a.eval s = v) (hx : a.eval x = .slice ad l2.length c) (h1 : RowO w W v l1) (h2 : RdO W ad l2) (hl1 : l1.length ≤ 100000) (hl2 : l2.length ≤ 100000) (X : List O) (hX : l1 ++ l2 = X)
    (h : ∀ a' c' w', RowO w w' (.slice a' X.length c') X → wpList Try.prog ops Q rest (a.put o.dst (.slice a' X.length c')) w') :
    wpList Try.prog ops Q (o :: rest) a W := by
  refine wpList_plain hgd fun K hK => ?_
  obtain ⟨a', c', w', hr, h3⟩ := append_O (c := c) h1 h2 hl1 hl2 o.type X hX
  unfold Oper.wp execOp
  simp only [ho, resolve, invoke, builtin, Sem.run_bind, Sem.run_pure, Result.andThen_ok, List.map_toArray, List.map_cons, List.map_nil, hs, hx, hr]
  exact hK _ _ (h a' c' w' h3)

theorem step_append_run {P : Program} {ops : Array Oper} {o : Oper} {a : Act} {w : World} {K : Act → World → Prop} {Q : Exit → Act → World → Prop} {E : Prop}
    (hg : o.guard = none) (s x : Operand) (t : TypeId) (hop : o.op = Op.call { callee := Callee.builtin Builtin.append, args := #[s, x], argTypes := #[t, t] })
    {v1 v2 v' : Value} {w' : World} (hs : a.eval s = v1) (hx : a.eval x = v2) (hrun : (Builtin.append_ #[t, t] o.type #[v1, v2]).run P w = .ok v' w')
    (hK : K (a.put o.dst v') w') :
    if Region.wanted o (yielded ops a.tmps) = true then Oper.wp P o a w K Q else E := by
  have hw : Region.wanted o (yielded ops a.tmps) = true := by simp [Region.wanted, hg]
  rw [if_pos hw]
  unfold Oper.wp
  simp [execOp, hop, resolve, invoke, builtin, hs, hx, hrun, Result.andThen]
  exact hK

/-! ### Rules that are not heavy -/
def Lt (l : List Rl) : Prop := l.length ≤ 60 ∧ ∀ r ∈ l, r.os.length ≤ 20
end Go.Proofs.Ytpifkoblcbjiiaa
