/- Proved: the calls of federates that tell one another what they promise, round by round. -/
import Derived.Test.YtmhopjpbhdficaaGm
namespace Go.Proofs.Ytmhopjpbhdficaa
open Go.RowKit Go.Shelf Go.Sort
set_option linter.unusedVariables false

theorem wpList_append_run {P : Program} (W : World) {ops : Array Oper} {rest : List Oper} {o : Oper} {a : Act} {Q : Exit → Act → World → Prop} (hgd : o.guard = none) (s x : Operand) (t : TypeId)
    (ho : o.op = .call { callee := .builtin .append, args := #[s, x], argTypes := #[t, t] })
    {v1 v2 v' : Value} {w' : World} (hs : a.eval s = v1) (hx : a.eval x = v2) (hrun : (Builtin.append_ #[t, t] o.type #[v1, v2]).run P W = .ok v' w')
    (h : wpList P ops Q rest (a.put o.dst v') w') : wpList P ops Q (o :: rest) a W := by
  refine wpList_plain hgd fun K hK => ?_
  unfold Oper.wp execOp
  simp only [ho, resolve, invoke, builtin, Sem.run_bind, Sem.run_pure, Result.andThen_ok, List.map_toArray, List.map_cons, List.map_nil, hs, hx, hrun]
  exact hK _ _ h
def tq (n : Nat) (z : List Int) (q i : Nat) : Nat → Int := fun k => if k < i then sdC n z (q + 1) k else sdC n z q k
def cq (n : Nat) (z : List Int) (q i : Nat) : Nat → Int → Int := fun k => if k < i then sdC n z (q + 1) else sdC n z q
def cj (n : Nat) (z : List Int) (q i j : Nat) : Nat → Int → Int := fun k => if k < i then sdC n z (q + 1) else if k = i then mix (sdC n z q) (sdC n z (q + 1)) j else sdC n z q
theorem Gs.new {w W W2 : World} {n k : Nat} {pb mp : Nat → Nat} {g cap : Nat} (h : Gs w W n k (fun _ => noC) (fun _ => 0) pb mp g cap) (hk : k ≤ 100) (hn : PC n k noC 0 (W.heap.size + 1) W.heap.size W2) (hf : Below W.heap.size W W2) (ty : TypeId) :
    ∃ pb' mp' g' cap' w', (Builtin.append_ #[40, 40] ty #[.slice (some ⟨g, 0, none⟩) k cap, .slice (some ⟨W2.heap.size, 0, none⟩) 1 1]).run Try.prog (W2.alloc (.cells #[.pointer (some ⟨W.heap.size + 1, 0, none⟩)] 23)) = .ok (.slice (some ⟨g', 0, none⟩) (k + 1) cap') w' ∧ Gs w w' n (k + 1) (fun _ => noC) (fun _ => 0) pb' mp' g' cap' := by
  obtain ⟨g', cap', w', hr, hg⟩ := h.add hk hn (by omega) (by omega) hf ty
  refine ⟨_, _, g', cap', w', hr, hg.cong (fun i hi j hj => ?_) (fun i hi => ?_)⟩
  · unfold upN; split <;> rfl
  · unfold upN; split <;> rfl
theorem Gq.tell {w W : World} {n : Nat} {z : List Int} {q i m : Nat} {pb mp : Nat → Nat} {g cap g2 cap2 : Nat} (hz : Zs n z) (hq : q < 20) (hi : i < n) (h : Gq w W n n (fun _ => sdC n z q) (tq n z q i) pb mp g cap g2 cap2 (sdC n z (q + 1)) m) :
    Calls Try.prog 12 #[.pointer (some ⟨pb i, 0, none⟩), .int .i64 1125899906842624, .int .i64 (1 + nthI z i)] W fun e w' => e = .returned (.tuple #[.int .i64 (sdC n z (q + 1) i), .bool true]) ∧ Gq w w' n n (fun _ => sdC n z q) (tq n z q (i + 1)) pb mp g cap g2 cap2 (sdC n z (q + 1)) m := by
  have hp := h.gs.pc i hi
  have e0 : tq n z q i i = sdC n z q i := by unfold tq; rw [if_neg (by omega)]
  rw [e0] at hp
  have C := tell_any hp 1125899906842624 (1 + nthI z i)
  rw [(sd_tell hz hq hi).1, (sd_tell hz hq hi).2] at C
  refine C.mono fun e w' ⟨he, hp2, hf⟩ => ⟨he, ?_⟩
  have h2 := h.upd hi hp2 hf (fun x e => Or.inl e)
  refine ⟨h2.gs.cong (fun k hk j hj => ?_) (fun k hk => ?_), h2.sr⟩
  · unfold upN; split <;> rfl
  · unfold upN tq
    by_cases e : k = i
    · subst e; rw [if_pos rfl, if_pos (by omega)]
    · rw [if_neg e]
      by_cases g : k < i
      · rw [if_pos g, if_pos (by omega)]
      · rw [if_neg g, if_neg (by omega)]
theorem Gq.hear {w W : World} {n : Nat} {z : List Int} {q i j : Nat} {t : Nat → Int} {pb mp : Nat → Nat} {g cap g2 cap2 : Nat} (hz : Zs n z) (hq : q < 20) (hi : i < n) (hj : j < n) (hij : i ≠ j) (h : Gq w W n n (cj n z q i j) t pb mp g cap g2 cap2 (sdC n z (q + 1)) n) :
    Calls Try.prog 10 #[.pointer (some ⟨pb i, 0, none⟩), .int .i64 (j : Int), .int .i64 (sdC n z (q + 1) j)] W fun e w' => e = .returned (.int .i64 0) ∧ Gq w w' n n (cj n z q i (j + 1)) t pb mp g cap g2 cap2 (sdC n z (q + 1)) n := by
  have hp := h.gs.pc i hi
  have e0 : cj n z q i j i = mix (sdC n z q) (sdC n z (q + 1)) j := by unfold cj; rw [if_neg (by omega), if_pos rfl]
  rw [e0] at hp
  have hz8 := hz.2.1
  have C := hear_any hp j (sdC n z (q + 1) j) (wf_of (by omega) (by omega))
  rw [(sd_hear hz hq hj hij).1, (sd_hear hz hq hj hij).2] at C
  refine C.mono fun e w' ⟨he, hp2, hf⟩ => ⟨he, ?_⟩
  have h2 := h.upd hi hp2 hf (fun x e => Or.inr e)
  refine ⟨h2.gs.cong (fun k hk y hy => ?_) (fun k hk => ?_), h2.sr⟩
  · unfold upN cj
    by_cases e : k = i
    · subst e; rw [if_pos rfl, if_neg (by omega), if_pos rfl]
    · rw [if_neg e, if_neg e, if_neg e]
  · unfold upN
    split
    · rename_i e; subst e; rfl
    · rfl
theorem Gq.skip {w W : World} {n : Nat} {z : List Int} {q i : Nat} {t : Nat → Int} {pb mp : Nat → Nat} {g cap g2 cap2 m : Nat} {d : Int → Int} (h : Gq w W n n (cj n z q i i) t pb mp g cap g2 cap2 d m) : Gq w W n n (cj n z q i (i + 1)) t pb mp g cap g2 cap2 d m := by
  refine ⟨h.gs.cong (fun k hk y hy => ?_) (fun _ _ => rfl), h.sr⟩
  unfold cj
  by_cases e : k = i
  · subst e; rw [if_neg (by omega), if_pos rfl, if_neg (by omega), if_pos rfl]; exact mix_same _ _ k n y hy
  · rw [if_neg e, if_neg e]
theorem Gq.full {w W : World} {n : Nat} {z : List Int} {q i : Nat} {t : Nat → Int} {pb mp : Nat → Nat} {g cap g2 cap2 m : Nat} {d : Int → Int} (h : Gq w W n n (cj n z q i n) t pb mp g cap g2 cap2 d m) : Gq w W n n (cq n z q (i + 1)) t pb mp g cap g2 cap2 d m := by
  refine ⟨h.gs.cong (fun k hk y hy => ?_) (fun _ _ => rfl), h.sr⟩
  unfold cj cq
  by_cases e : k = i
  · subst e; rw [if_neg (by omega), if_pos rfl, if_pos (by omega)]; exact mix_all _ _ n k y hy
  · rw [if_neg e]
    by_cases g : k < i
    · rw [if_pos g, if_pos (by omega)]
    · rw [if_neg g, if_neg (by omega)]
theorem cq_open (n : Nat) (z : List Int) (q i : Nat) : cq n z q i = cj n z q i 0 := by
  funext k
  unfold cq cj
  rw [mix_zero]
  by_cases g : k < i
  · rw [if_pos g, if_pos g]
  · rw [if_neg g, if_neg g]
    split <;> rfl
theorem cq_zero (n : Nat) (z : List Int) (q : Nat) : cq n z q 0 = fun _ => sdC n z q := by
  funext k
  unfold cq
  rw [if_neg (by omega)]
theorem Gq.bound {w W : World} {n : Nat} {z : List Int} {q i : Nat} {t : Nat → Int} {pb mp : Nat → Nat} {g cap g2 cap2 m : Nat} {d : Int → Int} (hi : i < n) (h : Gq w W n n (cq n z q (i + 1)) t pb mp g cap g2 cap2 d m) :
    Calls Try.prog 16 #[.pointer (some ⟨pb i, 0, none⟩)] W fun e w' => e = .returned (.int .i64 (bnd n i (sdC n z (q + 1)))) ∧ Gq w w' n n (cq n z q (i + 1)) t pb mp g cap g2 cap2 d m := by
  have hp := h.gs.pc i hi
  have e0 : cq n z q (i + 1) i = sdC n z (q + 1) := by unfold cq; rw [if_pos (by omega)]
  rw [e0] at hp
  exact (bound_any hp).mono fun e w' ⟨he, hb⟩ => ⟨he, h.on hb⟩
/-- A round is over. -/
theorem Gq.over {w W : World} {n : Nat} {z : List Int} {q : Nat} {pb mp : Nat → Nat} {g cap g2 cap2 m : Nat} {d : Int → Int} (h : Gq w W n n (cq n z q n) (tq n z q n) pb mp g cap g2 cap2 d m) : Gs w W n n (fun _ => sdC n z (q + 1)) (fun i => sdC n z (q + 1) i) pb mp g cap :=
  h.gs.cong (fun k hk y hy => by unfold cq; rw [if_pos hk]) (fun k hk => by unfold tq; rw [if_pos hk])
theorem tq_zero (n : Nat) (z : List Int) (q : Nat) : tq n z q 0 = fun i : Nat => sdC n z q (i : Int) := by
  funext k
  unfold tq
  rw [if_neg (by omega)]
end Go.Proofs.Ytmhopjpbhdficaa
