/- Proved: rows of items, and what is put behind them; a net and two rows beside each other. -/
import Derived.Test.YtkngokpildoljaaStp
namespace Go.Proofs.Ytkngokpildoljaa
open Go.RowKit Go.Shelf
set_option linter.unusedVariables false

def flatT (l : List It) : List Value := l.flatMap encT
theorem flatT_len (l : List It) : (flatT l).length = l.length * 8 := by
  induction l with
  | nil => rfl
  | cons x r ih => simp only [flatT, List.flatMap_cons, List.length_append, encT_len, List.length_cons] at *; omega
theorem flatT_append (a b : List It) : flatT (a ++ b) = flatT a ++ flatT b := by simp [flatT]
theorem flatT_get (l : List It) (i c : Nat) (hi : i < l.length) (hc : c < 8) : (flatT l)[i * 8 + c]? = (encT (nthT l i))[c]? := by
  induction l generalizing i with
  | nil => simp at hi
  | cons x r ih =>
    rw [show flatT (x :: r) = encT x ++ flatT r by simp [flatT]]
    cases i with
    | zero => rw [List.getElem?_append_left (by rw [encT_len]; omega)]; simp [nthT]
    | succ j =>
      rw [List.getElem?_append_right (by rw [encT_len]; omega), encT_len, show (j + 1) * 8 + c - 8 = j * 8 + c by omega, ih j (by simpa using hi)]
      simp [nthT]
theorem flatT_one (l : List It) : ∀ v ∈ flatT l, v.oneCell' = true := by
  intro v hv
  obtain ⟨m, _, h⟩ := List.mem_flatMap.1 hv
  exact encT_one m v h
def RdT (w : World) (a : Option Addr) (l : List It) : Prop :=
  l ≠ [] → ∃ b off, a = some ⟨b, off, none⟩ ∧ b < w.heap.size ∧ ∀ i, i < l.length → ∀ c, c < 8 → w.cell? ⟨b, off + i * 8 + c, none⟩ = (encT (nthT l i))[c]?
theorem RdT.cells {w : World} {a : Option Addr} {l : List It} (h : RdT w a l) {i : Nat} (hi : i < l.length) {x : It} (hx : nthT l i = x) :
    ∃ b off, a = some ⟨b, off, none⟩ ∧ b < w.heap.size ∧ w.cell? ⟨b, off + i * 8, none⟩ = some (.int .i64 x.k) ∧ w.cell? ⟨b, off + i * 8 + 1, none⟩ = some (.int .i64 x.t) ∧ w.cell? ⟨b, off + i * 8 + 2, none⟩ = some (.int .i64 x.fr) ∧ w.cell? ⟨b, off + i * 8 + 3, none⟩ = some (.int .i64 x.sq) ∧ w.cell? ⟨b, off + i * 8 + 4, none⟩ = some (.int .i64 x.dst) ∧ w.cell? ⟨b, off + i * 8 + 5, none⟩ = some (.int .i64 x.cl) ∧ w.cell? ⟨b, off + i * 8 + 6, none⟩ = some (.int .i64 x.bd) ∧ w.cell? ⟨b, off + i * 8 + 7, none⟩ = some (.int .i64 x.co) := by
  obtain ⟨b, off, rfl, hB, hc⟩ := h (by intro e; simp [e] at hi)
  subst hx
  exact ⟨b, off, rfl, hB, hc i hi 0 (by omega), hc i hi 1 (by omega), hc i hi 2 (by omega), hc i hi 3 (by omega), hc i hi 4 (by omega), hc i hi 5 (by omega), hc i hi 6 (by omega), hc i hi 7 (by omega)⟩
/-- A row of blocks from n0 on. -/
def RwT (n0 : Nat) (W : World) (v : Value) (l : List It) : Prop := W.ownsRow n0 35 8 v l.length (flatT l)
theorem RwT.keep {S : Nat → Prop} {n0 : Nat} {W W' : World} {v : Value} {l : List It} (h : RwT n0 W v l) (hf : Fr S W W') (hn : ∀ g, v.ownBlock = some g → ¬ S g) : RwT n0 W' v l := by
  refine ⟨h.1, ?_⟩
  rcases h.2 with g | ⟨g, cap, cur, h1, h2, h3, h4⟩
  · exact .inl g
  · exact .inr ⟨g, cap, cur, h1, h2, (hf.block g (Array.getElem?_eq_some_iff.1 h3).1 (hn g (by rw [h1]; rfl))).trans h3, h4⟩
theorem RwT.below {n0 : Nat} {W W' : World} {v : Value} {l : List It} (h : RwT n0 W v l) (hb : Below W.heap.size W W') : RwT n0 W' v l := h.keep (Fr.of_below (S := fun _ => False) hb) (fun _ _ g => g)
theorem RwT.nil (n0 : Nat) (W : World) : RwT n0 W (.slice none 0 0) [] := World.ownsRow_nil _ _ _ _
theorem RwT.empty (n0 : Nat) (W : World) (h : n0 ≤ W.heap.size) : RwT n0 (W.alloc (.cells #[] 35)) (.slice (some ⟨W.heap.size, 0, none⟩) 0 0) [] := by
  have := World.ownsRow_made W (e := 35) (size := 8) #[] 0 (Nat.le_refl _) (Nat.zero_le _) (by simp)
  refine ⟨this.1, ?_⟩
  rcases this.2 with g | ⟨g, cap, cur, h1, h2, h3⟩
  · exact .inl g
  · exact .inr ⟨g, cap, cur, h1, by omega, h3⟩
theorem RwT.rd {n0 : Nat} {W : World} {v : Value} {l : List It} (h : RwT n0 W v l) : ∃ a c, v = .slice a l.length c ∧ RdT W a l := by
  have h0 : W.ownsRow n0 35 8 v l.length (flatT l) := h
  rcases h.2 with ⟨rfl, hn⟩ | ⟨g, cap, cur, rfl, _, hg, _⟩
  · exact ⟨none, 0, by rw [hn], fun hl => absurd (List.length_eq_zero_iff.1 hn) hl⟩
  · refine ⟨_, cap, rfl, fun _ => ⟨g, 0, rfl, (Array.getElem?_eq_some_iff.1 hg).1, fun i hi c hc => ?_⟩⟩
    rw [Nat.zero_add, World.ownsRow.cellAt h0 _ (by omega), flatT_get l i c hi hc]
theorem RwT.ge {n0 : Nat} {W : World} {v : Value} {l : List It} (h : RwT n0 W v l) {k : Nat} (e : v.ownBlock = some k) : n0 ≤ k ∧ k < W.heap.size := by
  rcases h.2 with ⟨rfl, _⟩ | ⟨g, cap, cur, rfl, hg, h3, _⟩
  · simp [Value.ownBlock] at e
  · simp [Value.ownBlock] at e
    subst e
    exact ⟨hg, (Array.getElem?_eq_some_iff.1 h3).1⟩
theorem infoT : (Try.prog.info? 35).map (fun i => (i.zero, i.size, i.bytes)) = some (some (.agg #[.int .i64 0, .int .i64 0, .int .i64 0, .int .i64 0, .int .i64 0, .int .i64 0, .int .i64 0, .int .i64 0]), 8, 64) := by kernel_rfl
/-- What can be read, behind a row. -/
theorem append_T {n0 : Nat} {W : World} {v : Value} {a : Option Addr} {c : Nat} {l1 l2 : List It} (h1 : RwT n0 W v l1) (h0 : n0 ≤ W.heap.size) (h2 : RdT W a l2) (hl1 : l1.length ≤ 100000) (hl2 : l2.length ≤ 100000) (ty : TypeId) (X : List It) (hX : l1 ++ l2 = X) :
    ∃ a' c' w', (Builtin.append_ #[45, 45] ty #[v, .slice a l2.length c]).run Try.prog W = .ok (.slice a' X.length c') w' ∧ RwT n0 w' (.slice a' X.length c') X ∧ W.grownBy w' v.ownBlock ∧ ((Value.slice a' X.length c').ownBlock = v.ownBlock ∨ (Value.slice a' X.length c').ownBlock = some W.heap.size) := by
  obtain ⟨i0, hi0, hz0, hz1, hz2⟩ := info_parts infoT
  have fin : ∀ v' w', RwT n0 w' v' X → W.grownBy w' v.ownBlock → (v'.ownBlock = v.ownBlock ∨ v'.ownBlock = some W.heap.size) → (Builtin.append_ #[45, 45] ty #[v, .slice a l2.length c]).run Try.prog W = .ok v' w' → ∃ a' c' w', (Builtin.append_ #[45, 45] ty #[v, .slice a l2.length c]).run Try.prog W = .ok (.slice a' X.length c') w' ∧ RwT n0 w' (.slice a' X.length c') X ∧ W.grownBy w' v.ownBlock ∧ ((Value.slice a' X.length c').ownBlock = v.ownBlock ∨ (Value.slice a' X.length c').ownBlock = some W.heap.size) := fun v' w' h hg ho hr => by
    obtain ⟨a', c', rfl, _⟩ := h.rd
    exact ⟨a', c', w', hr, h, hg, ho⟩
  cases a with
  | none =>
    have hd : l2 = [] := Classical.byContradiction fun g => by
      obtain ⟨b, off, e, _⟩ := h2 g
      cases e
    subst hd
    rw [List.append_nil] at hX
    subst hX
    have hr := run_append_owned_none (P := Try.prog) W n0 45 ty 35 i0 8 Try.underlying45 hi0 v l1.length (flatT l1) h1
    exact fin _ _ h1 ⟨rfl, rfl, rfl, Nat.le_refl _, fun _ _ _ => rfl⟩ (.inl rfl) (by first | exact hr | (have := hr; simpa using this))
  | some ad =>
    obtain ⟨v', w', hr, h3, h4, h5, h6⟩ := run_append_own_at (P := Try.prog) W n0 45 ty 35 i0 _ 8 64 Try.underlying45 hi0 hz0 hz1 hz2 rfl (by decide) v l1.length (flatT l1) h1 ad l2.length c (flatT l2) (flatT_len l2) (fun j u hj => by
      have hj' : j < l2.length * 8 := by have := (List.getElem?_eq_some_iff.1 hj).1; rwa [flatT_len] at this
      obtain ⟨b, off, e, hB, hc⟩ := h2 (by intro e; simp [e] at hj')
      simp at e
      subst e
      rw [Addr.add_lit]
      have hq : j / 8 < l2.length := Nat.div_lt_of_lt_mul (by omega)
      have hr : j % 8 < 8 := Nat.mod_lt _ (by omega)
      have g1 := hc (j / 8) hq (j % 8) hr
      rw [← flatT_get l2 (j / 8) (j % 8) hq hr] at g1
      have e2 : j / 8 * 8 + j % 8 = j := by omega
      rw [Nat.add_assoc, e2] at g1
      rw [g1, hj]) (flatT_one _) (by unfold maxLen; omega) (by omega) h0
    refine fin v' w' ?_ h4 h6 hr
    show w'.ownsRow _ _ _ _ _ _
    rw [← hX, flatT_append, List.length_append]
    exact h3
theorem BoxT.rd {w : World} {B : Nat} {x : It} (h : BoxT w B x) : RdT w (some ⟨B, 0, none⟩) [x] := fun _ => ⟨B, 0, rfl, h.lt, fun i hi c hc => by
  have hi0 : i = 0 := by simp at hi; omega
  subst hi0
  have := cellB h.b c
  rw [show 0 + 0 * 8 + c = c by omega, this]
  simp [nthT, encT, ics]⟩
theorem wpList_append_run {P : Program} (W : World) {ops : Array Oper} {rest : List Oper} {o : Oper} {a : Act} {Q : Exit → Act → World → Prop} (hgd : o.guard = none) (s x : Operand) (t : TypeId)
    (ho : o.op = .call { callee := .builtin .append, args := #[s, x], argTypes := #[t, t] })
    {v1 v2 v' : Value} {w' : World} (hs : a.eval s = v1) (hx : a.eval x = v2) (hrun : (Builtin.append_ #[t, t] o.type #[v1, v2]).run P W = .ok v' w')
    (h : wpList P ops Q rest (a.put o.dst v') w') : wpList P ops Q (o :: rest) a W := by
  refine wpList_plain hgd fun K hK => ?_
  unfold Oper.wp execOp
  simp only [ho, resolve, invoke, builtin, Sem.run_bind, Sem.run_pure, Result.andThen_ok, List.map_toArray, List.map_cons, List.map_nil, hs, hx, hrun]
  exact hK _ _ h
theorem Fr.of_grown {S : Nat → Prop} {a b : World} {row : Option Nat} (hg : a.grownBy b row) (hr : ∀ k, row = some k → S k) : Fr S a b :=
  ⟨hg.os, hg.tape, hg.output, hg.size, fun i hi hn => hg.block i hi (fun e => hn (hr i e.symm))⟩
/-- A net and two rows, made since w, beside each other. -/
structure Bd (w W : World) (n room : Nat) (L : Ln) (B : Nat) (v1 : Value) (l1 : List It) (v2 : Value) (l2 : List It) : Prop where
  net : N1 w W n room L B
  r1 : RwT w.heap.size W v1 l1
  r2 : RwT w.heap.size W v2 l2
  d1 : v1.ownBlock ≠ some B
  d2 : v2.ownBlock ≠ some B
  d12 : ∀ g, v1.ownBlock = some g → v2.ownBlock ≠ some g
theorem Bd.on {w W W2 : World} {n room : Nat} {L : Ln} {B : Nat} {v1 v2 : Value} {l1 l2 : List It} (h : Bd w W n room L B v1 l1 v2 l2) (hb : Below W.heap.size W W2) : Bd w W2 n room L B v1 l1 v2 l2 :=
  ⟨h.net.on hb, h.r1.below hb, h.r2.below hb, h.d1, h.d2, h.d12⟩
theorem Bd.swap {w W : World} {n room : Nat} {L : Ln} {B : Nat} {v1 v2 : Value} {l1 l2 : List It} (h : Bd w W n room L B v1 l1 v2 l2) : Bd w W n room L B v2 l2 v1 l1 :=
  ⟨h.net, h.r2, h.r1, h.d2, h.d1, fun g e1 e2 => h.d12 g e2 e1⟩
theorem Bd.wr {w W W2 : World} {n room : Nat} {L L2 : Ln} {B : Nat} {v1 v2 : Value} {l1 l2 : List It} (h : Bd w W n room L B v1 l1 v2 l2) (hn : Nt n room L2 B W2) (hf : Fr (fun k => k = B) W W2) : Bd w W2 n room L2 B v1 l1 v2 l2 :=
  ⟨h.net.wr hn hf, h.r1.keep hf (fun g e e2 => h.d1 (by rw [e, e2])), h.r2.keep hf (fun g e e2 => h.d2 (by rw [e, e2])), h.d1, h.d2, h.d12⟩
theorem Bd.send {w W : World} {n room : Nat} {L : Ln} {B : Nat} {v1 v2 : Value} {l1 l2 : List It} (h : Bd w W n room L B v1 l1 v2 l2) (a b : Int) (x : It) :
    Calls Try.prog 10 #[.pointer (some ⟨B, 0, none⟩), .int .i64 a, .int .i64 b, iv x] W fun e w' => e = .returned (.int .i64 (sndE n room L a b x)) ∧ Bd w w' n room (sndL n room L a b x) B v1 l1 v2 l2 ∧ Fr (fun k => k = B) W w' :=
  (send_any h.net.net a b x).mono fun e w' ⟨he, hn, hf⟩ => ⟨he, h.wr hn hf, hf⟩
theorem Bd.recv {w W : World} {n room : Nat} {L : Ln} {B : Nat} {v1 v2 : Value} {l1 l2 : List It} (h : Bd w W n room L B v1 l1 v2 l2) (a b : Int) :
    Calls Try.prog 14 #[.pointer (some ⟨B, 0, none⟩), .int .i64 a, .int .i64 b] W fun e w' => e = .returned (.tuple #[iv (nthT (L a b) 0), .bool (fstB (L a b))]) ∧ Bd w w' n room (rcvL L a b) B v1 l1 v2 l2 ∧ Fr (fun k => k = B) W w' :=
  (recv_any h.net.net a b).mono fun e w' ⟨he, hn, hf⟩ => ⟨he, h.wr hn hf, hf⟩
/-- One item more in the first row. -/
theorem Bd.push1 {w W : World} {n room : Nat} {L : Ln} {B : Nat} {v1 v2 : Value} {l1 l2 : List It} (h : Bd w W n room L B v1 l1 v2 l2) {Bx : Nat} {x : It} (hx : BoxT W Bx x) (hl : l1.length ≤ 100000) (ty : TypeId) :
    ∃ a' c' w', (Builtin.append_ #[45, 45] ty #[v1, .slice (some ⟨Bx, 0, none⟩) 1 1]).run Try.prog W = .ok (.slice a' (l1.length + 1) c') w' ∧ Bd w w' n room L B (.slice a' (l1.length + 1) c') (l1 ++ [x]) v2 l2 ∧ Fr (fun k => v1.ownBlock = some k) W w' := by
  obtain ⟨a', c', w', hr, h1, hg, ho⟩ := append_T (c := 1) h.r1 h.net.bel.size hx.rd hl (by simp) ty (l1 ++ [x]) rfl
  rw [show (l1 ++ [x]).length = l1.length + 1 by simp] at hr h1 ho
  have hf : Fr (fun k => v1.ownBlock = some k) W w' := Fr.of_grown hg (fun k e => e)
  have hnB : (Value.slice a' (l1.length + 1) c').ownBlock ≠ some B := by
    rcases ho with e | e
    · rw [e]; exact h.d1
    · rw [e]; intro e2; have := h.net.net.lt; simp at e2; omega
  refine ⟨a', c', w', hr, ⟨⟨h.net.net.keep hf h.d1, h.net.lo, h.net.bel.trans (hf.below h.net.bel.size (fun i e => (h.r1.ge e).1))⟩, h1, h.r2.keep hf (fun g e e2 => h.d12 g e2 e), hnB, h.d2, fun g e1 e2 => ?_⟩, hf⟩
  rcases ho with e | e
  · exact h.d12 g (by rw [← e]; exact e1) e2
  · rw [e] at e1
    have := (h.r2.ge e2).2
    simp at e1
    omega
theorem Bd.push2 {w W : World} {n room : Nat} {L : Ln} {B : Nat} {v1 v2 : Value} {l1 l2 : List It} (h : Bd w W n room L B v1 l1 v2 l2) {Bx : Nat} {x : It} (hx : BoxT W Bx x) (hl : l2.length ≤ 100000) (ty : TypeId) :
    ∃ a' c' w', (Builtin.append_ #[45, 45] ty #[v2, .slice (some ⟨Bx, 0, none⟩) 1 1]).run Try.prog W = .ok (.slice a' (l2.length + 1) c') w' ∧ Bd w w' n room L B v1 l1 (.slice a' (l2.length + 1) c') (l2 ++ [x]) ∧ Fr (fun k => v2.ownBlock = some k) W w' := by
  obtain ⟨a', c', w', hr, hb, hf⟩ := h.swap.push1 hx hl ty
  exact ⟨a', c', w', hr, hb.swap, hf⟩
end Go.Proofs.Ytkngokpildoljaa
