/- Proved: a message in a block of its own, written again and again, and put behind a row: what stays. -/
import Derived.Test.YtpifkoblcbjiiaaRt0
import Derived.Laws.Rows
namespace Go.Proofs.Ytpifkoblcbjiiaa
open Go.RowKit Go.Shelf
set_option linter.unusedVariables false

/-- w' is w but for new blocks and for what lies in the blocks of S. -/
structure Fr (S : Nat → Prop) (w w' : World) : Prop where
  os : w'.os = w.os
  tape : w'.tape = w.tape
  output : w'.output = w.output
  size : w.heap.size ≤ w'.heap.size
  block : ∀ k, k < w.heap.size → ¬ S k → w'.heap[k]? = w.heap[k]?
theorem Fr.refl (S : Nat → Prop) (w : World) : Fr S w w := ⟨rfl, rfl, rfl, Nat.le_refl _, fun _ _ _ => rfl⟩
theorem Fr.then {S : Nat → Prop} {a b c : World} (h : Fr S a b) (k : Fr S b c) : Fr S a c :=
  ⟨k.os.trans h.os, k.tape.trans h.tape, k.output.trans h.output, Nat.le_trans h.size k.size, fun i hi hn => (k.block i (Nat.lt_of_lt_of_le hi h.size) hn).trans (h.block i hi hn)⟩
theorem Fr.setCell {S : Nat → Prop} {a b : World} (h : Fr S a b) (p : Addr) (v : Value) (hp : S p.block) : Fr S a (b.setCell p v) :=
  ⟨h.os, h.tape, h.output, by simpa using h.size, fun i hi hn => by
    rw [Below.heap_setCell _ _ _ _ (fun e => by subst e; exact hn hp)]
    exact h.block i hi hn⟩
theorem Fr.alloc {S : Nat → Prop} {a b : World} (h : Fr S a b) (o : Obj) : Fr S a (b.alloc o) :=
  ⟨h.os, h.tape, h.output, by have := h.size; simp; omega, fun i hi hn => by
    rw [Below.heap_alloc _ _ _ (Nat.lt_of_lt_of_le hi h.size)]
    exact h.block i hi hn⟩
theorem Fr.grown {S : Nat → Prop} {a b c : World} {row : Option Nat} (h : Fr S a b) (hg : b.grownBy c row) (hr : ∀ k, row = some k → k < a.heap.size → S k) : Fr S a c :=
  ⟨hg.os.trans h.os, hg.tape.trans h.tape, hg.output.trans h.output, Nat.le_trans h.size hg.size, fun i hi hn => by
    rw [hg.block i (Nat.lt_of_lt_of_le hi h.size) (fun e => hn (hr i e.symm hi))]
    exact h.block i hi hn⟩
theorem Fr.of_below {S : Nat → Prop} {a b : World} (h : Below a.heap.size a b) : Fr S a b := ⟨h.os, h.tape, h.output, h.size, fun i hi _ => h.block i hi⟩
theorem Fr.cell {S : Nat → Prop} {a b : World} (h : Fr S a b) {p : Addr} (hp : p.block < a.heap.size) (hn : ¬ S p.block) : b.cell? p = a.cell? p := World.cell?_of_block (h.block _ hp hn)

abbrev mcs (x : M) : Array Value := #[.int .i64 x.t, .int .i64 x.fr, .int .i64 x.sq, .int .i64 x.dst, .int .i64 x.cl, .int .i64 x.bd]
/-- A message in a block of its own. -/
def BoxM (w : World) (B : Nat) (x : M) : Prop := w.heap[B]? = some (.cells (mcs x) 48 (0, 0))
theorem BoxM.lt {w : World} {B : Nat} {x : M} (h : BoxM w B x) : B < w.heap.size := (Array.getElem?_eq_some_iff.1 h).1
theorem BoxM.cells {w : World} {B : Nat} {x : M} (h : BoxM w B x) : w.cell? ⟨B, 0, none⟩ = some (.int .i64 x.t) ∧ w.cell? ⟨B, 1, none⟩ = some (.int .i64 x.fr) ∧ w.cell? ⟨B, 2, none⟩ = some (.int .i64 x.sq) ∧ w.cell? ⟨B, 3, none⟩ = some (.int .i64 x.dst) ∧ w.cell? ⟨B, 4, none⟩ = some (.int .i64 x.cl) ∧ w.cell? ⟨B, 5, none⟩ = some (.int .i64 x.bd) ∧ ∀ j, w.frozen? ⟨B, j, none⟩ = false := by
  unfold BoxM at h
  refine ⟨?_, ?_, ?_, ?_, ?_, ?_, fun j => ?_⟩ <;> simp [World.cell?, World.frozen?, h, mcs]
theorem BoxM.new (w : World) (x : M) : BoxM (w.alloc (.cells (mcs x) 48)) w.heap.size x := World.alloc_heap_new w _
theorem BoxM.set {w : World} {B : Nat} {x : M} (h : BoxM w B x) (t : Int) : BoxM (w.setCell ⟨B, 3, none⟩ (.int .i64 t)) B (toM x t) := by
  unfold BoxM at h ⊢
  rw [heap_setCell_same w B 3 _ _ _ h]
  rfl
theorem BoxM.below {w W : World} {B : Nat} {x : M} (h : BoxM w B x) (hb : Below w.heap.size w W) : BoxM W B x := (hb.block B h.lt).trans h
theorem BoxM.rd {w : World} {B : Nat} {x : M} (h : BoxM w B x) : RdM w (some ⟨B, 0, none⟩) [x] := fun _ => ⟨B, 0, rfl, h.lt, fun i hi c hc => by
  have hi0 : i = 0 := by simp at hi; omega
  subst hi0
  obtain ⟨h0, h1, h2, h3, h4, h5, _⟩ := h.cells
  rcases (by omega : c = 0 ∨ c = 1 ∨ c = 2 ∨ c = 3 ∨ c = 4 ∨ c = 5) with rfl | rfl | rfl | rfl | rfl | rfl <;> simp [nthM, encM, *]⟩
/-- One message, behind a row that a call has made: what is new, and what stays. -/
theorem push_M {w W : World} {v : Value} {B : Nat} {l : List M} {x : M} (h1 : RowM w W v l) (h2 : BoxM W B x) (hl1 : l.length ≤ 100000) (ty : TypeId) (X : List M) (hX : l ++ [x] = X) :
    ∃ a' c' w', (Builtin.append_ #[34, 34] ty #[v, .slice (some ⟨B, 0, none⟩) 1 1]).run Try.prog W = .ok (.slice a' X.length c') w' ∧ RowM w w' (.slice a' X.length c') X ∧ W.grownBy w' v.ownBlock ∧ ((Value.slice a' X.length c').ownBlock = v.ownBlock ∨ (Value.slice a' X.length c').ownBlock = some W.heap.size) := by
  obtain ⟨i0, hi0, hz0, hz1, hz2⟩ := info_parts infoM
  obtain ⟨v', w', hr, h3, h4, h5, h6⟩ := run_append_own_at (P := Try.prog) W w.heap.size 34 ty 48 i0 _ 6 48 Try.underlying34 hi0 hz0 hz1 hz2 rfl (by decide) v l.length (flatM l) h1.1 ⟨B, 0, none⟩ 1 1 (flatM [x]) (flatM_len [x]) (fun j u hj => by
    rw [Addr.add_lit]
    exact h2.rd.flat j u hj) (flatM_one _) (by unfold maxLen; omega) (by omega) h1.2.size
  have hro : RowM w w' v' X := by
    refine ⟨?_, h1.2.grown h4 h1.2.size (fun k e => rowM_ge h1 e)⟩
    rw [← hX, flatM_append, List.length_append]
    exact h3
  obtain ⟨a', c', rfl, _⟩ := hro.rd
  exact ⟨a', c', w', hr, hro, h4, h6⟩
theorem RowM.set {w W : World} {v : Value} {l : List M} {B j : Nat} {u : Value} (h : RowM w W v l) (hB : w.heap.size ≤ B) (hn : v.ownBlock ≠ some B) : RowM w (W.setCell ⟨B, j, none⟩ u) v l := by
  refine ⟨?_, h.2.setCell (p := ⟨B, j, none⟩) hB u⟩
  refine World.ownsRow.kept (row := some B) h.1 ⟨rfl, rfl, rfl, by simp, fun k _ hk => Below.heap_setCell _ _ _ k (fun e => hk (by rw [e]))⟩ (.inr hn)

/-- A message of which each one is made: its block MB, and the row v that grows, of which it was v0 in the world w3. -/
structure Mk (W0 w3 : World) (MB : Nat) (v0 : Value) (x : M) (wr : World) (v : Value) (l : List M) : Prop where
  row : RowM W0 wr v l
  fr : Fr (fun k => k = MB ∨ v0.ownBlock = some k) w3 wr
  bx : ∃ t, BoxM wr MB (toM x t)
  ow : v.ownBlock = v0.ownBlock ∨ ∃ g, v.ownBlock = some g ∧ w3.heap.size ≤ g
  lo : W0.heap.size ≤ MB
  hi : MB < w3.heap.size
  ne : v0.ownBlock ≠ some MB
theorem Mk.far {W0 w3 : World} {MB : Nat} {v0 : Value} {x : M} {wr : World} {v : Value} {l : List M} (h : Mk W0 w3 MB v0 x wr v l) : v.ownBlock ≠ some MB := by
  intro e
  rcases h.ow with g | ⟨g, h1, h2⟩
  · exact h.ne (g ▸ e)
  · rw [h1] at e
    have := h.hi
    simp at e
    omega
theorem Mk.step {W0 w3 : World} {MB : Nat} {v0 : Value} {x : M} {wr : World} {v : Value} {l : List M} (h : Mk W0 w3 MB v0 x wr v l) (t : Int) (hl : l.length ≤ 100000) (ty : TypeId) (X : List M) (hX : l ++ [toM x t] = X) :
    ∃ a' c' w', (Builtin.append_ #[34, 34] ty #[v, .slice (some ⟨wr.heap.size, 0, none⟩) 1 1]).run Try.prog ((wr.setCell ⟨MB, 3, none⟩ (.int .i64 t)).alloc (.cells (mcs (toM x t)) 48)) = .ok (.slice a' X.length c') w' ∧ Mk W0 w3 MB v0 x w' (.slice a' X.length c') X := by
  obtain ⟨t0, hb⟩ := h.bx
  have hf := h.far
  have r1 := (h.row.set (j := 3) (u := .int .i64 t) h.lo hf).below ((Below.refl _ _).alloc (Nat.le_refl _) (.cells (mcs (toM x t)) 48))
  have b2 := BoxM.new (wr.setCell ⟨MB, 3, none⟩ (.int .i64 t)) (toM x t)
  have es : (wr.setCell ⟨MB, 3, none⟩ (.int .i64 t)).heap.size = wr.heap.size := by simp
  rw [es] at b2
  obtain ⟨a', c', w', hr, hro, hg, hw⟩ := push_M r1 b2 hl ty X hX
  have hMBr : MB < wr.heap.size := Nat.lt_of_lt_of_le h.hi h.fr.size
  refine ⟨a', c', w', hr, hro, ?_, ⟨t, ?_⟩, ?_, h.lo, h.hi, h.ne⟩
  · refine ((h.fr.setCell ⟨MB, 3, none⟩ _ (.inl rfl)).alloc _).grown hg (fun k e hk => ?_)
    rcases h.ow with g | ⟨g, h1, h2⟩
    · exact .inr (g ▸ e)
    · rw [h1] at e
      simp at e
      omega
  · have b3 : BoxM ((wr.setCell ⟨MB, 3, none⟩ (.int .i64 t)).alloc (.cells (mcs (toM x t)) 48)) MB (toM x t) := BoxM.below (BoxM.set hb t) ((Below.refl _ _).alloc (Nat.le_refl _) _)
    exact (hg.block MB b3.lt (fun e => hf e.symm)).trans b3
  · rcases hw with g | g
    · rcases h.ow with k | k
      · exact .inl (g.trans k)
      · obtain ⟨q, k1, k2⟩ := k
        exact .inr ⟨q, g.trans k1, k2⟩
    · exact .inr ⟨_, g, by have := h.fr.size; simp; omega⟩
theorem wpList_append_run {P : Program} (W : World) {ops : Array Oper} {rest : List Oper} {o : Oper} {a : Act} {Q : Exit → Act → World → Prop} (hgd : o.guard = none) (s x : Operand) (t : TypeId)
    (ho : o.op = .call { callee := .builtin .append, args := #[s, x], argTypes := #[t, t] })
    {v1 v2 v' : Value} {w' : World} (hs : a.eval s = v1) (hx : a.eval x = v2) (hrun : (Builtin.append_ #[t, t] o.type #[v1, v2]).run P W = .ok v' w')
    (h : wpList P ops Q rest (a.put o.dst v') w') : wpList P ops Q (o :: rest) a W := by
  refine wpList_plain hgd fun K hK => ?_
  unfold Oper.wp execOp
  simp only [ho, resolve, invoke, builtin, Sem.run_bind, Sem.run_pure, Result.andThen_ok, List.map_toArray, List.map_cons, List.map_nil, hs, hx, hrun]
  exact hK _ _ h
end Go.Proofs.Ytpifkoblcbjiiaa
