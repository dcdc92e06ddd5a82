/- Proved: messages as plain data, how rows of them lie in memory, and what is put behind them. -/
import Derived.Test.YtpifkoblcbjiiaaFds
namespace Go.Proofs.Ytpifkoblcbjiiaa
open Go.RowKit Go.Shelf
set_option linter.unusedVariables false

/-- A message: its time, who sent it, its number, to whom it goes, its class, its body. -/
structure M where
  t : Int
  fr : Int
  sq : Int
  dst : Int
  cl : Int
  bd : Int
abbrev mv (x : M) : Value := .agg #[.int .i64 x.t, .int .i64 x.fr, .int .i64 x.sq, .int .i64 x.dst, .int .i64 x.cl, .int .i64 x.bd]
def encM (x : M) : List Value := [.int .i64 x.t, .int .i64 x.fr, .int .i64 x.sq, .int .i64 x.dst, .int .i64 x.cl, .int .i64 x.bd]
theorem encM_len (x : M) : (encM x).length = 6 := rfl
theorem encM_one (x : M) : ∀ v ∈ encM x, v.oneCell' = true := by
  intro v hv
  simp [encM] at hv
  rcases hv with rfl | rfl | rfl | rfl | rfl | rfl <;> rfl
def nthM (l : List M) (i : Nat) : M := l.getD i ⟨0, 0, 0, 0, 0, 0⟩
def flatM (l : List M) : List Value := l.flatMap encM
theorem flatM_len (l : List M) : (flatM l).length = l.length * 6 := by
  induction l with
  | nil => rfl
  | cons x r ih => simp only [flatM, List.flatMap_cons, List.length_append, encM_len, List.length_cons] at *; omega
theorem flatM_append (a b : List M) : flatM (a ++ b) = flatM a ++ flatM b := by simp [flatM]
theorem flatM_get (l : List M) (i c : Nat) (hi : i < l.length) (hc : c < 6) : (flatM l)[i * 6 + c]? = (encM (nthM l i))[c]? := by
  induction l generalizing i with
  | nil => simp at hi
  | cons x r ih =>
    rw [show flatM (x :: r) = encM x ++ flatM r by simp [flatM]]
    cases i with
    | zero => rw [List.getElem?_append_left (by rw [encM_len]; omega)]; simp [nthM]
    | succ j =>
      rw [List.getElem?_append_right (by rw [encM_len]; omega), encM_len, show (j + 1) * 6 + c - 6 = j * 6 + c by omega, ih j (by simpa using hi)]
      simp [nthM]
theorem flatM_one (l : List M) : ∀ v ∈ flatM l, v.oneCell' = true := by
  intro v hv
  obtain ⟨m, _, h⟩ := List.mem_flatMap.1 hv
  exact encM_one m v h
theorem memM (l : List M) (x : M) : x ∈ l ↔ ∃ i, i < l.length ∧ nthM l i = x := by
  rw [List.mem_iff_getElem]
  constructor
  · rintro ⟨i, hi, rfl⟩; exact ⟨i, hi, by simp [nthM, hi]⟩
  · rintro ⟨i, hi, rfl⟩; exact ⟨i, hi, by simp [nthM, hi]⟩
def RdM (w : World) (a : Option Addr) (l : List M) : Prop :=
  l ≠ [] → ∃ b off, a = some ⟨b, off, none⟩ ∧ b < w.heap.size ∧ ∀ i, i < l.length → ∀ c, c < 6 → w.cell? ⟨b, off + i * 6 + c, none⟩ = (encM (nthM l i))[c]?
theorem RdM.below {w w' : World} {a : Option Addr} {l : List M} (h : RdM w a l) (hb : Below w.heap.size w w') : RdM w' a l := fun g => by
  obtain ⟨b, off, rfl, hB, hc⟩ := h g
  exact ⟨b, off, rfl, Nat.lt_of_lt_of_le hB hb.size, fun i hi c hc3 => (hb.cell (p := ⟨b, off + i * 6 + c, none⟩) hB).trans (hc i hi c hc3)⟩
theorem RdM.cells {w : World} {a : Option Addr} {l : List M} (h : RdM w a l) {i : Nat} (hi : i < l.length) {x : M} (hx : nthM l i = x) :
    ∃ b off, a = some ⟨b, off, none⟩ ∧ b < w.heap.size ∧ w.cell? ⟨b, off + i * 6, none⟩ = some (.int .i64 x.t) ∧ w.cell? ⟨b, off + i * 6 + 1, none⟩ = some (.int .i64 x.fr) ∧ w.cell? ⟨b, off + i * 6 + 2, none⟩ = some (.int .i64 x.sq) ∧ w.cell? ⟨b, off + i * 6 + 3, none⟩ = some (.int .i64 x.dst) ∧ w.cell? ⟨b, off + i * 6 + 4, none⟩ = some (.int .i64 x.cl) ∧ w.cell? ⟨b, off + i * 6 + 5, none⟩ = some (.int .i64 x.bd) := by
  obtain ⟨b, off, rfl, hB, hc⟩ := h (by intro e; simp [e] at hi)
  subst hx
  exact ⟨b, off, rfl, hB, hc i hi 0 (by omega), hc i hi 1 (by omega), hc i hi 2 (by omega), hc i hi 3 (by omega), hc i hi 4 (by omega), hc i hi 5 (by omega)⟩
theorem RdM.flat {w : World} {b off : Nat} {l : List M} (h : RdM w (some ⟨b, off, none⟩) l) : ∀ j u, (flatM l)[j]? = some u → w.cell? ⟨b, off + j, none⟩ = some u := fun j u hj => by
  have hj' : j < l.length * 6 := by have := (List.getElem?_eq_some_iff.1 hj).1; rwa [flatM_len] at this
  have hl : l ≠ [] := by intro e; simp [e] at hj'
  obtain ⟨b', off', e, hB, hc⟩ := h hl
  simp at e
  obtain ⟨rfl, rfl⟩ := e
  have hq : j / 6 < l.length := Nat.div_lt_of_lt_mul (by omega)
  have hr : j % 6 < 6 := Nat.mod_lt _ (by omega)
  have h1 := hc (j / 6) hq (j % 6) hr
  rw [← flatM_get l (j / 6) (j % 6) hq hr] at h1
  have e2 : j / 6 * 6 + j % 6 = j := by omega
  rw [Nat.add_assoc, e2] at h1
  rw [h1, hj]
/-- A row that a call has made since w. -/
def RowM (w W : World) (v : Value) (l : List M) : Prop := W.ownsRow w.heap.size 48 6 v l.length (flatM l) ∧ Below w.heap.size w W
theorem RowM.below {w W W' : World} {v : Value} {l : List M} (h : RowM w W v l) (hb : Below W.heap.size W W') : RowM w W' v l := by
  refine ⟨⟨h.1.1, ?_⟩, h.2.trans (hb.mono h.2.size)⟩
  rcases h.1.2 with g | ⟨g, cap, cur, h1, h2, h3, h4⟩
  · exact .inl g
  · exact .inr ⟨g, cap, cur, h1, h2, (hb.block g (Array.getElem?_eq_some_iff.1 h3).1).trans h3, h4⟩
theorem RowM.nil (w : World) : RowM w w (.slice none 0 0) [] := ⟨World.ownsRow_nil _ _ _ _, Below.refl _ _⟩
theorem RowM.empty (w : World) : RowM w (w.alloc (.cells #[] 48)) (.slice (some ⟨w.heap.size, 0, none⟩) 0 0) [] := ⟨World.ownsRow_made w #[] 0 (Nat.le_refl _) (Nat.zero_le _) (by simp), (Below.refl _ _).alloc (Nat.le_refl _) _⟩
theorem RowM.rd {w W : World} {v : Value} {l : List M} (h : RowM w W v l) : ∃ a c, v = .slice a l.length c ∧ RdM W a l := by
  have h0 := h.1
  rcases h.1.2 with ⟨rfl, hn⟩ | ⟨g, cap, cur, rfl, _, hg, _⟩
  · exact ⟨none, 0, by rw [hn], fun hl => absurd (List.length_eq_zero_iff.1 hn) hl⟩
  · refine ⟨_, cap, rfl, fun _ => ⟨g, 0, rfl, (Array.getElem?_eq_some_iff.1 hg).1, fun i hi c hc => ?_⟩⟩
    rw [Nat.zero_add, World.ownsRow.cellAt h0 _ (by omega), flatM_get l i c hi hc]
theorem RowM.since {w0 w W : World} {v : Value} {l : List M} (h : RowM w W v l) (hb : Below w0.heap.size w0 w) : RowM w0 W v l := by
  refine ⟨⟨h.1.1, ?_⟩, hb.trans (h.2.mono hb.size)⟩
  rcases h.1.2 with g | ⟨g, cap, cur, h1, h2, h3, h4⟩
  · exact .inl g
  · exact .inr ⟨g, cap, cur, h1, Nat.le_trans hb.size h2, h3, h4⟩
theorem RowM.look {w W W' : World} {a : Option Addr} {c : Nat} {l : List M} (h : RowM w W (.slice a l.length c) l) (hb : Below W.heap.size W W') : RdM W' a l := by
  obtain ⟨a', c', e, hrd⟩ := (h.below hb).rd
  simp at e
  obtain ⟨rfl, rfl⟩ := e
  exact hrd
theorem infoM : (Try.prog.info? 48).map (fun i => (i.zero, i.size, i.bytes)) = some (some (.agg #[.int .i64 0, .int .i64 0, .int .i64 0, .int .i64 0, .int .i64 0, .int .i64 0]), 6, 48) := by kernel_rfl
theorem rowM_ge {w W : World} {v : Value} {l : List M} (h : RowM w W v l) {k : Nat} (e : v.ownBlock = some k) : w.heap.size ≤ k := by
  rcases h.1.2 with ⟨rfl, _⟩ | ⟨g, cap, cur, rfl, hg, _⟩
  · simp [Value.ownBlock] at e
  · simp [Value.ownBlock] at e; omega
/-- What stands in a row, behind a row that a call has made. -/
theorem append_M {w W : World} {v : Value} {a : Option Addr} {c : Nat} {l1 l2 : List M} (h1 : RowM w W v l1) (h2 : RdM W a l2) (hl1 : l1.length ≤ 100000) (hl2 : l2.length ≤ 100000) (ty : TypeId) (X : List M) (hX : l1 ++ l2 = X) :
    ∃ a' c' w', (Builtin.append_ #[34, 34] ty #[v, .slice a l2.length c]).run Try.prog W = .ok (.slice a' X.length c') w' ∧ RowM w w' (.slice a' X.length c') X := by
  obtain ⟨i0, hi0, hz0, hz1, hz2⟩ := info_parts infoM
  have fin : ∀ v' w', RowM w w' v' X → (Builtin.append_ #[34, 34] ty #[v, .slice a l2.length c]).run Try.prog W = .ok v' w' → ∃ a' c' w', (Builtin.append_ #[34, 34] ty #[v, .slice a l2.length c]).run Try.prog W = .ok (.slice a' X.length c') w' ∧ RowM w w' (.slice a' X.length c') X := fun v' w' h hr => by
    obtain ⟨a', c', rfl, _⟩ := h.rd
    exact ⟨a', c', w', hr, h⟩
  cases a with
  | none =>
    have hd : l2 = [] := Classical.byContradiction fun g => by
      obtain ⟨b, off, e, _⟩ := h2 g
      cases e
    subst hd
    rw [List.append_nil] at hX
    subst hX
    have hr := run_append_owned_none (P := Try.prog) W w.heap.size 34 ty 48 i0 6 Try.underlying34 hi0 v l1.length (flatM l1) h1.1
    exact fin _ _ h1 (by first | exact hr | (have := hr; simpa using this))
  | some ad =>
    obtain ⟨v', w', hr, h3, h4, h5, h6⟩ := run_append_own_at (P := Try.prog) W w.heap.size 34 ty 48 i0 _ 6 48 Try.underlying34 hi0 hz0 hz1 hz2 rfl (by decide) v l1.length (flatM l1) h1.1 ad l2.length c (flatM l2) (flatM_len l2) (fun j u hj => by
      have hj' : j < l2.length * 6 := by have := (List.getElem?_eq_some_iff.1 hj).1; rwa [flatM_len] at this
      obtain ⟨b, off, e, _⟩ := h2 (by intro e; simp [e] at hj')
      simp at e
      subst e
      rw [Addr.add_lit]
      exact h2.flat j u hj) (flatM_one _) (by unfold maxLen; omega) (by omega) h1.2.size
    refine fin v' w' ⟨?_, h1.2.grown h4 h1.2.size (fun k e => rowM_ge h1 e)⟩ hr
    rw [← hX, flatM_append, List.length_append]
    exact h3
theorem wpList_append_M (W : World) {ops : Array Oper} {rest : List Oper} {o : Oper} {a : Act} {Q : Exit → Act → World → Prop} (hgd : o.guard = none) (s x : Operand)
    (ho : o.op = .call { callee := .builtin .append, args := #[s, x], argTypes := #[34, 34] })
    (w : World) (v : Value) (ad : Option Addr) (c : Nat) (l1 l2 : List M) (hs : a.eval s = v) (hx : a.eval x = .slice ad l2.length c) (h1 : RowM w W v l1) (h2 : RdM W ad l2) (hl1 : l1.length ≤ 100000) (hl2 : l2.length ≤ 100000) (X : List M) (hX : l1 ++ l2 = X)
    (h : ∀ a' c' w', RowM w w' (.slice a' X.length c') X → wpList Try.prog ops Q rest (a.put o.dst (.slice a' X.length c')) w') :
    wpList Try.prog ops Q (o :: rest) a W := by
  refine wpList_plain hgd fun K hK => ?_
  obtain ⟨a', c', w', hr, h3⟩ := append_M (c := c) h1 h2 hl1 hl2 o.type X hX
  unfold Oper.wp execOp
  simp only [ho, resolve, invoke, builtin, Sem.run_bind, Sem.run_pure, Result.andThen_ok, List.map_toArray, List.map_cons, List.map_nil, hs, hx, hr]
  exact hK _ _ (h a' c' w' h3)
end Go.Proofs.Ytpifkoblcbjiiaa
