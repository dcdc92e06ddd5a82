/- Joined: the texts that follow, each with its own sentence. -/
import Derived.Test.YtkodjioofkdepaaJCfg
/- Proved: messages as plain data, how rows of them lie in memory, and what is put behind them. -/
namespace Go.Proofs.Ytkodjioofkdepaa
open Go.RowKit Go.Shelf
set_option linter.unusedVariables false

/-- A message: its time, who sent it, its number, to whom it goes, its class, its body. -/
structure M where
  t : Int
  fr : Int
  sq : Int
  dst : Int
  cl : Int
  bd : Int
abbrev mv (x : M) : Value := .agg #[.int .i64 x.t, .int .i64 x.fr, .int .i64 x.sq, .int .i64 x.dst, .int .i64 x.cl, .int .i64 x.bd]
def encM (x : M) : List Value := [.int .i64 x.t, .int .i64 x.fr, .int .i64 x.sq, .int .i64 x.dst, .int .i64 x.cl, .int .i64 x.bd]
theorem encM_len (x : M) : (encM x).length = 6 := rfl
theorem encM_one (x : M) : ∀ v ∈ encM x, v.oneCell' = true := by
  intro v hv
  simp [encM] at hv
  rcases hv with rfl | rfl | rfl | rfl | rfl | rfl <;> rfl
def nthM (l : List M) (i : Nat) : M := l.getD i ⟨0, 0, 0, 0, 0, 0⟩
def flatM (l : List M) : List Value := l.flatMap encM
theorem flatM_len (l : List M) : (flatM l).length = l.length * 6 := by
  induction l with
  | nil => rfl
  | cons x r ih => simp only [flatM, List.flatMap_cons, List.length_append, encM_len, List.length_cons] at *; omega
theorem flatM_append (a b : List M) : flatM (a ++ b) = flatM a ++ flatM b := by simp [flatM]
theorem flatM_get (l : List M) (i c : Nat) (hi : i < l.length) (hc : c < 6) : (flatM l)[i * 6 + c]? = (encM (nthM l i))[c]? := by
  induction l generalizing i with
  | nil => simp at hi
  | cons x r ih =>
    rw [show flatM (x :: r) = encM x ++ flatM r by simp [flatM]]
    cases i with
    | zero => rw [List.getElem?_append_left (by rw [encM_len]; omega)]; simp [nthM]
    | succ j =>
      rw [List.getElem?_append_right (by rw [encM_len]; omega), encM_len, show (j + 1) * 6 + c - 6 = j * 6 + c by omega, ih j (by simpa using hi)]
      simp [nthM]
theorem flatM_one (l : List M) : ∀ v ∈ flatM l, v.oneCell' = true := by
  intro v hv
  obtain ⟨m, _, h⟩ := List.mem_flatMap.1 hv
  exact encM_one m v h
theorem memM (l : List M) (x : M) : x ∈ l ↔ ∃ i, i < l.length ∧ nthM l i = x := by
  rw [List.mem_iff_getElem]
  constructor
  · rintro ⟨i, hi, rfl⟩; exact ⟨i, hi, by simp [nthM, hi]⟩
  · rintro ⟨i, hi, rfl⟩; exact ⟨i, hi, by simp [nthM, hi]⟩
def RdM (w : World) (a : Option Addr) (l : List M) : Prop :=
  l ≠ [] → ∃ b off, a = some ⟨b, off, none⟩ ∧ b < w.heap.size ∧ ∀ i, i < l.length → ∀ c, c < 6 → w.cell? ⟨b, off + i * 6 + c, none⟩ = (encM (nthM l i))[c]?
theorem RdM.below {w w' : World} {a : Option Addr} {l : List M} (h : RdM w a l) (hb : Below w.heap.size w w') : RdM w' a l := fun g => by
  obtain ⟨b, off, rfl, hB, hc⟩ := h g
  exact ⟨b, off, rfl, Nat.lt_of_lt_of_le hB hb.size, fun i hi c hc3 => (hb.cell (p := ⟨b, off + i * 6 + c, none⟩) hB).trans (hc i hi c hc3)⟩
theorem RdM.cells {w : World} {a : Option Addr} {l : List M} (h : RdM w a l) {i : Nat} (hi : i < l.length) {x : M} (hx : nthM l i = x) :
    ∃ b off, a = some ⟨b, off, none⟩ ∧ b < w.heap.size ∧ w.cell? ⟨b, off + i * 6, none⟩ = some (.int .i64 x.t) ∧ w.cell? ⟨b, off + i * 6 + 1, none⟩ = some (.int .i64 x.fr) ∧ w.cell? ⟨b, off + i * 6 + 2, none⟩ = some (.int .i64 x.sq) ∧ w.cell? ⟨b, off + i * 6 + 3, none⟩ = some (.int .i64 x.dst) ∧ w.cell? ⟨b, off + i * 6 + 4, none⟩ = some (.int .i64 x.cl) ∧ w.cell? ⟨b, off + i * 6 + 5, none⟩ = some (.int .i64 x.bd) := by
  obtain ⟨b, off, rfl, hB, hc⟩ := h (by intro e; simp [e] at hi)
  subst hx
  exact ⟨b, off, rfl, hB, hc i hi 0 (by omega), hc i hi 1 (by omega), hc i hi 2 (by omega), hc i hi 3 (by omega), hc i hi 4 (by omega), hc i hi 5 (by omega)⟩
theorem RdM.flat {w : World} {b off : Nat} {l : List M} (h : RdM w (some ⟨b, off, none⟩) l) : ∀ j u, (flatM l)[j]? = some u → w.cell? ⟨b, off + j, none⟩ = some u := fun j u hj => by
  have hj' : j < l.length * 6 := by have := (List.getElem?_eq_some_iff.1 hj).1; rwa [flatM_len] at this
  have hl : l ≠ [] := by intro e; simp [e] at hj'
  obtain ⟨b', off', e, hB, hc⟩ := h hl
  simp at e
  obtain ⟨rfl, rfl⟩ := e
  have hq : j / 6 < l.length := Nat.div_lt_of_lt_mul (by omega)
  have hr : j % 6 < 6 := Nat.mod_lt _ (by omega)
  have h1 := hc (j / 6) hq (j % 6) hr
  rw [← flatM_get l (j / 6) (j % 6) hq hr] at h1
  have e2 : j / 6 * 6 + j % 6 = j := by omega
  rw [Nat.add_assoc, e2] at h1
  rw [h1, hj]
/-- A row that a call has made since w. -/
def RowM (w W : World) (v : Value) (l : List M) : Prop := W.ownsRow w.heap.size 36 6 v l.length (flatM l) ∧ Below w.heap.size w W
theorem RowM.below {w W W' : World} {v : Value} {l : List M} (h : RowM w W v l) (hb : Below W.heap.size W W') : RowM w W' v l := by
  refine ⟨⟨h.1.1, ?_⟩, h.2.trans (hb.mono h.2.size)⟩
  rcases h.1.2 with g | ⟨g, cap, cur, h1, h2, h3, h4⟩
  · exact .inl g
  · exact .inr ⟨g, cap, cur, h1, h2, (hb.block g (Array.getElem?_eq_some_iff.1 h3).1).trans h3, h4⟩
theorem RowM.nil (w : World) : RowM w w (.slice none 0 0) [] := ⟨World.ownsRow_nil _ _ _ _, Below.refl _ _⟩
theorem RowM.empty (w : World) : RowM w (w.alloc (.cells #[] 36)) (.slice (some ⟨w.heap.size, 0, none⟩) 0 0) [] := ⟨World.ownsRow_made w #[] 0 (Nat.le_refl _) (Nat.zero_le _) (by simp), (Below.refl _ _).alloc (Nat.le_refl _) _⟩
theorem RowM.rd {w W : World} {v : Value} {l : List M} (h : RowM w W v l) : ∃ a c, v = .slice a l.length c ∧ RdM W a l := by
  have h0 := h.1
  rcases h.1.2 with ⟨rfl, hn⟩ | ⟨g, cap, cur, rfl, _, hg, _⟩
  · exact ⟨none, 0, by rw [hn], fun hl => absurd (List.length_eq_zero_iff.1 hn) hl⟩
  · refine ⟨_, cap, rfl, fun _ => ⟨g, 0, rfl, (Array.getElem?_eq_some_iff.1 hg).1, fun i hi c hc => ?_⟩⟩
    rw [Nat.zero_add, World.ownsRow.cellAt h0 _ (by omega), flatM_get l i c hi hc]
theorem RowM.since {w0 w W : World} {v : Value} {l : List M} (h : RowM w W v l) (hb : Below w0.heap.size w0 w) : RowM w0 W v l := by
  refine ⟨⟨h.1.1, ?_⟩, hb.trans (h.2.mono hb.size)⟩
  rcases h.1.2 with g | ⟨g, cap, cur, h1, h2, h3, h4⟩
  · exact .inl g
  · exact .inr ⟨g, cap, cur, h1, Nat.le_trans hb.size h2, h3, h4⟩
theorem RowM.look {w W W' : World} {a : Option Addr} {c : Nat} {l : List M} (h : RowM w W (.slice a l.length c) l) (hb : Below W.heap.size W W') : RdM W' a l := by
  obtain ⟨a', c', e, hrd⟩ := (h.below hb).rd
  simp at e
  obtain ⟨rfl, rfl⟩ := e
  exact hrd
theorem infoM : (Try.prog.info? 36).map (fun i => (i.zero, i.size, i.bytes)) = some (some (.agg #[.int .i64 0, .int .i64 0, .int .i64 0, .int .i64 0, .int .i64 0, .int .i64 0]), 6, 48) := by kernel_rfl
theorem rowM_ge {w W : World} {v : Value} {l : List M} (h : RowM w W v l) {k : Nat} (e : v.ownBlock = some k) : w.heap.size ≤ k := by
  rcases h.1.2 with ⟨rfl, _⟩ | ⟨g, cap, cur, rfl, hg, _⟩
  · simp [Value.ownBlock] at e
  · simp [Value.ownBlock] at e; omega
/-- What stands in a row, behind a row that a call has made. -/
theorem append_M {w W : World} {v : Value} {a : Option Addr} {c : Nat} {l1 l2 : List M} (h1 : RowM w W v l1) (h2 : RdM W a l2) (hl1 : l1.length ≤ 100000) (hl2 : l2.length ≤ 100000) (ty : TypeId) (X : List M) (hX : l1 ++ l2 = X) :
    ∃ a' c' w', (Builtin.append_ #[50, 50] ty #[v, .slice a l2.length c]).run Try.prog W = .ok (.slice a' X.length c') w' ∧ RowM w w' (.slice a' X.length c') X := by
  obtain ⟨i0, hi0, hz0, hz1, hz2⟩ := info_parts infoM
  have fin : ∀ v' w', RowM w w' v' X → (Builtin.append_ #[50, 50] ty #[v, .slice a l2.length c]).run Try.prog W = .ok v' w' → ∃ a' c' w', (Builtin.append_ #[50, 50] ty #[v, .slice a l2.length c]).run Try.prog W = .ok (.slice a' X.length c') w' ∧ RowM w w' (.slice a' X.length c') X := fun v' w' h hr => by
    obtain ⟨a', c', rfl, _⟩ := h.rd
    exact ⟨a', c', w', hr, h⟩
  cases a with
  | none =>
    have hd : l2 = [] := Classical.byContradiction fun g => by
      obtain ⟨b, off, e, _⟩ := h2 g
      cases e
    subst hd
    rw [List.append_nil] at hX
    subst hX
    have hr := run_append_owned_none (P := Try.prog) W w.heap.size 50 ty 36 i0 6 Try.underlying50 hi0 v l1.length (flatM l1) h1.1
    exact fin _ _ h1 (by first | exact hr | (have := hr; simpa using this))
  | some ad =>
    obtain ⟨v', w', hr, h3, h4, h5, h6⟩ := run_append_own_at (P := Try.prog) W w.heap.size 50 ty 36 i0 _ 6 48 Try.underlying50 hi0 hz0 hz1 hz2 rfl (by decide) v l1.length (flatM l1) h1.1 ad l2.length c (flatM l2) (flatM_len l2) (fun j u hj => by
      have hj' : j < l2.length * 6 := by have := (List.getElem?_eq_some_iff.1 hj).1; rwa [flatM_len] at this
      obtain ⟨b, off, e, _⟩ := h2 (by intro e; simp [e] at hj')
      simp at e
      subst e
      rw [Addr.add_lit]
      exact h2.flat j u hj) (flatM_one _) (by unfold maxLen; omega) (by omega) h1.2.size
    refine fin v' w' ⟨?_, h1.2.grown h4 h1.2.size (fun k e => rowM_ge h1 e)⟩ hr
    rw [← hX, flatM_append, List.length_append]
    exact h3
theorem wpList_append_M (W : World) {ops : Array Oper} {rest : List Oper} {o : Oper} {a : Act} {Q : Exit → Act → World → Prop} (hgd : o.guard = none) (s x : Operand)
    (ho : o.op = .call { callee := .builtin .append, args := #[s, x], argTypes := #[50, 50] })
    (w : World) (v : Value) (ad : Option Addr) (c : Nat) (l1 l2 : List M) (hs : a.eval s = v) (hx : a.eval x = .slice ad l2.length c) (h1 : RowM w W v l1) (h2 : RdM W ad l2) (hl1 : l1.length ≤ 100000) (hl2 : l2.length ≤ 100000) (X : List M) (hX : l1 ++ l2 = X)
    (h : ∀ a' c' w', RowM w w' (.slice a' X.length c') X → wpList Try.prog ops Q rest (a.put o.dst (.slice a' X.length c')) w') :
    wpList Try.prog ops Q (o :: rest) a W := by
  refine wpList_plain hgd fun K hK => ?_
  obtain ⟨a', c', w', hr, h3⟩ := append_M (c := c) h1 h2 hl1 hl2 o.type X hX
  unfold Oper.wp execOp
  simp only [ho, resolve, invoke, builtin, Sem.run_bind, Sem.run_pure, Result.andThen_ok, List.map_toArray, List.map_cons, List.map_nil, hs, hx, hr]
  exact hK _ _ (h a' c' w' h3)
end Go.Proofs.Ytkodjioofkdepaa
/- Proved: rows of federates that a call has made. -/
namespace Go.Proofs.Ytkodjioofkdepaa
open Go.RowKit Go.Shelf
set_option linter.unusedVariables false

/-- A federate, as a row of cells. -/
abbrev G := Fd
def encG (x : G) : List Value := [.int .i64 x.kd, .int .i64 x.lk, .int .i64 x.st, .slice x.ra x.rs.length x.rc, .slice x.pa x.ps.length x.pc, .slice x.sa x.ss.length x.sc, .slice x.ia x.is.length x.ic]
theorem encG_len (x : G) : (encG x).length = 7 := rfl
theorem encG_one (x : G) : ∀ v ∈ encG x, v.oneCell' = true := by
  intro v hv
  simp [encG] at hv
  rcases hv with rfl | rfl | rfl | rfl | rfl | rfl | rfl <;> rfl
def nthG (l : List G) (i : Nat) : G := l.getD i zeroF
def flatG (l : List G) : List Value := l.flatMap encG
theorem flatG_len (l : List G) : (flatG l).length = l.length * 7 := by
  induction l with
  | nil => rfl
  | cons x r ih => simp only [flatG, List.flatMap_cons, List.length_append, encG_len, List.length_cons] at *; omega
theorem flatG_append (a b : List G) : flatG (a ++ b) = flatG a ++ flatG b := by simp [flatG]
theorem flatG_get (l : List G) (i c : Nat) (hi : i < l.length) (hc : c < 7) : (flatG l)[i * 7 + c]? = (encG (nthG l i))[c]? := by
  induction l generalizing i with
  | nil => simp at hi
  | cons x r ih =>
    rw [show flatG (x :: r) = encG x ++ flatG r by simp [flatG]]
    cases i with
    | zero => rw [List.getElem?_append_left (by rw [encG_len]; omega)]; simp [nthG]
    | succ j =>
      rw [List.getElem?_append_right (by rw [encG_len]; omega), encG_len, show (j + 1) * 7 + c - 7 = j * 7 + c by omega, ih j (by simpa using hi)]
      simp [nthG]
theorem flatG_one (l : List G) : ∀ v ∈ flatG l, v.oneCell' = true := by
  intro v hv
  obtain ⟨m, _, h⟩ := List.mem_flatMap.1 hv
  exact encG_one m v h
theorem memG (l : List G) (x : G) : x ∈ l ↔ ∃ i, i < l.length ∧ nthG l i = x := by
  rw [List.mem_iff_getElem]
  constructor
  · rintro ⟨i, hi, rfl⟩; exact ⟨i, hi, by simp [nthG, hi]⟩
  · rintro ⟨i, hi, rfl⟩; exact ⟨i, hi, by simp [nthG, hi]⟩
def RdG (w : World) (a : Option Addr) (l : List G) : Prop :=
  l ≠ [] → ∃ b off, a = some ⟨b, off, none⟩ ∧ b < w.heap.size ∧ ∀ i, i < l.length → ∀ c, c < 7 → w.cell? ⟨b, off + i * 7 + c, none⟩ = (encG (nthG l i))[c]?
theorem RdG.below {w w' : World} {a : Option Addr} {l : List G} (h : RdG w a l) (hb : Below w.heap.size w w') : RdG w' a l := fun g => by
  obtain ⟨b, off, rfl, hB, hc⟩ := h g
  exact ⟨b, off, rfl, Nat.lt_of_lt_of_le hB hb.size, fun i hi c hc3 => (hb.cell (p := ⟨b, off + i * 7 + c, none⟩) hB).trans (hc i hi c hc3)⟩
theorem RdG.cells {w : World} {a : Option Addr} {l : List G} (h : RdG w a l) {i : Nat} (hi : i < l.length) {x : G} (hx : nthG l i = x) :
    ∃ b off, a = some ⟨b, off, none⟩ ∧ b < w.heap.size ∧ w.cell? ⟨b, off + i * 7, none⟩ = some (.int .i64 x.kd) ∧ w.cell? ⟨b, off + i * 7 + 1, none⟩ = some (.int .i64 x.lk) ∧ w.cell? ⟨b, off + i * 7 + 2, none⟩ = some (.int .i64 x.st) ∧ w.cell? ⟨b, off + i * 7 + 3, none⟩ = some (.slice x.ra x.rs.length x.rc) ∧ w.cell? ⟨b, off + i * 7 + 4, none⟩ = some (.slice x.pa x.ps.length x.pc) ∧ w.cell? ⟨b, off + i * 7 + 5, none⟩ = some (.slice x.sa x.ss.length x.sc) ∧ w.cell? ⟨b, off + i * 7 + 6, none⟩ = some (.slice x.ia x.is.length x.ic) := by
  obtain ⟨b, off, rfl, hB, hc⟩ := h (by intro e; simp [e] at hi)
  subst hx
  exact ⟨b, off, rfl, hB, hc i hi 0 (by omega), hc i hi 1 (by omega), hc i hi 2 (by omega), hc i hi 3 (by omega), hc i hi 4 (by omega), hc i hi 5 (by omega), hc i hi 6 (by omega)⟩
theorem RdG.flat {w : World} {b off : Nat} {l : List G} (h : RdG w (some ⟨b, off, none⟩) l) : ∀ j u, (flatG l)[j]? = some u → w.cell? ⟨b, off + j, none⟩ = some u := fun j u hj => by
  have hj' : j < l.length * 7 := by have := (List.getElem?_eq_some_iff.1 hj).1; rwa [flatG_len] at this
  have hl : l ≠ [] := by intro e; simp [e] at hj'
  obtain ⟨b', off', e, hB, hc⟩ := h hl
  simp at e
  obtain ⟨rfl, rfl⟩ := e
  have hq : j / 7 < l.length := Nat.div_lt_of_lt_mul (by omega)
  have hr : j % 7 < 7 := Nat.mod_lt _ (by omega)
  have h1 := hc (j / 7) hq (j % 7) hr
  rw [← flatG_get l (j / 7) (j % 7) hq hr] at h1
  have e2 : j / 7 * 7 + j % 7 = j := by omega
  rw [Nat.add_assoc, e2] at h1
  rw [h1, hj]
/-- A row that a call has made since w. -/
def RowG (w W : World) (v : Value) (l : List G) : Prop := W.ownsRow w.heap.size 65 7 v l.length (flatG l) ∧ Below w.heap.size w W
theorem RowG.below {w W W' : World} {v : Value} {l : List G} (h : RowG w W v l) (hb : Below W.heap.size W W') : RowG w W' v l := by
  refine ⟨⟨h.1.1, ?_⟩, h.2.trans (hb.mono h.2.size)⟩
  rcases h.1.2 with g | ⟨g, cap, cur, h1, h2, h3, h4⟩
  · exact .inl g
  · exact .inr ⟨g, cap, cur, h1, h2, (hb.block g (Array.getElem?_eq_some_iff.1 h3).1).trans h3, h4⟩
theorem RowG.nil (w : World) : RowG w w (.slice none 0 0) [] := ⟨World.ownsRow_nil _ _ _ _, Below.refl _ _⟩
theorem RowG.empty (w : World) : RowG w (w.alloc (.cells #[] 65)) (.slice (some ⟨w.heap.size, 0, none⟩) 0 0) [] := ⟨World.ownsRow_made w #[] 0 (Nat.le_refl _) (Nat.zero_le _) (by simp), (Below.refl _ _).alloc (Nat.le_refl _) _⟩
theorem RowG.rd {w W : World} {v : Value} {l : List G} (h : RowG w W v l) : ∃ a c, v = .slice a l.length c ∧ RdG W a l := by
  have h0 := h.1
  rcases h.1.2 with ⟨rfl, hn⟩ | ⟨g, cap, cur, rfl, _, hg, _⟩
  · exact ⟨none, 0, by rw [hn], fun hl => absurd (List.length_eq_zero_iff.1 hn) hl⟩
  · refine ⟨_, cap, rfl, fun _ => ⟨g, 0, rfl, (Array.getElem?_eq_some_iff.1 hg).1, fun i hi c hc => ?_⟩⟩
    rw [Nat.zero_add, World.ownsRow.cellAt h0 _ (by omega), flatG_get l i c hi hc]
theorem RowG.since {w0 w W : World} {v : Value} {l : List G} (h : RowG w W v l) (hb : Below w0.heap.size w0 w) : RowG w0 W v l := by
  refine ⟨⟨h.1.1, ?_⟩, hb.trans (h.2.mono hb.size)⟩
  rcases h.1.2 with g | ⟨g, cap, cur, h1, h2, h3, h4⟩
  · exact .inl g
  · exact .inr ⟨g, cap, cur, h1, Nat.le_trans hb.size h2, h3, h4⟩
theorem RowG.look {w W W' : World} {a : Option Addr} {c : Nat} {l : List G} (h : RowG w W (.slice a l.length c) l) (hb : Below W.heap.size W W') : RdG W' a l := by
  obtain ⟨a', c', e, hrd⟩ := (h.below hb).rd
  simp at e
  obtain ⟨rfl, rfl⟩ := e
  exact hrd
theorem infoG : (Try.prog.info? 65).map (fun i => (i.zero, i.size, i.bytes)) = some (some (.agg #[.int .i64 0, .int .i64 0, .int .i64 0, .slice none 0 0, .slice none 0 0, .slice none 0 0, .slice none 0 0]), 7, 120) := by kernel_rfl
theorem rowG_ge {w W : World} {v : Value} {l : List G} (h : RowG w W v l) {k : Nat} (e : v.ownBlock = some k) : w.heap.size ≤ k := by
  rcases h.1.2 with ⟨rfl, _⟩ | ⟨g, cap, cur, rfl, hg, _⟩
  · simp [Value.ownBlock] at e
  · simp [Value.ownBlock] at e; omega
/-- What stands in a row, behind a row that a call has made. -/
theorem append_G {w W : World} {v : Value} {a : Option Addr} {c : Nat} {l1 l2 : List G} (h1 : RowG w W v l1) (h2 : RdG W a l2) (hl1 : l1.length ≤ 100000) (hl2 : l2.length ≤ 100000) (ty : TypeId) (X : List G) (hX : l1 ++ l2 = X) :
    ∃ a' c' w', (Builtin.append_ #[29, 29] ty #[v, .slice a l2.length c]).run Try.prog W = .ok (.slice a' X.length c') w' ∧ RowG w w' (.slice a' X.length c') X := by
  obtain ⟨i0, hi0, hz0, hz1, hz2⟩ := info_parts infoG
  have fin : ∀ v' w', RowG w w' v' X → (Builtin.append_ #[29, 29] ty #[v, .slice a l2.length c]).run Try.prog W = .ok v' w' → ∃ a' c' w', (Builtin.append_ #[29, 29] ty #[v, .slice a l2.length c]).run Try.prog W = .ok (.slice a' X.length c') w' ∧ RowG w w' (.slice a' X.length c') X := fun v' w' h hr => by
    obtain ⟨a', c', rfl, _⟩ := h.rd
    exact ⟨a', c', w', hr, h⟩
  cases a with
  | none =>
    have hd : l2 = [] := Classical.byContradiction fun g => by
      obtain ⟨b, off, e, _⟩ := h2 g
      cases e
    subst hd
    rw [List.append_nil] at hX
    subst hX
    have hr := run_append_owned_none (P := Try.prog) W w.heap.size 29 ty 65 i0 7 Try.underlying29 hi0 v l1.length (flatG l1) h1.1
    exact fin _ _ h1 (by first | exact hr | (have := hr; simpa using this))
  | some ad =>
    obtain ⟨v', w', hr, h3, h4, h5, h6⟩ := run_append_own_at (P := Try.prog) W w.heap.size 29 ty 65 i0 _ 7 120 Try.underlying29 hi0 hz0 hz1 hz2 rfl (by decide) v l1.length (flatG l1) h1.1 ad l2.length c (flatG l2) (flatG_len l2) (fun j u hj => by
      have hj' : j < l2.length * 7 := by have := (List.getElem?_eq_some_iff.1 hj).1; rwa [flatG_len] at this
      obtain ⟨b, off, e, _⟩ := h2 (by intro e; simp [e] at hj')
      simp at e
      subst e
      rw [Addr.add_lit]
      exact h2.flat j u hj) (flatG_one _) (by unfold maxLen; omega) (by omega) h1.2.size
    refine fin v' w' ⟨?_, h1.2.grown h4 h1.2.size (fun k e => rowG_ge h1 e)⟩ hr
    rw [← hX, flatG_append, List.length_append]
    exact h3
theorem wpList_append_G (W : World) {ops : Array Oper} {rest : List Oper} {o : Oper} {a : Act} {Q : Exit → Act → World → Prop} (hgd : o.guard = none) (s x : Operand)
    (ho : o.op = .call { callee := .builtin .append, args := #[s, x], argTypes := #[29, 29] })
    (w : World) (v : Value) (ad : Option Addr) (c : Nat) (l1 l2 : List G) (hs : a.eval s = v) (hx : a.eval x = .slice ad l2.length c) (h1 : RowG w W v l1) (h2 : RdG W ad l2) (hl1 : l1.length ≤ 100000) (hl2 : l2.length ≤ 100000) (X : List G) (hX : l1 ++ l2 = X)
    (h : ∀ a' c' w', RowG w w' (.slice a' X.length c') X → wpList Try.prog ops Q rest (a.put o.dst (.slice a' X.length c')) w') :
    wpList Try.prog ops Q (o :: rest) a W := by
  refine wpList_plain hgd fun K hK => ?_
  obtain ⟨a', c', w', hr, h3⟩ := append_G (c := c) h1 h2 hl1 hl2 o.type X hX
  unfold Oper.wp execOp
  simp only [ho, resolve, invoke, builtin, Sem.run_bind, Sem.run_pure, Result.andThen_ok, List.map_toArray, List.map_cons, List.map_nil, hs, hx, hr]
  exact hK _ _ (h a' c' w' h3)
end Go.Proofs.Ytkodjioofkdepaa
/- Proved: to whom what goes, as plain data. -/
namespace Go.Proofs.Ytkodjioofkdepaa
open Go.RowKit Go.Shelf
set_option linter.unusedVariables false

/-- Does a federate hear a class? -/
def hrs (d : Wd) (c : Int) (f : Fd) : Bool := f.ss.any (fun x => decide (x ∈ abv d.ps c))
/-- Who hears what f sends, of the first n. -/
def rtsF (d : Wd) (f c : Int) (n : Nat) : List Int := ((List.range n).filter (fun i : Nat => decide (Int.ofNat i ≠ f) && hrs d c (nthF d.fs i))).map Int.ofNat
def rts (d : Wd) (f c : Int) : List Int := rtsF d f c d.fs.length
theorem rtsF_succ (d : Wd) (f c : Int) (n : Nat) : rtsF d f c (n + 1) = rtsF d f c n ++ (if (decide ((n : Int) ≠ f) && hrs d c (nthF d.fs n)) = true then [(n : Int)] else []) := by
  unfold rtsF
  rw [List.range_succ, List.filter_append, List.map_append]
  congr 1
  by_cases e : (decide ((n : Int) ≠ f) && hrs d c (nthF d.fs n)) = true
  · rw [if_pos e]
    have e' : (decide (Int.ofNat n ≠ f) && hrs d c (nthF d.fs n)) = true := e
    simp only [List.filter, e']
    rfl
  · rw [if_neg e]
    have e' : (decide (Int.ofNat n ≠ f) && hrs d c (nthF d.fs n)) = false := by simpa using e
    simp only [List.filter, e']
    rfl
theorem rtsF_yes {d : Wd} {f c : Int} {n : Nat} (h1 : (n : Int) ≠ f) (h2 : hrs d c (nthF d.fs n) = true) : rtsF d f c (n + 1) = rtsF d f c n ++ [(n : Int)] := by
  rw [rtsF_succ, decide_eq_true h1, h2]; rfl
theorem rtsF_own {d : Wd} {f c : Int} {n : Nat} (h1 : (n : Int) = f) : rtsF d f c (n + 1) = rtsF d f c n := by
  rw [rtsF_succ, decide_eq_false (p := (n : Int) ≠ f) (fun g => g h1)]; simp
theorem rtsF_not {d : Wd} {f c : Int} {n : Nat} (h2 : hrs d c (nthF d.fs n) = false) : rtsF d f c (n + 1) = rtsF d f c n := by
  rw [rtsF_succ, h2]; simp
theorem rtsF_len (d : Wd) (f c : Int) (n : Nat) : (rtsF d f c n).length ≤ n := by
  unfold rtsF
  rw [List.length_map]
  exact Nat.le_trans (List.length_filter_le _ _) (by simp)
theorem mem_rts {d : Wd} {f c t : Int} : t ∈ rts d f c ↔ ∃ i : Nat, i < d.fs.length ∧ t = (i : Int) ∧ t ≠ f ∧ hrs d c (nthF d.fs i) = true := by
  unfold rts rtsF
  simp only [List.mem_map, List.mem_filter, List.mem_range, Bool.and_eq_true, decide_eq_true_eq]
  constructor
  · rintro ⟨i, ⟨h1, h2, h3⟩, rfl⟩; exact ⟨i, h1, rfl, h2, h3⟩
  · rintro ⟨i, h1, rfl, h2, h3⟩; exact ⟨i, ⟨h1, h2, h3⟩, rfl⟩
theorem rts_nodup (d : Wd) (f c : Int) : (rts d f c).Nodup := by
  unfold rts rtsF
  refine List.Pairwise.map _ (fun a b h => ?_) (List.Pairwise.filter _ List.nodup_range)
  intro e
  exact h (Int.ofNat.inj e)
/-- The message of a send. -/
def sentM (f q n b : Int) (o : O) : M := ⟨vadd n o.2.1, f, q, -1, o.1, (b + o.2.2) % 1000⟩
def toM (m : M) (t : Int) : M := ⟨m.t, m.fr, m.sq, t, m.cl, m.bd⟩
/-- What the i-th send comes to. -/
def oneM (d : Wd) (f q n b : Int) (os : List O) (i : Nat) : List M := (rts d f (nthO os i).1).map (toM (sentM f (q + (i : Int)) n b (nthO os i)))
def sprF (d : Wd) (f q n b : Int) (os : List O) (k : Nat) : List M := (List.range k).flatMap (oneM d f q n b os)
def spr (d : Wd) (f q n b : Int) (os : List O) : List M := sprF d f q n b os os.length
theorem sprF_succ (d : Wd) (f q n b : Int) (os : List O) (k : Nat) : sprF d f q n b os (k + 1) = sprF d f q n b os k ++ oneM d f q n b os k := by
  unfold sprF
  rw [List.range_succ]
  simp
theorem oneM_len (d : Wd) (f q n b : Int) (os : List O) (i : Nat) : (oneM d f q n b os i).length ≤ d.fs.length := by
  unfold oneM
  rw [List.length_map]
  exact rtsF_len d f _ _
theorem sprF_len {d : Wd} {m : Nat} (hm : d.fs.length ≤ m) (f q n b : Int) (os : List O) (k : Nat) : (sprF d f q n b os k).length ≤ k * m := by
  induction k with
  | zero => simp [sprF]
  | succ k ih =>
    rw [sprF_succ, List.length_append]
    have := oneM_len d f q n b os k
    rw [Nat.add_mul]
    omega
def stsF (d : Wd) (k : Nat) : List M := (List.range k).flatMap (fun i : Nat => spr d (i : Int) 0 0 0 (nthF d.fs i).is)
def sts (d : Wd) : List M := stsF d d.fs.length
theorem stsF_succ (d : Wd) (k : Nat) : stsF d (k + 1) = stsF d k ++ spr d (k : Int) 0 0 0 (nthF d.fs k).is := by
  unfold stsF
  rw [List.range_succ]
  simp
theorem stsF_len {d : Wd} (hm : d.fs.length ≤ 20) (hl : ∀ f ∈ d.fs, LtF f) (k : Nat) (hk : k ≤ d.fs.length) : (stsF d k).length ≤ k * 400 := by
  induction k with
  | zero => simp [stsF]
  | succ k ih =>
    rw [stsF_succ, List.length_append]
    have h1 := ih (by omega)
    have h2 : (spr d (k : Int) 0 0 0 (nthF d.fs k).is).length ≤ (nthF d.fs k).is.length * 20 := sprF_len hm _ _ _ _ _ _
    have h3 := (hl _ (nthF_mem (i := k) (by omega))).i
    omega
end Go.Proofs.Ytkodjioofkdepaa
