/- Proved: rows of things of some cells each: how they lie in memory, what stays of them, what is put behind them. -/
import Derived.Test.YtmciameckbbgaaaBas
namespace Go.Proofs.Ytmciameckbbgaaa
open Go.RowKit Go.Shelf
set_option linter.unusedVariables false

/-- How a thing is told in cells. -/
structure Cd (α : Type) where
  enc : α → List Value
  sz : Nat
  z : α
  len : ∀ x, (enc x).length = sz
  one : ∀ x, ∀ v ∈ enc x, v.oneCell' = true
  pos : 0 < sz
def nth {α : Type} (C : Cd α) (l : List α) (i : Nat) : α := l.getD i C.z
def flat {α : Type} (C : Cd α) (l : List α) : List Value := l.flatMap C.enc
theorem nth_get {α : Type} {C : Cd α} {l : List α} {i : Nat} (h : i < l.length) : nth C l i = l[i] := by simp [nth, h]
theorem nth_mem {α : Type} {C : Cd α} {l : List α} {i : Nat} (h : i < l.length) : nth C l i ∈ l := by rw [nth_get h]; exact List.getElem_mem _
theorem mem_nth {α : Type} (C : Cd α) {l : List α} {x : α} (h : x ∈ l) : ∃ i, i < l.length ∧ nth C l i = x := by
  obtain ⟨i, hi, rfl⟩ := List.mem_iff_getElem.1 h
  exact ⟨i, hi, nth_get hi⟩
theorem nth_left {α : Type} {C : Cd α} {a b : List α} {i : Nat} (h : i < a.length) : nth C (a ++ b) i = nth C a i := by simp [nth, List.getElem?_append_left, h]
theorem nth_right {α : Type} {C : Cd α} {a b : List α} {i : Nat} : nth C (a ++ b) (a.length + i) = nth C b i := by simp [nth, List.getElem?_append_right]
theorem nth_map {α β : Type} {C : Cd α} {D : Cd β} (f : α → β) {l : List α} {i : Nat} (h : i < l.length) : nth D (l.map f) i = f (nth C l i) := by
  rw [nth_get h, nth_get (by simpa using h)]; simp
theorem nth_drop {α : Type} {C : Cd α} {l : List α} {i j : Nat} : nth C (l.drop i) j = nth C l (i + j) := by simp [nth]
theorem nth_take {α : Type} {C : Cd α} {l : List α} {i j : Nat} (h : j < i) : nth C (l.take i) j = nth C l j := by simp [nth, h]
theorem flat_len {α : Type} (C : Cd α) (l : List α) : (flat C l).length = l.length * C.sz := by
  induction l with
  | nil => simp [flat]
  | cons x r ih => simp only [flat, List.flatMap_cons, List.length_append, C.len, List.length_cons, Nat.add_mul] at *; omega
theorem flat_append {α : Type} (C : Cd α) (a b : List α) : flat C (a ++ b) = flat C a ++ flat C b := by simp [flat]
theorem flat_get {α : Type} (C : Cd α) (l : List α) (i c : Nat) (hi : i < l.length) (hc : c < C.sz) : (flat C l)[i * C.sz + c]? = (C.enc (nth C l i))[c]? := by
  induction l generalizing i with
  | nil => simp at hi
  | cons x r ih =>
    rw [show flat C (x :: r) = C.enc x ++ flat C r by simp [flat]]
    cases i with
    | zero => rw [List.getElem?_append_left (by rw [C.len]; omega)]; simp [nth]
    | succ j =>
      rw [List.getElem?_append_right (by rw [C.len, Nat.add_mul]; omega), C.len, show (j + 1) * C.sz + c - C.sz = j * C.sz + c by rw [Nat.add_mul]; omega, ih j (by simpa using hi)]
      simp [nth]
theorem flat_one {α : Type} (C : Cd α) (l : List α) : ∀ v ∈ flat C l, v.oneCell' = true := by
  intro v hv
  obtain ⟨m, _, h⟩ := List.mem_flatMap.1 hv
  exact C.one m v h
theorem flat_take {α : Type} (C : Cd α) (l : List α) (n : Nat) : flat C (l.take n) = (flat C l).take (n * C.sz) := by
  by_cases h : n ≤ l.length
  · have e : flat C l = flat C (l.take n) ++ flat C (l.drop n) := by rw [← flat_append, List.take_append_drop]
    have h2 : (flat C (l.take n)).length = n * C.sz := by rw [flat_len, List.length_take]; congr 1; omega
    rw [e, ← h2, List.take_left]
  · rw [List.take_of_length_le (by omega), List.take_of_length_le (by rw [flat_len]; exact Nat.mul_le_mul_right _ (by omega))]
theorem flat_drop {α : Type} (C : Cd α) (l : List α) (n : Nat) : flat C (l.drop n) = (flat C l).drop (n * C.sz) := by
  by_cases h : n ≤ l.length
  · have e : flat C l = flat C (l.take n) ++ flat C (l.drop n) := by rw [← flat_append, List.take_append_drop]
    have h2 : (flat C (l.take n)).length = n * C.sz := by rw [flat_len, List.length_take]; congr 1; omega
    rw [e, ← h2, List.drop_left]
  · rw [List.drop_of_length_le (by omega), List.drop_of_length_le (by rw [flat_len]; exact Nat.mul_le_mul_right _ (by omega))]; rfl
theorem flat_div {j n k : Nat} (h : j < n * k) (hk : 0 < k) : j / k < n ∧ j % k < k ∧ j / k * k + j % k = j :=
  ⟨Nat.div_lt_of_lt_mul (by rw [Nat.mul_comm]; exact h), Nat.mod_lt _ hk, by rw [Nat.mul_comm]; exact Nat.div_add_mod _ _⟩

/-- A slice at a that tells l, in a block of N. -/
def RdN {α : Type} (C : Cd α) (N : Nat → Prop) (W : World) (a : Option Addr) (l : List α) : Prop :=
  l ≠ [] → ∃ b off, a = some ⟨b, off, none⟩ ∧ b < W.heap.size ∧ N b ∧ ∀ i, i < l.length → ∀ c, c < C.sz → W.cell? ⟨b, off + i * C.sz + c, none⟩ = (C.enc (nth C l i))[c]?
theorem RdN.keep {α : Type} {C : Cd α} {N N' S : Nat → Prop} {W W' : World} {a : Option Addr} {l : List α} (h : RdN C N W a l) (hf : Fr S W W') (hN : ∀ k, k < W.heap.size → N k → ¬ S k ∧ N' k) : RdN C N' W' a l := fun g => by
  obtain ⟨b, off, rfl, hB, hb, hc⟩ := h g
  exact ⟨b, off, rfl, Nat.lt_of_lt_of_le hB hf.size, (hN b hB hb).2, fun i hi c hc3 => (hf.cell (p := ⟨b, off + i * C.sz + c, none⟩) hB (hN b hB hb).1).trans (hc i hi c hc3)⟩
theorem RdN.below {α : Type} {C : Cd α} {N : Nat → Prop} {W W' : World} {a : Option Addr} {l : List α} (h : RdN C N W a l) (hb : Below W.heap.size W W') : RdN C N W' a l :=
  h.keep (Fr.of_below (S := fun _ => False) hb) (fun _ _ g => ⟨fun e => e, g⟩)
theorem RdN.wide {α : Type} {C : Cd α} {N N' : Nat → Prop} {W : World} {a : Option Addr} {l : List α} (h : RdN C N W a l) (hN : ∀ k, k < W.heap.size → N k → N' k) : RdN C N' W a l :=
  h.keep (Fr.refl (fun _ => False) W) (fun k hk g => ⟨fun e => e, hN k hk g⟩)
theorem RdN.nil {α : Type} (C : Cd α) (N : Nat → Prop) (W : World) (a : Option Addr) : RdN C N W a [] := fun g => absurd rfl g
theorem RdN.flat {α : Type} {C : Cd α} {N : Nat → Prop} {W : World} {b off : Nat} {l : List α} (h : RdN C N W (some ⟨b, off, none⟩) l) : ∀ j u, (flat C l)[j]? = some u → W.cell? ⟨b, off + j, none⟩ = some u := fun j u hj => by
  have hj' : j < l.length * C.sz := by have := (List.getElem?_eq_some_iff.1 hj).1; rwa [flat_len] at this
  have hl : l ≠ [] := by intro e; simp [e] at hj'
  obtain ⟨b', off', e, hB, _, hc⟩ := h hl
  simp at e
  obtain ⟨rfl, rfl⟩ := e
  obtain ⟨hq, hr, e2⟩ := flat_div hj' C.pos
  have h1 := hc (j / C.sz) hq (j % C.sz) hr
  rw [← flat_get C l _ _ hq hr, Nat.add_assoc, e2] at h1
  rw [h1, hj]
theorem RdN.of_flat {α : Type} {C : Cd α} {N : Nat → Prop} {W : World} {b off : Nat} {l : List α} (hb : b < W.heap.size) (hN : N b) (h : ∀ j u, (Ytmciameckbbgaaa.flat C l)[j]? = some u → W.cell? ⟨b, off + j, none⟩ = some u) : RdN C N W (some ⟨b, off, none⟩) l := fun _ =>
  ⟨b, off, rfl, hb, hN, fun i hi c hc => by
    have hlt : c < (C.enc (nth C l i)).length := by rw [C.len]; exact hc
    have e := flat_get C l i c hi hc
    rw [List.getElem?_eq_getElem hlt] at e ⊢
    rw [Nat.add_assoc]
    exact h _ _ e⟩
/-- A part of it. -/
theorem RdN.part {α : Type} {C : Cd α} {N : Nat → Prop} {W : World} {b off : Nat} {l : List α} (h : RdN C N W (some ⟨b, off, none⟩) l) (i n : Nat) : RdN C N W (some ⟨b, off + i * C.sz, none⟩) ((l.drop i).take n) := fun g => by
  obtain ⟨b', off', e, hB, hb, hc⟩ := h (by intro e; apply g; rw [e]; simp)
  simp at e
  obtain ⟨rfl, rfl⟩ := e
  refine ⟨b, _, rfl, hB, hb, fun j hj c hc3 => ?_⟩
  rw [List.length_take, List.length_drop] at hj
  rw [nth_take (by omega), nth_drop, ← hc (i + j) (by omega) c hc3]
  congr 2
  rw [Nat.add_mul]; omega
/-- A thing in a new block. -/
theorem RdN.new {α : Type} (C : Cd α) (W : World) (x : α) (e : TypeId) (cs : Array Value) (hcs : cs = (C.enc x).toArray) {N : Nat → Prop} (hN : N W.heap.size) : RdN C N (W.alloc (.cells cs e)) (some ⟨W.heap.size, 0, none⟩) [x] := fun _ => by
  refine ⟨W.heap.size, 0, rfl, by simp, hN, fun i hi c hc => ?_⟩
  obtain rfl : i = 0 := by simpa using hi
  subst hcs
  simp only [World.cell?, heap_alloc_new, nth]
  simp

theorem RdN.newAt {α : Type} (C : Cd α) (W : World) (x : α) (e : TypeId) (cs : Array Value) (b : Nat) (hb : W.heap.size = b) (hcs : cs = (C.enc x).toArray) {N : Nat → Prop} (hN : N b) : RdN C N (W.alloc (.cells cs e)) (some ⟨b, 0, none⟩) [x] := by
  subst hb
  exact RdN.new C W x e cs hcs hN
/-- v is a slice of l, in a row that none other has. -/
def OwR {α : Type} (C : Cd α) (e : TypeId) (W : World) (v : Value) (l : List α) : Prop := W.ownsRow 0 e C.sz v l.length (Ytmciameckbbgaaa.flat C l)
theorem OwR.nil {α : Type} (C : Cd α) (e : TypeId) (W : World) : OwR C e W (.slice none 0 0) [] := World.ownsRow_nil _ _ _ _
theorem OwR.made {α : Type} (C : Cd α) (e : TypeId) (W : World) : OwR C e (W.alloc (.cells #[] e)) (.slice (some ⟨W.heap.size, 0, none⟩) 0 0) [] := World.ownsRow_made W #[] 0 (Nat.zero_le _) (Nat.zero_le _) (by simp)
theorem OwR.keep {α : Type} {C : Cd α} {e : TypeId} {S : Nat → Prop} {W W' : World} {v : Value} {l : List α} (h : OwR C e W v l) (hf : Fr S W W') (hd : ∀ g, v.ownBlock = some g → ¬ S g) : OwR C e W' v l := by
  refine ⟨h.1, ?_⟩
  rcases h.2 with hn | ⟨g, cap, cur, rfl, hb2, hgg, rest⟩
  · exact .inl hn
  · exact .inr ⟨g, cap, cur, rfl, hb2, (hf.block g (Array.getElem?_eq_some_iff.1 hgg).1 (hd g rfl)).trans hgg, rest⟩
theorem OwR.below {α : Type} {C : Cd α} {e : TypeId} {W W' : World} {v : Value} {l : List α} (h : OwR C e W v l) (hb : Below W.heap.size W W') : OwR C e W' v l := h.keep (Fr.of_below (S := fun _ => False) hb) (fun _ _ e => e)
theorem OwR.lt {α : Type} {C : Cd α} {e : TypeId} {W : World} {v : Value} {l : List α} (h : OwR C e W v l) {g : Nat} (hg : v.ownBlock = some g) : g < W.heap.size := by
  rcases h.2 with ⟨rfl, hn⟩ | ⟨g', cap, cur, rfl, _, hh, _⟩
  · simp [Value.ownBlock] at hg
  · simp [Value.ownBlock] at hg
    subst hg
    exact (Array.getElem?_eq_some_iff.1 hh).1
theorem OwR.rd {α : Type} {C : Cd α} {e : TypeId} {W : World} {v : Value} {l : List α} (h : OwR C e W v l) {N : Nat → Prop} (hN : ∀ g, v.ownBlock = some g → N g) : ∃ a c, v = .slice a l.length c ∧ RdN C N W a l := by
  have h0 := h
  rcases h.2 with ⟨rfl, hn⟩ | ⟨g, cap, cur, rfl, _, hg, _⟩
  · exact ⟨none, 0, by rw [hn], fun hl => absurd (List.length_eq_zero_iff.1 hn) hl⟩
  · refine ⟨_, cap, rfl, fun _ => ⟨g, 0, rfl, (Array.getElem?_eq_some_iff.1 hg).1, hN g rfl, fun i hi c hc => ?_⟩⟩
    rw [Nat.zero_add, World.ownsRow.cellAt h0 _ (by have := Nat.mul_le_mul_right C.sz (show i + 1 ≤ l.length from hi); rw [Nat.add_mul] at this; omega), flat_get C l i c hi hc]
theorem OwR.look {α : Type} {C : Cd α} {e : TypeId} {W : World} {a : Option Addr} {n c : Nat} {l : List α} (h : OwR C e W (.slice a n c) l) : n = l.length ∧ RdN C (fun k => (Value.slice a n c).ownBlock = some k) W a l := by
  obtain ⟨a', c', e, hr⟩ := h.rd (N := fun k => (Value.slice a n c).ownBlock = some k) (fun g e => e)
  simp at e
  obtain ⟨rfl, rfl, rfl⟩ := e
  exact ⟨rfl, hr⟩
/-- A row seen as a block. -/
theorem OwR.block {α : Type} {C : Cd α} {e : TypeId} {W : World} {g n cap : Nat} {l : List α} (h : OwR C e W (.slice (some ⟨g, 0, none⟩) n cap) l) :
    n = l.length ∧ ∃ cur, W.heap[g]? = some (.cells cur e (0, 0)) ∧ l.length ≤ cap ∧ cap ≤ maxLen ∧ cur.size = cap * C.sz ∧ cur.toList.take (l.length * C.sz) = Ytmciameckbbgaaa.flat C l := by
  rcases h.2 with ⟨h0, _⟩ | ⟨g', cap', cur, hv, hb, hg, hnc, hcm, hcs, ht⟩
  · simp at h0
  · simp at hv
    obtain ⟨rfl, rfl, rfl⟩ := hv
    exact ⟨rfl, cur, hg, hnc, hcm, hcs, ht⟩
theorem own_of_block {α : Type} {C : Cd α} {e : TypeId} {W : World} {g cap : Nat} {l : List α} {cur : Array Value} (hg : W.heap[g]? = some (.cells cur e (0, 0))) (h1 : l.length ≤ cap) (h2 : cap ≤ maxLen) (h3 : cur.size = cap * C.sz) (h4 : cur.toList.take (l.length * C.sz) = Ytmciameckbbgaaa.flat C l) :
    OwR C e W (.slice (some ⟨g, 0, none⟩) l.length cap) l := ⟨flat_len C l, .inr ⟨g, cap, cur, rfl, Nat.zero_le _, hg, h1, h2, h3, h4⟩⟩
/-- What is told of a type of things, ahead of an append. -/
structure Ty {α : Type} (C : Cd α) (t e : TypeId) where
  zv : Value
  by' : Nat
  hu : Try.prog.underlying t = some (.slice e)
  hi : (Try.prog.info? e).map (fun i => (i.zero, i.size, i.bytes)) = some (some zv, C.sz, by')
  hz : zv.cells.size = C.sz
  hb : by' ≤ 1000
/-- What stands in a slice, put behind a row. -/
theorem append_R {α : Type} {C : Cd α} {t e : TypeId} (T : Ty C t e) {N : Nat → Prop} {W : World} {v : Value} {a : Option Addr} {c : Nat} {l1 l2 : List α} (h1 : OwR C e W v l1) (h2 : RdN C N W a l2) (hl1 : l1.length ≤ 100000) (hl2 : l2.length ≤ 100000) (ty : TypeId) (X : List α) (hX : l1 ++ l2 = X) :
    ∃ a' c' w', (Builtin.append_ #[t, t] ty #[v, .slice a l2.length c]).run Try.prog W = .ok (.slice a' X.length c') w' ∧ OwR C e w' (.slice a' X.length c') X ∧ Mw (fun k => v.ownBlock = some k) (fun k => (Value.slice a' X.length c').ownBlock = some k) W w' := by
  obtain ⟨i0, hi0, hz0, hz1, hz2⟩ := info_parts T.hi
  have fin : ∀ v' w', OwR C e w' v' X → Mw (fun k => v.ownBlock = some k) (fun k => v'.ownBlock = some k) W w' → (Builtin.append_ #[t, t] ty #[v, .slice a l2.length c]).run Try.prog W = .ok v' w' → ∃ a' c' w', (Builtin.append_ #[t, t] ty #[v, .slice a l2.length c]).run Try.prog W = .ok (.slice a' X.length c') w' ∧ OwR C e w' (.slice a' X.length c') X ∧ Mw (fun k => v.ownBlock = some k) (fun k => (Value.slice a' X.length c').ownBlock = some k) W w' := fun v' w' h hm hr => by
    obtain ⟨a', c', rfl, _⟩ := h.rd (N := fun _ => True) (fun _ _ => trivial)
    exact ⟨a', c', w', hr, h, hm⟩
  cases a with
  | none =>
    have hd : l2 = [] := Classical.byContradiction fun g => by
      obtain ⟨b, off, e, _⟩ := h2 g
      cases e
    subst hd
    rw [List.append_nil] at hX
    subst hX
    have hr := run_append_owned_none (P := Try.prog) W 0 t ty e i0 C.sz T.hu hi0 v l1.length (Ytmciameckbbgaaa.flat C l1) h1
    exact fin _ _ h1 (Mw.refl _ _) (by first | exact hr | (have := hr; simpa using this))
  | some ad =>
    obtain ⟨v', w', hr, h3, h4, h5, h6⟩ := run_append_own_at (P := Try.prog) W 0 t ty e i0 _ C.sz T.by' T.hu hi0 hz0 hz1 hz2 T.hz C.pos v l1.length (Ytmciameckbbgaaa.flat C l1) h1 ad l2.length c (Ytmciameckbbgaaa.flat C l2) (flat_len C l2) (fun j u hj => by
      have hj' : j < l2.length * C.sz := by have := (List.getElem?_eq_some_iff.1 hj).1; rwa [flat_len] at this
      obtain ⟨b, off, e, _⟩ := h2 (by intro e; simp [e] at hj')
      simp at e
      subst e
      rw [Addr.add_lit]
      exact h2.flat j u hj) (flat_one C _) (by unfold maxLen; omega) (by
        have h8 := T.hb
        have : (l1.length + l2.length) * T.by' ≤ 200000 * 1000 := Nat.mul_le_mul (by omega) h8
        omega) (Nat.zero_le _)
    refine fin v' w' ?_ ⟨Fr.of_grown h4, fun k hk hk2 => ?_⟩ hr
    · unfold OwR
      rw [← hX, flat_append, List.length_append]
      exact h3
    · rcases h6 with g | g
      · rw [← g]; exact hk2
      · rw [g] at hk2
        simp at hk2
        omega
theorem wpList_append_R {α : Type} {C : Cd α} {t e : TypeId} (T : Ty C t e) (N : Nat → Prop) (W : World) {ops : Array Oper} {rest : List Oper} {o : Oper} {a : Act} {Q : Exit → Act → World → Prop} (hgd : o.guard = none) (s x : Operand)
    (ho : o.op = .call { callee := .builtin .append, args := #[s, x], argTypes := #[t, t] })
    (v : Value) (ad : Option Addr) (c : Nat) (l1 l2 : List α) (hs : a.eval s = v) (hx : a.eval x = .slice ad l2.length c) (h1 : OwR C e W v l1) (h2 : RdN C N W ad l2) (hl1 : l1.length ≤ 100000) (hl2 : l2.length ≤ 100000) (X : List α) (hX : l1 ++ l2 = X)
    (h : ∀ a' c' w', OwR C e w' (.slice a' X.length c') X → Mw (fun k => v.ownBlock = some k) (fun k => (Value.slice a' X.length c').ownBlock = some k) W w' → wpList Try.prog ops Q rest (a.put o.dst (.slice a' X.length c')) w') :
    wpList Try.prog ops Q (o :: rest) a W := by
  refine wpList_plain hgd fun K hK => ?_
  obtain ⟨a', c', w', hr, h3, h4⟩ := append_R (c := c) T h1 h2 hl1 hl2 o.type X hX
  unfold Oper.wp execOp
  simp only [ho, resolve, invoke, builtin, Sem.run_bind, Sem.run_pure, Result.andThen_ok, List.map_toArray, List.map_cons, List.map_nil, hs, hx, hr]
  exact hK _ _ (h a' c' w' h3 h4)
theorem wpList_append_run {P : Program} (W : World) {ops : Array Oper} {rest : List Oper} {o : Oper} {a : Act} {Q : Exit → Act → World → Prop} (hgd : o.guard = none) (s x : Operand) (t : TypeId)
    (ho : o.op = .call { callee := .builtin .append, args := #[s, x], argTypes := #[t, t] })
    {v1 v2 v' : Value} {w' : World} (hs : a.eval s = v1) (hx : a.eval x = v2) (hrun : (Builtin.append_ #[t, t] o.type #[v1, v2]).run P W = .ok v' w')
    (h : wpList P ops Q rest (a.put o.dst v') w') : wpList P ops Q (o :: rest) a W := by
  refine wpList_plain hgd fun K hK => ?_
  unfold Oper.wp execOp
  simp only [ho, resolve, invoke, builtin, Sem.run_bind, Sem.run_pure, Result.andThen_ok, List.map_toArray, List.map_cons, List.map_nil, hs, hx, hrun]
  exact hK _ _ h
theorem step_append_run {P : Program} {ops : Array Oper} {o : Oper} {a : Act} {w : World} {K : Act → World → Prop} {Q : Exit → Act → World → Prop} {E : Prop}
    (hg : o.guard = none) (s x : Operand) (t : TypeId) (hop : o.op = Op.call { callee := Callee.builtin Builtin.append, args := #[s, x], argTypes := #[t, t] })
    {v1 v2 v' : Value} {w' : World} (hs : a.eval s = v1) (hx : a.eval x = v2) (hrun : (Builtin.append_ #[t, t] o.type #[v1, v2]).run P w = .ok v' w')
    (hK : K (a.put o.dst v') w') :
    if Region.wanted o (yielded ops a.tmps) = true then Oper.wp P o a w K Q else E := by
  have hw : Region.wanted o (yielded ops a.tmps) = true := by simp [Region.wanted, hg]
  rw [if_pos hw]
  unfold Oper.wp
  simp [execOp, hop, resolve, invoke, builtin, hs, hx, hrun, Result.andThen]
  exact hK
end Go.Proofs.Ytmciameckbbgaaa
