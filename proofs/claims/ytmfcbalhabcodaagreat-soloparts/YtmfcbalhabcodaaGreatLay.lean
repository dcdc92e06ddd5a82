/- Proved: how a run lies in memory; what stays of it while its pile and its federates are written. -/
import Derived.Test.YtmfcbalhabcodaaGreatHnd
import Derived.Test.YtmfcbalhabcodaaGreatKe0
namespace Go.Proofs.YtmfcbalhabcodaaGreat
open Go.RowKit Go.Shelf
set_option linter.unusedVariables false

/-! ### Rows of what is done -/
abbrev dv (x : Dn) : Value := .agg #[.int .i64 x.m.t, .int .i64 x.m.fr, .int .i64 x.m.sq, .int .i64 x.m.dst, .int .i64 x.m.cl, .int .i64 x.m.bd, .int .i64 x.s]
abbrev dcs (x : Dn) : Array Value := #[.int .i64 x.m.t, .int .i64 x.m.fr, .int .i64 x.m.sq, .int .i64 x.m.dst, .int .i64 x.m.cl, .int .i64 x.m.bd, .int .i64 x.s]
def encD (x : Dn) : List Value := [.int .i64 x.m.t, .int .i64 x.m.fr, .int .i64 x.m.sq, .int .i64 x.m.dst, .int .i64 x.m.cl, .int .i64 x.m.bd, .int .i64 x.s]
theorem encD_len (x : Dn) : (encD x).length = 7 := rfl
theorem encD_one (x : Dn) : ∀ v ∈ encD x, v.oneCell' = true := by
  intro v hv
  simp [encD] at hv
  rcases hv with rfl | rfl | rfl | rfl | rfl | rfl | rfl <;> rfl
def flatD (l : List Dn) : List Value := l.flatMap encD
theorem flatD_len (l : List Dn) : (flatD l).length = l.length * 7 := by
  induction l with
  | nil => rfl
  | cons x r ih => simp only [flatD, List.flatMap_cons, List.length_append, encD_len, List.length_cons] at *; omega
theorem flatD_append (a b : List Dn) : flatD (a ++ b) = flatD a ++ flatD b := by simp [flatD]
theorem flatD_get (l : List Dn) (i c : Nat) (hi : i < l.length) (hc : c < 7) : (flatD l)[i * 7 + c]? = (encD (nthD l i))[c]? := by
  induction l generalizing i with
  | nil => simp at hi
  | cons x r ih =>
    rw [show flatD (x :: r) = encD x ++ flatD r by simp [flatD]]
    cases i with
    | zero => rw [List.getElem?_append_left (by rw [encD_len]; omega)]; simp [nthD]
    | succ j =>
      rw [List.getElem?_append_right (by rw [encD_len]; omega), encD_len, show (j + 1) * 7 + c - 7 = j * 7 + c by omega, ih j (by simpa using hi)]
      simp [nthD]
theorem flatD_one (l : List Dn) : ∀ v ∈ flatD l, v.oneCell' = true := by
  intro v hv
  obtain ⟨m, _, h⟩ := List.mem_flatMap.1 hv
  exact encD_one m v h
def RdD (w : World) (a : Option Addr) (l : List Dn) : Prop :=
  l ≠ [] → ∃ b off, a = some ⟨b, off, none⟩ ∧ b < w.heap.size ∧ ∀ i, i < l.length → ∀ c, c < 7 → w.cell? ⟨b, off + i * 7 + c, none⟩ = (encD (nthD l i))[c]?
theorem RdD.below {w w' : World} {a : Option Addr} {l : List Dn} (h : RdD w a l) (hb : Below w.heap.size w w') : RdD w' a l := fun g => by
  obtain ⟨b, off, rfl, hB, hc⟩ := h g
  exact ⟨b, off, rfl, Nat.lt_of_lt_of_le hB hb.size, fun i hi c hc3 => (hb.cell (p := ⟨b, off + i * 7 + c, none⟩) hB).trans (hc i hi c hc3)⟩
theorem RdD.cells {w : World} {a : Option Addr} {l : List Dn} (h : RdD w a l) {i : Nat} (hi : i < l.length) {x : Dn} (hx : nthD l i = x) :
    ∃ b off, a = some ⟨b, off, none⟩ ∧ b < w.heap.size ∧ w.cell? ⟨b, off + i * 7, none⟩ = some (.int .i64 x.m.t) ∧ w.cell? ⟨b, off + i * 7 + 1, none⟩ = some (.int .i64 x.m.fr) ∧ w.cell? ⟨b, off + i * 7 + 2, none⟩ = some (.int .i64 x.m.sq) ∧ w.cell? ⟨b, off + i * 7 + 3, none⟩ = some (.int .i64 x.m.dst) ∧ w.cell? ⟨b, off + i * 7 + 4, none⟩ = some (.int .i64 x.m.cl) ∧ w.cell? ⟨b, off + i * 7 + 5, none⟩ = some (.int .i64 x.m.bd) ∧ w.cell? ⟨b, off + i * 7 + 6, none⟩ = some (.int .i64 x.s) := by
  obtain ⟨b, off, rfl, hB, hc⟩ := h (by intro e; simp [e] at hi)
  subst hx
  exact ⟨b, off, rfl, hB, hc i hi 0 (by omega), hc i hi 1 (by omega), hc i hi 2 (by omega), hc i hi 3 (by omega), hc i hi 4 (by omega), hc i hi 5 (by omega), hc i hi 6 (by omega)⟩
theorem rdD_row {w' : World} {b0 : Nat} {a' : Option Addr} {c' : Nat} {l : List Dn} (h : w'.ownsRow b0 40 7 (.slice a' l.length c') l.length (flatD l)) : RdD w' a' l := by
  have h0 := h
  rcases h.2 with ⟨e, hn⟩ | ⟨g, cap, cur, e, _, hg, _⟩
  · exact fun g => absurd (List.length_eq_zero_iff.1 hn) g
  · simp at e
    obtain ⟨rfl, rfl⟩ := e
    refine fun _ => ⟨g, 0, rfl, (Array.getElem?_eq_some_iff.1 hg).1, fun i hi c hc => ?_⟩
    rw [Nat.zero_add, World.ownsRow.cellAt h0 _ (by omega), flatD_get l i c hi hc]
theorem RdD.flat {w : World} {a : Option Addr} {l : List Dn} (h : RdD w a l) (hl : l.length ≠ 0) : ∃ b off, a = some ⟨b, off, none⟩ ∧ b < w.heap.size ∧ ∀ j u, (flatD l)[j]? = some u → w.cell? ⟨b, off + j, none⟩ = some u := by
  obtain ⟨b, off, e, hB, hc⟩ := h (fun e => hl (by simp [e]))
  refine ⟨b, off, e, hB, fun j u hj => ?_⟩
  have hj' : j < l.length * 7 := by have := (List.getElem?_eq_some_iff.1 hj).1; rwa [flatD_len] at this
  obtain ⟨h1, h2, h3⟩ := flat_div hj' (by omega)
  have h4 := hc (j / 7) h1 (j % 7) h2
  rw [← flatD_get l _ _ h1 h2, Nat.add_assoc, h3] at h4
  rw [h4, hj]

/-! ### Rows of federates -/
structure Fe where
  st : Int
  sq : Int
  la : Option Addr
  lc : Nat
  lg : List Dn
abbrev lv (e : Fe) : Value := .slice e.la e.lg.length e.lc
def encE (e : Fe) : List Value := [.int .i64 e.st, .int .i64 e.sq, lv e]
theorem encE_len (x : Fe) : (encE x).length = 3 := rfl
theorem encE_one (x : Fe) : ∀ v ∈ encE x, v.oneCell' = true := by
  intro v hv
  simp [encE] at hv
  rcases hv with rfl | rfl | rfl <;> rfl
def nthE (l : List Fe) (i : Nat) : Fe := l.getD i ⟨0, 0, none, 0, []⟩
def flatE (l : List Fe) : List Value := l.flatMap encE
theorem flatE_len (l : List Fe) : (flatE l).length = l.length * 3 := by
  induction l with
  | nil => rfl
  | cons x r ih => simp only [flatE, List.flatMap_cons, List.length_append, encE_len, List.length_cons] at *; omega
theorem flatE_append (a b : List Fe) : flatE (a ++ b) = flatE a ++ flatE b := by simp [flatE]
theorem flatE_get (l : List Fe) (i c : Nat) (hi : i < l.length) (hc : c < 3) : (flatE l)[i * 3 + c]? = (encE (nthE l i))[c]? := by
  induction l generalizing i with
  | nil => simp at hi
  | cons x r ih =>
    rw [show flatE (x :: r) = encE x ++ flatE r by simp [flatE]]
    cases i with
    | zero => rw [List.getElem?_append_left (by rw [encE_len]; omega)]; simp [nthE]
    | succ j =>
      rw [List.getElem?_append_right (by rw [encE_len]; omega), encE_len, show (j + 1) * 3 + c - 3 = j * 3 + c by omega, ih j (by simpa using hi)]
      simp [nthE]
theorem flatE_one (l : List Fe) : ∀ v ∈ flatE l, v.oneCell' = true := by
  intro v hv
  obtain ⟨m, _, h⟩ := List.mem_flatMap.1 hv
  exact encE_one m v h
theorem nthE_set (l : List Fe) (i j : Nat) (r : Fe) (hi : i < l.length) : nthE (l.set i r) j = if i = j then r else nthE l j := by
  unfold nthE
  by_cases h : i = j
  · subst h
    simp [hi]
  · simp [h]
theorem flatE_set (l : List Fe) (i c : Nat) (hi : i < l.length) (hc : c < 3) (u : Value) (e' : Fe) (h : encE e' = (encE (nthE l i)).set c u) : (flatE l).set (i * 3 + c) u = flatE (l.set i e') := by
  apply List.ext_getElem?
  intro j
  by_cases hj : j < l.length * 3
  · obtain ⟨h1, h2, h3⟩ := flat_div hj (by omega)
    have e1 := flatE_get (l.set i e') (j / 3) (j % 3) (by simpa using h1) h2
    rw [h3] at e1
    rw [e1, nthE_set _ _ _ _ hi, List.getElem?_set]
    have e2 := flatE_get l (j / 3) (j % 3) h1 h2
    rw [h3] at e2
    by_cases e3 : i = j / 3
    · rw [if_pos e3, h, List.getElem?_set, encE_len]
      rw [← e3] at e2
      by_cases e4 : c = j % 3
      · rw [if_pos (by omega), if_pos (by rw [flatE_len]; omega), if_pos e4, if_pos (by omega)]
      · rw [if_neg (by omega), if_neg e4, e2]
    · rw [if_neg e3, if_neg (by omega), e2]
  · rw [List.getElem?_eq_none (by rw [List.length_set, flatE_len]; omega), List.getElem?_eq_none (by rw [flatE_len, List.length_set]; omega)]
theorem infoE : (Tryz.prog.info? 72).map (fun i => (i.zero, i.size, i.bytes)) = some (some (.agg #[.int .i64 0, .int .i64 0, .slice none 0 0]), 3, 40) := by kernel_rfl

/-! ### A run -/
abbrev rcs (D : Wd) (fv : Value) (pb : Nat) : Array Value := #[.slice D.pa D.ps.length D.pc, .slice D.fa D.fs.length D.fc, .int .i64 D.en, fv, .pointer (some ⟨pb, 0, none⟩)]
structure Lay (W : World) (rb lo hi : Nat) (D : Wd) (fv pv : Value) (pb : Nat) (wt : List M) (E : List Fe) : Prop where
  ww : ∃ W1 : World, W1.heap.size = hi ∧ Ww (mask (fun k => decide (k < lo)) W1) D ∧ ∀ k, lo ≤ k → k < hi → W.heap[k]? = W1.heap[k]?
  hl : lo ≤ hi
  hs : hi ≤ W.heap.size
  bx : W.heap[rb]? = some (.cells (rcs D fv pb) 70 (0, 0))
  row : W.ownsRow hi 72 3 fv E.length (flatE E)
  lgs : ∀ i, i < E.length → W.ownsRow hi 40 7 (lv (nthE E i)) (nthE E i).lg.length (flatD (nthE E i).lg)
  pil : Pil W pb pv wt
  hrb : hi ≤ rb
  hpb : hi ≤ pb
  hpv : ∀ k, pv.ownBlock = some k → hi ≤ k
  n1 : pb ≠ rb
  n2 : fv.ownBlock ≠ some rb ∧ fv.ownBlock ≠ some pb
  n3 : pv.ownBlock ≠ some rb ∧ ∀ k, pv.ownBlock = some k → fv.ownBlock ≠ some k
  n4 : ∀ i, i < E.length → ∀ k, (lv (nthE E i)).ownBlock = some k → k ≠ rb ∧ k ≠ pb ∧ fv.ownBlock ≠ some k ∧ pv.ownBlock ≠ some k
  n5 : ∀ i j, i < E.length → j < E.length → i ≠ j → ∀ k, (lv (nthE E i)).ownBlock = some k → (lv (nthE E j)).ownBlock ≠ some k
/-- The blocks of a run. -/
def FL (rb lo hi : Nat) (fv pv : Value) (pb : Nat) (E : List Fe) (k : Nat) : Prop :=
  (lo ≤ k ∧ k < hi) ∨ k = rb ∨ fv.ownBlock = some k ∨ H.FP pb pv k ∨ ∃ i, i < E.length ∧ (lv (nthE E i)).ownBlock = some k
theorem Lay.lt {W : World} {rb lo hi : Nat} {D : Wd} {fv pv : Value} {pb : Nat} {wt : List M} {E : List Fe} (h : Lay W rb lo hi D fv pv pb wt E) : ∀ k, FL rb lo hi fv pv pb E k → k < W.heap.size := by
  rintro k (⟨_, hk⟩ | rfl | hk | hk | ⟨i, hi, hk⟩)
  · have := h.hs; omega
  · exact (Array.getElem?_eq_some_iff.1 h.bx).1
  · exact (own_lt h.row hk).1
  · exact h.pil.lt k hk
  · exact (own_lt (h.lgs i hi) hk).1
theorem Lay.keep {S : Nat → Prop} {W W' : World} {rb lo hi : Nat} {D : Wd} {fv pv : Value} {pb : Nat} {wt : List M} {E : List Fe} (h : Lay W rb lo hi D fv pv pb wt E) (hf : Fr S W W') (hS : ∀ k, FL rb lo hi fv pv pb E k → ¬ S k) : Lay W' rb lo hi D fv pv pb wt E := by
  obtain ⟨W1, w1, w2, w3⟩ := h.ww
  refine ⟨⟨W1, w1, w2, fun k k1 k2 => (hf.block k (Nat.lt_of_lt_of_le k2 h.hs) (hS k (.inl ⟨k1, k2⟩))).trans (w3 k k1 k2)⟩, h.hl, Nat.le_trans h.hs hf.size, (hf.block rb (h.lt rb (.inr (.inl rfl))) (hS rb (.inr (.inl rfl)))).trans h.bx, own_keep h.row hf (fun g hg => hS g (.inr (.inr (.inl hg)))), fun i hi => own_keep (h.lgs i hi) hf (fun g hg => hS g (.inr (.inr (.inr (.inr ⟨i, hi, hg⟩))))), h.pil.keep hf (fun g hg => hS g (.inr (.inr (.inr (.inl hg))))), h.hrb, h.hpb, h.hpv, h.n1, h.n2, h.n3, h.n4, h.n5⟩
theorem Lay.below {W W' : World} {rb lo hi : Nat} {D : Wd} {fv pv : Value} {pb : Nat} {wt : List M} {E : List Fe} (h : Lay W rb lo hi D fv pv pb wt E) (hb : Below W.heap.size W W') : Lay W' rb lo hi D fv pv pb wt E :=
  h.keep (Fr.of_below (S := fun _ => False) hb) (fun _ _ g => g)
theorem Lay.wd {W : World} {rb lo hi : Nat} {D : Wd} {fv pv : Value} {pb : Nat} {wt : List M} {E : List Fe} (h : Lay W rb lo hi D fv pv pb wt E) : Ww W D := by
  obtain ⟨W1, w1, w2, w3⟩ := h.ww
  exact w2.sub (sub_of_mask (by rw [w1]; exact h.hs) (fun k hk hS => by
    have hS' : lo ≤ k := by simpa using hS
    exact w3 k hS' (by omega)))
/-- The pile has changed. -/
theorem Lay.pile {W W' : World} {rb lo hi : Nat} {D : Wd} {fv pv pv' : Value} {pb : Nat} {wt wt' : List M} {E : List Fe} (h : Lay W rb lo hi D fv pv pb wt E) (hp : Pil W' pb pv' wt') (hf : Fr (H.FP pb pv) W W') (hn : ∀ k, H.FP pb pv' k → H.FP pb pv k ∨ W.heap.size ≤ k) : Lay W' rb lo hi D fv pv' pb wt' E := by
  obtain ⟨W1, w1, w2, w3⟩ := h.ww
  have hpn := h.pil.nv
  have hS : ∀ k, ((lo ≤ k ∧ k < hi) ∨ k = rb ∨ fv.ownBlock = some k ∨ ∃ i, i < E.length ∧ (lv (nthE E i)).ownBlock = some k) → ¬ H.FP pb pv k := by
    rintro k (⟨k1, k2⟩ | rfl | hk | ⟨i, hi', hk⟩) (rfl | g)
    · have := h.hpb; omega
    · have := h.hpv k g; omega
    · exact h.n1 rfl
    · exact h.n3.1 g
    · exact h.n2.2 hk
    · exact h.n3.2 k g hk
    · exact (h.n4 i hi' _ hk).2.1 rfl
    · exact (h.n4 i hi' _ hk).2.2.2 g
  have hnew : ∀ k, pv'.ownBlock = some k → pv.ownBlock = some k ∨ k = pb ∨ W.heap.size ≤ k := fun k hk => by
    rcases hn k (.inr hk) with (g | g) | g
    · exact .inr (.inl g)
    · exact .inl g
    · exact .inr (.inr g)
  have lrb := h.lt rb (.inr (.inl rfl))
  refine ⟨⟨W1, w1, w2, fun k k1 k2 => (hf.block k (Nat.lt_of_lt_of_le k2 h.hs) (hS k (.inl ⟨k1, k2⟩))).trans (w3 k k1 k2)⟩, h.hl, Nat.le_trans h.hs hf.size, (hf.block rb lrb (hS rb (.inr (.inl rfl)))).trans h.bx, own_keep h.row hf (fun g hg => hS g (.inr (.inr (.inl hg)))), fun i hi => own_keep (h.lgs i hi) hf (fun g hg => hS g (.inr (.inr (.inr ⟨i, hi, hg⟩)))), hp, h.hrb, h.hpb, fun k hk => ?_, h.n1, h.n2, ⟨fun e => ?_, fun k hk e => ?_⟩, fun i hi k hk => ?_, h.n5⟩
  · rcases hnew k hk with g | g | g
    · exact h.hpv k g
    · rw [g]; exact h.hpb
    · exact Nat.le_trans h.hs g
  · rcases hnew rb e with g | g | g
    · exact h.n3.1 g
    · exact h.n1 g.symm
    · omega
  · rcases hnew k hk with g | g | g
    · exact h.n3.2 k g e
    · exact h.n2.2 (by rw [← g]; exact e)
    · have := (own_lt h.row e).1; omega
  · obtain ⟨a1, a2, a3, a4⟩ := h.n4 i hi k hk
    refine ⟨a1, a2, a3, fun e => ?_⟩
    rcases hnew k e with g | g | g
    · exact a4 g
    · exact a2 g
    · have := (own_lt (h.lgs i hi) hk).1; omega
/-- A number of a federate has changed. -/
theorem Lay.num {W : World} {rb lo hi : Nat} {D : Wd} {fb fc : Nat} {pv : Value} {pb : Nat} {wt : List M} {E : List Fe} (h : Lay W rb lo hi D (.slice (some ⟨fb, 0, none⟩) E.length fc) pv pb wt E) (f c : Nat) (hf : f < E.length) (hc : c < 3) (u : Value) (e' : Fe) (he : encE e' = (encE (nthE E f)).set c u) (h1 : e'.la = (nthE E f).la) (h2 : e'.lc = (nthE E f).lc) (h3 : e'.lg = (nthE E f).lg) :
    Lay (W.setCell ⟨fb, f * 3 + c, none⟩ u) rb lo hi D (.slice (some ⟨fb, 0, none⟩) (E.set f e').length fc) pv pb wt (E.set f e') := by
  obtain ⟨W1, w1, w2, w3⟩ := h.ww
  obtain ⟨hst, _⟩ := World.ownsRow.stored h.row (f * 3 + c) u
  rw [flatE_set E f c hf hc u e' he] at hst
  have g0 : Fr (fun k => k = fb) W W := Fr.refl _ W
  have g1 := g0.setCell ⟨fb, f * 3 + c, none⟩ u rfl
  have hlen : (E.set f e').length = E.length := List.length_set
  have hlv : ∀ i, i < E.length → lv (nthE (E.set f e') i) = lv (nthE E i) ∧ (nthE (E.set f e') i).lg = (nthE E i).lg := fun i hi => by
    rw [nthE_set _ _ _ _ hf]
    split
    · rename_i e; subst e; exact ⟨by simp only [lv, h1, h2, h3], h3⟩
    · exact ⟨rfl, rfl⟩
  have hfb := own_lt h.row (g := fb) rfl
  have lrb := h.lt rb (.inr (.inl rfl))
  rw [hlen]
  refine ⟨⟨W1, w1, w2, fun k k1 k2 => (g1.block k (Nat.lt_of_lt_of_le k2 h.hs) (by omega)).trans (w3 k k1 k2)⟩, h.hl, by simpa using h.hs, (g1.block rb lrb (fun e => h.n2.1 (by rw [e]; rfl))).trans h.bx, by rw [hlen]; exact hst, fun i hi => ?_, h.pil.keep g1 (fun k hk e => ?_), h.hrb, h.hpb, h.hpv, h.n1, h.n2, h.n3, fun i hi k hk => ?_, fun i j hi hj hij k hk => ?_⟩
  · rw [hlen] at hi
    rw [(hlv i hi).1, (hlv i hi).2]
    exact own_keep (h.lgs i hi) g1 (fun g hg e => (h.n4 i hi g hg).2.2.1 (by rw [e]; rfl))
  · subst e
    rcases hk with rfl | hk
    · exact h.n2.2 rfl
    · exact h.n3.2 _ hk rfl
  · rw [hlen] at hi
    rw [(hlv i hi).1] at hk
    exact h.n4 i hi k hk
  · rw [hlen] at hi hj
    rw [(hlv i hi).1] at hk
    rw [(hlv j hj).1]
    exact h.n5 i j hi hj hij k hk
/-- One more in a federate's log. -/
theorem Lay.logged {W : World} {rb lo hi : Nat} {D : Wd} {fb fc : Nat} {pv : Value} {pb : Nat} {wt : List M} {E : List Fe} (h : Lay W rb lo hi D (.slice (some ⟨fb, 0, none⟩) E.length fc) pv pb wt E) (f : Nat) (hf : f < E.length) (x : Dn) (nb : Nat) (hx : W.heap[nb]? = some (.cells (dcs x) 40 (0, 0))) (hl : (nthE E f).lg.length ≤ 100000) (ty : TypeId) :
    ∃ a' c' w', (Builtin.append_ #[48, 48] ty #[lv (nthE E f), .slice (some ⟨nb, 0, none⟩) 1 1]).run Tryz.prog W = .ok (.slice a' ((nthE E f).lg.length + 1) c') w' ∧ w'.frozen? ⟨fb, f * 3 + 2, none⟩ = false ∧ w'.cell? ⟨fb, f * 3 + 2, none⟩ = some (lv (nthE E f)) ∧ (∀ k, k < W.heap.size → (lv (nthE E f)).ownBlock ≠ some k → w'.heap[k]? = W.heap[k]?) ∧ W.heap.size ≤ w'.heap.size ∧
      Lay (w'.setCell ⟨fb, f * 3 + 2, none⟩ (.slice a' ((nthE E f).lg.length + 1) c')) rb lo hi D (.slice (some ⟨fb, 0, none⟩) (E.set f ⟨(nthE E f).st, (nthE E f).sq, a', c', (nthE E f).lg ++ [x]⟩).length fc) pv pb wt (E.set f ⟨(nthE E f).st, (nthE E f).sq, a', c', (nthE E f).lg ++ [x]⟩) ∧ Fr (fun k => k = fb ∨ (lv (nthE E f)).ownBlock = some k) W (w'.setCell ⟨fb, f * 3 + 2, none⟩ (.slice a' ((nthE E f).lg.length + 1) c')) ∧ (∀ k, (Value.slice a' ((nthE E f).lg.length + 1) c').ownBlock = some k → (lv (nthE E f)).ownBlock = some k ∨ W.heap.size ≤ k) := by
  obtain ⟨i0, hi0, hz0, hz1, hz2⟩ := info_parts infoD
  obtain ⟨v', w', hr, h3, h4, h5, h6⟩ := run_append_own_at (P := Tryz.prog) W hi 48 ty 40 i0 _ 7 56 Tryz.underlying48 hi0 hz0 hz1 hz2 rfl (by decide) (lv (nthE E f)) (nthE E f).lg.length (flatD (nthE E f).lg) (h.lgs f hf) ⟨nb, 0, none⟩ 1 1 (flatD [x]) (flatD_len [x]) (fun j u hj => by
    rw [Addr.add_lit, Nat.zero_add]
    have e : flatD [x] = encD x := by simp [flatD]
    rw [e] at hj
    simp [World.cell?, hx]
    simpa [encD] using hj) (flatD_one _) (by unfold maxLen; omega) (by omega) h.hs
  have hro : w'.ownsRow hi 40 7 v' ((nthE E f).lg ++ [x]).length (flatD ((nthE E f).lg ++ [x])) := by
    rw [flatD_append, List.length_append]
    exact h3
  obtain ⟨a', c', rfl⟩ := shape_of hro
  rw [show ((nthE E f).lg ++ [x]).length = (nthE E f).lg.length + 1 by simp] at *
  obtain ⟨W1, w1, w2, w3⟩ := h.ww
  have hv' : ∀ k, (Value.slice a' ((nthE E f).lg.length + 1) c').ownBlock = some k → (lv (nthE E f)).ownBlock = some k ∨ W.heap.size ≤ k := fun k e => by
    rcases h6 with h6 | h6
    · exact .inl (h6.symm.trans e)
    · right
      rw [h6] at e
      simp at e
      omega
  have f4 : Fr (fun k => (lv (nthE E f)).ownBlock = some k) W w' := H.fr_of_grown h4
  have hfb := own_lt h.row (g := fb) rfl
  have hfl : (lv (nthE E f)).ownBlock ≠ some fb := fun e => (h.n4 f hf fb e).2.2.1 rfl
  have hrow := own_keep h.row f4 (fun g hg e => (h.n4 f hf g e).2.2.1 hg)
  have hfz : w'.frozen? ⟨fb, f * 3 + 2, none⟩ = false := World.ownsRow.frozenAt hrow _
  have hcl : w'.cell? ⟨fb, f * 3 + 2, none⟩ = some (lv (nthE E f)) := by rw [World.ownsRow.cellAt hrow _ (by omega), flatE_get E f 2 hf (by omega)]; rfl
  obtain ⟨hst, _⟩ := World.ownsRow.stored hrow (f * 3 + 2) (.slice a' ((nthE E f).lg.length + 1) c')
  rw [flatE_set E f 2 hf (by omega) _ ⟨(nthE E f).st, (nthE E f).sq, a', c', (nthE E f).lg ++ [x]⟩ (by simp [encE, lv])] at hst
  have g0 : Fr (fun k => k = fb) w' w' := Fr.refl _ w'
  have g1 := g0.setCell ⟨fb, f * 3 + 2, none⟩ (.slice a' ((nthE E f).lg.length + 1) c') rfl
  have fa : Fr (fun k => k = fb ∨ (lv (nthE E f)).ownBlock = some k) W (w'.setCell ⟨fb, f * 3 + 2, none⟩ (.slice a' ((nthE E f).lg.length + 1) c')) := (f4.wide (fun k hk => .inr hk)).then (g1.wide (fun k hk => .inl hk))
  have lrb := h.lt rb (.inr (.inl rfl))
  refine ⟨a', c', w', hr, hfz, hcl, fun k hk hn => f4.block k hk hn, f4.size, ?_, fa, hv'⟩
  have hlen : (E.set f ⟨(nthE E f).st, (nthE E f).sq, a', c', (nthE E f).lg ++ [x]⟩).length = E.length := List.length_set
  have hnt : ∀ i, nthE (E.set f ⟨(nthE E f).st, (nthE E f).sq, a', c', (nthE E f).lg ++ [x]⟩) i = if f = i then ⟨(nthE E f).st, (nthE E f).sq, a', c', (nthE E f).lg ++ [x]⟩ else nthE E i := fun i => nthE_set _ _ _ _ hf
  have hlvf : lv ⟨(nthE E f).st, (nthE E f).sq, a', c', (nthE E f).lg ++ [x]⟩ = .slice a' ((nthE E f).lg.length + 1) c' := by simp [lv]
  have hne : ∀ k, (Value.slice a' ((nthE E f).lg.length + 1) c').ownBlock = some k → k ≠ rb ∧ k ≠ pb ∧ k ≠ fb ∧ pv.ownBlock ≠ some k ∧ ∀ j, j < E.length → f ≠ j → (lv (nthE E j)).ownBlock ≠ some k := fun k hk => by
    rcases hv' k hk with g | g
    · obtain ⟨a1, a2, a3, a4⟩ := h.n4 f hf k g
      exact ⟨a1, a2, fun e => a3 (by rw [e]; rfl), a4, fun j hj hfj => h.n5 f j hf hj hfj k g⟩
    · have lpb := h.pil.lt pb (.inl rfl)
      exact ⟨by omega, by omega, by omega, fun e => by have := h.pil.lt k (.inr e); omega, fun j hj _ e => by have := (own_lt (h.lgs j hj) e).1; omega⟩
  rw [hlen]
  refine ⟨⟨W1, w1, w2, fun k k1 k2 => (fa.block k (Nat.lt_of_lt_of_le k2 h.hs) (fun e => ?_)).trans (w3 k k1 k2)⟩, h.hl, Nat.le_trans h.hs fa.size, (fa.block rb lrb (fun e => ?_)).trans h.bx, by rw [hlen]; exact hst, fun i hi => ?_, h.pil.keep fa (fun k hk e => ?_), h.hrb, h.hpb, h.hpv, h.n1, h.n2, h.n3, fun i hi k hk => ?_, fun i j hi hj hij k hk => ?_⟩
  · rcases e with e | e
    · omega
    · have := (own_lt (h.lgs f hf) e).2; omega
  · rcases e with e | e
    · exact h.n2.1 (by rw [e]; rfl)
    · exact (h.n4 f hf rb e).1 rfl
  · rw [hlen] at hi
    rw [hnt]
    split
    · rename_i e
      subst e
      rw [hlvf]
      have := own_keep h3 g1 (fun g hg e => by
        have := hne g hg
        exact this.2.2.1 e)
      rw [show ((nthE E f).lg ++ [x]).length = (nthE E f).lg.length + 1 by simp]
      rw [flatD_append]
      exact this
    · rename_i e
      exact own_keep (h.lgs i hi) fa (fun g hg e2 => by
        rcases e2 with e2 | e2
        · exact (h.n4 i hi g hg).2.2.1 (by rw [e2]; rfl)
        · exact h.n5 i f hi hf (fun e3 => e e3.symm) g hg e2)
  · rcases e with e | e
    · subst e
      rcases hk with rfl | hk
      · exact h.n2.2 rfl
      · exact h.n3.2 _ hk rfl
    · obtain ⟨_, a2, _, a4⟩ := h.n4 f hf k e
      rcases hk with hk | hk
      · exact a2 hk
      · exact a4 hk
  · rw [hlen] at hi
    rw [hnt] at hk
    split at hk
    · rw [hlvf] at hk
      obtain ⟨a1, a2, a3, a4, _⟩ := hne k hk
      exact ⟨a1, a2, fun e => a3 (by simpa [Value.ownBlock] using e.symm), a4⟩
    · exact h.n4 i hi k hk
  · rw [hlen] at hi hj
    rw [hnt] at hk ⊢
    split at hk
    · rename_i e
      rw [hlvf] at hk
      rw [if_neg (by omega)]
      exact (hne k hk).2.2.2.2 j hj (by omega)
    · split
      · rename_i e1 e2
        rw [hlvf]
        intro e3
        exact (hne k e3).2.2.2.2 i hi e1 hk
      · exact h.n5 i j hi hj hij k hk
end Go.Proofs.YtmfcbalhabcodaaGreat
