/- Proved: federates of other kinds, as plain data and in memory: a federation that is made anew, federate by federate. -/
import Derived.Test.YtpifkoblcbjiiaaInb
import Derived.Test.YtpifkoblcbjiiaaFrw
namespace Go.Proofs.Ytpifkoblcbjiiaa
open Go.RowKit Go.Shelf
set_option linter.unusedVariables false

/-- A federate of another kind. -/
def setK (g : Fd) (b : Bool) : Fd := ⟨if b = true then 1 else 0, g.lk, g.st, g.ra, g.rc, g.rs, g.pa, g.pc, g.ps, g.sa, g.sc, g.ss, g.ia, g.ic, g.is⟩
def knd (z : List Bool) (i : Nat) : Bool := decide (i < z.length) && nthT z i
def kF (fs : List Fd) (z : List Bool) (k : Nat) : List Fd := (List.range k).map (fun i : Nat => setK (nthF fs i) (knd z i))
theorem kF_succ (fs : List Fd) (z : List Bool) (k : Nat) : kF fs z (k + 1) = kF fs z k ++ [setK (nthF fs k) (knd z k)] := by
  unfold kF
  rw [List.range_succ]
  simp
theorem kF_len (fs : List Fd) (z : List Bool) (k : Nat) : (kF fs z k).length = k := by simp [kF]
theorem kF_nth (fs : List Fd) (z : List Bool) {k i : Nat} (h : i < k) : nthF (kF fs z k) i = setK (nthF fs i) (knd z i) := by simp [kF, nthF, h]
theorem fedE_setK {g : Fd} {b : Bool} {m : Nat} (h : wi g.kd 0 1 = true) : fedE (setK g b) m = fedE g m := by
  have h1 : wi (setK g b).kd 0 1 = true := by cases b <;> rfl
  unfold fedE
  rw [h, h1]
  rfl
theorem fedsE_congr {m : Nat} (l : List Fd) : ∀ (l' : List Fd) (j : Nat), l.length = l'.length → (∀ i, i < l.length → fedE (nthF l i) m = fedE (nthF l' i) m) → fedsE m j l = fedsE m j l' := by
  induction l with
  | nil =>
    intro l' j hl _
    cases l' with
    | nil => rfl
    | cons a r => simp at hl
  | cons a r ih =>
    intro l' j hl h
    cases l' with
    | nil => simp at hl
    | cons a' r' =>
      have h0 : fedE a m = fedE a' m := by simpa [nthF] using h 0 (by simp)
      simp only [fedsE, h0]
      rw [ih r' (j + 1) (by simpa using hl) (fun i hi => by have := h (i + 1) (by simpa using hi); simpa [nthF] using this)]
theorem wldE_kind {D D' : Wd} {z : List Bool} (h1 : D'.ps = D.ps) (h2 : D'.en = D.en) (h3 : D'.fs = kF D.fs z D.fs.length) (hk : ∀ i, i < D.fs.length → wi (nthF D.fs i).kd 0 1 = true) : wldE D' = wldE D := by
  have hl : D'.fs.length = D.fs.length := by rw [h3, kF_len]
  have ha : allE D' = allE D := by unfold allE; rw [h1, h2, hl]
  unfold wldE
  rw [ha, h1]
  rw [fedsE_congr D'.fs D.fs 0 hl (fun i hi => by
    rw [hl] at hi
    rw [h3, kF_nth _ _ hi]
    exact fedE_setK (hk i hi))]
theorem rtsF_congr {D D' : Wd} (h1 : D'.ps = D.ps) (h : ∀ i, i < D.fs.length → (nthF D'.fs i).ss = (nthF D.fs i).ss) (f c : Int) (n : Nat) (hn : n ≤ D.fs.length) : rtsF D' f c n = rtsF D f c n := by
  induction n with
  | zero => rfl
  | succ n ih =>
    rw [rtsF_succ, rtsF_succ, ih (by omega)]
    have : hrs D' c (nthF D'.fs n) = hrs D c (nthF D.fs n) := by
      unfold hrs
      rw [h n (by omega), h1]
    rw [this]
theorem sts_kind {D D' : Wd} {z : List Bool} (h1 : D'.ps = D.ps) (h3 : D'.fs = kF D.fs z D.fs.length) : sts D' = sts D := by
  have hl : D'.fs.length = D.fs.length := by rw [h3, kF_len]
  have hn : ∀ i, i < D.fs.length → (nthF D'.fs i).ss = (nthF D.fs i).ss ∧ (nthF D'.fs i).is = (nthF D.fs i).is := fun i hi => by
    rw [h3, kF_nth _ _ hi]
    exact ⟨rfl, rfl⟩
  have hr : ∀ f c, rts D' f c = rts D f c := fun f c => by
    unfold rts
    rw [hl]
    exact rtsF_congr h1 (fun i hi => (hn i hi).1) f c _ (Nat.le_refl _)
  have hs : ∀ f q n b os, spr D' f q n b os = spr D f q n b os := fun f q n b os => by
    unfold spr sprF oneM
    simp only [hr]
  unfold sts
  rw [hl]
  have : ∀ k, k ≤ D.fs.length → stsF D' k = stsF D k := by
    intro k
    induction k with
    | zero => intro _; rfl
    | succ k ih =>
      intro hk
      rw [stsF_succ, stsF_succ, ih (by omega), hs, (hn k (by omega)).2]
  exact this _ (Nat.le_refl _)

/-! ### In memory -/
abbrev xcs (D : Wd) (v : Value) : Array Value := #[.slice D.pa D.ps.length D.pc, v, .int .i64 D.en]
/-- The federation that is made anew: its block XB, and the federates so far. -/
structure Kx (W1 : World) (XB : Nat) (D : Wd) (wr : World) (v : Value) (l : List Fd) : Prop where
  bel : Below W1.heap.size W1 wr
  sz : W1.heap.size = XB
  bx : wr.heap[XB]? = some (.cells (xcs D v) 25 (0, 0))
  row : wr.ownsRow (XB + 1) 42 7 v l.length (flatG l)
theorem Kx.lt {W1 : World} {XB : Nat} {D : Wd} {wr : World} {v : Value} {l : List Fd} (h : Kx W1 XB D wr v l) : XB < wr.heap.size := (Array.getElem?_eq_some_iff.1 h.bx).1
theorem Kx.cells {W1 : World} {XB : Nat} {D : Wd} {wr : World} {v : Value} {l : List Fd} (h : Kx W1 XB D wr v l) : wr.cell? ⟨XB, 0, none⟩ = some (.slice D.pa D.ps.length D.pc) ∧ wr.cell? ⟨XB, 1, none⟩ = some v ∧ wr.cell? ⟨XB, 2, none⟩ = some (.int .i64 D.en) ∧ ∀ j, wr.frozen? ⟨XB, j, none⟩ = false := by
  have hb := h.bx
  refine ⟨?_, ?_, ?_, fun j => ?_⟩ <;> simp [World.cell?, World.frozen?, hb, xcs]
theorem Kx.below {W1 : World} {XB : Nat} {D : Wd} {wr W : World} {v : Value} {l : List Fd} (h : Kx W1 XB D wr v l) (hb : Below wr.heap.size wr W) : Kx W1 XB D W v l := by
  refine ⟨h.bel.trans (hb.mono h.bel.size), h.sz, (hb.block XB h.lt).trans h.bx, ⟨h.row.1, ?_⟩⟩
  rcases h.row.2 with g | ⟨g, cap, cur, h1, h2, h3, h4⟩
  · exact .inl g
  · exact .inr ⟨g, cap, cur, h1, h2, (hb.block g (Array.getElem?_eq_some_iff.1 h3).1).trans h3, h4⟩
theorem Kx.rd {W1 : World} {XB : Nat} {D : Wd} {wr : World} {v : Value} {l : List Fd} (h : Kx W1 XB D wr v l) : ∃ a c, v = .slice a l.length c ∧ RdG wr a l := by
  have h0 := h.row
  rcases h.row.2 with ⟨rfl, hn⟩ | ⟨g, cap, cur, rfl, _, hg, _⟩
  · exact ⟨none, 0, by rw [hn], fun hl => absurd (List.length_eq_zero_iff.1 hn) hl⟩
  · refine ⟨_, cap, rfl, fun _ => ⟨g, 0, rfl, (Array.getElem?_eq_some_iff.1 hg).1, fun i hi c hc => ?_⟩⟩
    rw [Nat.zero_add, World.ownsRow.cellAt h0 _ (by omega), flatG_get l i c hi hc]
/-- One federate more. -/
theorem Kx.step {W1 : World} {XB : Nat} {D : Wd} {wr W : World} {v : Value} {l : List Fd} (h0 : Kx W1 XB D wr v l) (hb : Below wr.heap.size wr W) (g : Fd) (nb : Nat) (hg : RdG W (some ⟨nb, 0, none⟩) [g]) (hl : l.length ≤ 1000) (ty : TypeId) (X : List Fd) (hX : l ++ [g] = X) :
    ∃ a' c' w', (Builtin.append_ #[23, 23] ty #[v, .slice (some ⟨nb, 0, none⟩) 1 1]).run Try.prog W = .ok (.slice a' X.length c') w' ∧ w'.frozen? ⟨XB, 1, none⟩ = false ∧ w'.cell? ⟨XB, 1, none⟩ = some v ∧ Kx W1 XB D (w'.setCell ⟨XB, 1, none⟩ (.slice a' X.length c')) (.slice a' X.length c') X := by
  have h := h0.below hb
  obtain ⟨i0, hi0, hz0, hz1, hz2⟩ := info_parts infoG
  have hbase : XB + 1 ≤ W.heap.size := h.lt
  obtain ⟨v', w', hr, h3, h4, h5, h6⟩ := run_append_own_at (P := Try.prog) W (XB + 1) 23 ty 42 i0 _ 7 120 Try.underlying23 hi0 hz0 hz1 hz2 rfl (by decide) v l.length (flatG l) h.row ⟨nb, 0, none⟩ 1 1 (flatG [g]) (flatG_len [g]) (fun j u hj => by
    rw [Addr.add_lit]
    exact hg.flat j u hj) (flatG_one _) (by unfold maxLen; omega) (by omega) hbase
  have hro : w'.ownsRow (XB + 1) 42 7 v' X.length (flatG X) := by
    rw [← hX, flatG_append, List.length_append]
    exact h3
  have hge : ∀ k, v.ownBlock = some k → XB + 1 ≤ k := fun k e => row_ge h.row e
  have hbx : w'.heap[XB]? = some (.cells (xcs D v) 25 (0, 0)) := (h4.block XB h.lt (fun e => by have := hge XB e.symm; omega)).trans h.bx
  obtain ⟨a', c', rfl⟩ : ∃ a' c', v' = .slice a' X.length c' := by
    rcases hro.2 with ⟨rfl, hn⟩ | ⟨g', cap, cur, rfl, _⟩
    · exact ⟨none, 0, by rw [hn]⟩
    · exact ⟨_, _, rfl⟩
  refine ⟨a', c', w', hr, by simp [World.frozen?, hbx], by simp [World.cell?, hbx, xcs], ?_, h.sz, ?_, ?_⟩
  · have := h.bel.grown h4 h.bel.size (fun k e => by have := hge k e; have := h.sz; omega)
    exact this.setCell (p := ⟨XB, 1, none⟩) (by have := h.sz; show _ ≤ XB; omega) _
  · rw [heap_setCell_same w' XB 1 _ _ _ hbx]
    rfl
  · refine World.ownsRow.kept (row := some XB) hro ⟨rfl, rfl, rfl, by simp, fun k _ hk => Below.heap_setCell _ _ _ k (fun e => hk (by rw [e]))⟩ (.inr ?_)
    intro e
    have := row_ge hro e
    omega
theorem okF_setK {w : World} {g : Fd} {b : Bool} (h : okF w g) : okF w (setK g b) := ⟨h.r, h.p, h.s, h.i⟩
theorem ltF_setK {g : Fd} {b : Bool} (h : LtF g) : LtF (setK g b) := ⟨h.r, h.p, h.s, h.i⟩
/-- As it begins. -/
theorem Kx.start {W1 : World} {D : Wd} (v0 : Value) : Kx W1 W1.heap.size D (((W1.alloc (.cells (xcs D v0) 25)).alloc (.cells #[] 42)).setCell ⟨W1.heap.size, 1, none⟩ (.slice (some ⟨W1.heap.size + 1, 0, none⟩) 0 0)) (.slice (some ⟨W1.heap.size + 1, 0, none⟩) 0 0) [] := by
  have b1 := al W1 (.cells (xcs D v0) 25)
  have b2 := al (W1.alloc (.cells (xcs D v0) 25)) (.cells #[] 42)
  have b3 := b1.trans (b2.mono b1.size)
  have s1 : (W1.alloc (.cells (xcs D v0) 25)).heap.size = W1.heap.size + 1 := by simp
  refine ⟨b3.setCell (p := ⟨W1.heap.size, 1, none⟩) (Nat.le_refl _) _, rfl, ?_, ?_⟩
  · have hb : ((W1.alloc (.cells (xcs D v0) 25)).alloc (.cells #[] 42)).heap[W1.heap.size]? = some (.cells (xcs D v0) 25 (0, 0)) := by
      rw [Below.heap_alloc _ _ _ (by simp)]
      exact World.alloc_heap_new W1 _
    rw [heap_setCell_same _ W1.heap.size 1 _ _ _ hb]
    rfl
  · have hro : ((W1.alloc (.cells (xcs D v0) 25)).alloc (.cells #[] 42)).ownsRow (W1.heap.size + 1) 42 7 (.slice (some ⟨W1.heap.size + 1, 0, none⟩) 0 0) 0 [] := by
      have := World.ownsRow_made (e := 42) (size := 7) (base := W1.heap.size + 1) (W1.alloc (.cells (xcs D v0) 25)) #[] 0 (by simp) (Nat.zero_le _) (by simp)
      rw [s1] at this
      exact this
    refine World.ownsRow.kept (row := some W1.heap.size) hro ⟨rfl, rfl, rfl, by simp, fun k _ hk => Below.heap_setCell _ _ _ k (fun e => hk (by rw [e]))⟩ (.inr ?_)
    simp [Value.ownBlock]
end Go.Proofs.Ytpifkoblcbjiiaa
