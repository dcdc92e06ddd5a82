/- Joined: the texts that follow, each with its own sentence. -/
import Derived.Test.YtiaopafkfadmkabGreatZJe
import Derived.Test.YtiaopafkfadmkabGreatZJd
/- Joined: the texts that follow, each with its own sentence. -/
/- Proved: no two messages to one federate have one key as they start. -/
namespace Go.Proofs.YtiaopafkfadmkabGreat
open Go.RowKit Go.Shelf
set_option linter.unusedVariables false

theorem al (w : World) (o : Obj) : Below w.heap.size w (w.alloc o) := (Below.refl _ w).alloc (Nat.le_refl _) _

/-- Of another federate, of another number, or to another one. -/
def Apt (x y : M) : Prop := x.fr ≠ y.fr ∨ x.sq ≠ y.sq ∨ x.dst ≠ y.dst
theorem oneM_mem {d : Wd} {f q n b : Int} {os : List O} {i : Nat} {x : M} (h : x ∈ oneM d f q n b os i) : x.fr = f ∧ x.sq = q + (i : Int) ∧ x.cl = (nthO os i).1 ∧ x.t = vadd n (nthO os i).2.1 ∧ x.dst ∈ rts d f (nthO os i).1 := by
  unfold oneM at h
  obtain ⟨t, ht, rfl⟩ := List.mem_map.1 h
  exact ⟨rfl, rfl, rfl, rfl, ht⟩
theorem sprF_mem {d : Wd} {f q n b : Int} {os : List O} {k : Nat} {x : M} (h : x ∈ sprF d f q n b os k) : ∃ i, i < k ∧ x ∈ oneM d f q n b os i := by
  unfold sprF at h
  obtain ⟨i, hi, hx⟩ := List.mem_flatMap.1 h
  exact ⟨i, by simpa using hi, hx⟩
theorem oneM_apart (d : Wd) (f q n b : Int) (os : List O) (i : Nat) : (oneM d f q n b os i).Pairwise Apt := by
  unfold oneM
  refine List.Pairwise.map _ (fun a c h => ?_) (rts_nodup d f (nthO os i).1)
  exact .inr (.inr h)
theorem sprF_apart (d : Wd) (f q n b : Int) (os : List O) (k : Nat) : (sprF d f q n b os k).Pairwise Apt := by
  induction k with
  | zero => simp [sprF]
  | succ k ih =>
    rw [sprF_succ, List.pairwise_append]
    refine ⟨ih, oneM_apart d f q n b os k, fun x hx y hy => ?_⟩
    obtain ⟨i, hi, hx⟩ := sprF_mem hx
    have h1 := (oneM_mem hx).2.1
    have h2 := (oneM_mem hy).2.1
    exact .inr (.inl (by rw [h1, h2]; omega))
theorem stsF_apart (d : Wd) (k : Nat) : (stsF d k).Pairwise Apt := by
  induction k with
  | zero => simp [stsF]
  | succ k ih =>
    rw [stsF_succ, List.pairwise_append]
    refine ⟨ih, sprF_apart _ _ _ _ _ _ _, fun x hx y hy => ?_⟩
    unfold stsF at hx
    obtain ⟨j, hj, hx⟩ := List.mem_flatMap.1 hx
    obtain ⟨i, _, hx⟩ := sprF_mem hx
    obtain ⟨i2, _, hy⟩ := sprF_mem hy
    have h1 := (oneM_mem hx).1
    have h2 := (oneM_mem hy).1
    have hj' : j < k := by simpa using hj
    exact .inl (by rw [h1, h2]; omega)
end Go.Proofs.YtiaopafkfadmkabGreat
/- Proved: slices of bytes, of bools as they lie in memory; what a federation that may be is. -/
namespace Go.Proofs.YtiaopafkfadmkabGreat
open Go.RowKit Go.Shelf
set_option linter.unusedVariables false

/-- A slice of bytes that came in. -/
def InB (w : World) (a : Option Addr) (z : List Int) : Prop :=
  (∀ i, i < z.length → 0 ≤ nthI z i ∧ nthI z i ≤ 255) ∧ (z ≠ [] → ∃ b off, a = some ⟨b, off, none⟩ ∧ b < w.heap.size ∧ ∀ i, i < z.length → w.cell? ⟨b, off + i, none⟩ = some (.int .u8 (nthI z i)))
theorem InB.below {w W : World} {a : Option Addr} {z : List Int} (h : InB w a z) (hb : Below w.heap.size w W) : InB W a z := by
  refine ⟨h.1, fun g => ?_⟩
  obtain ⟨b, off, rfl, hB, hc⟩ := h.2 g
  exact ⟨b, off, rfl, Nat.lt_of_lt_of_le hB hb.size, fun i hi => (hb.cell (p := ⟨b, off + i, none⟩) hB).trans (hc i hi)⟩
def nthT (z : List Bool) (i : Nat) : Bool := z.getD i false
/-- A slice of bools that came in. -/
def InT (w : World) (a : Option Addr) (z : List Bool) : Prop :=
  z ≠ [] → ∃ b off, a = some ⟨b, off, none⟩ ∧ b < w.heap.size ∧ ∀ i, i < z.length → w.cell? ⟨b, off + i, none⟩ = some (.bool (nthT z i))
theorem InT.below {w W : World} {a : Option Addr} {z : List Bool} (h : InT w a z) (hb : Below w.heap.size w W) : InT W a z := fun g => by
  obtain ⟨b, off, rfl, hB, hc⟩ := h g
  exact ⟨b, off, rfl, Nat.lt_of_lt_of_le hB hb.size, fun i hi => (hb.cell (p := ⟨b, off + i, none⟩) hB).trans (hc i hi)⟩

theorem fstE_zero {l : List Int} (h : fstE l = 0) : ∀ x ∈ l, x = 0 := by
  induction l with
  | nil => intro x hx; cases hx
  | cons a r ih =>
    simp only [fstE] at h
    split at h
    · rename_i e
      intro x hx
      rcases List.mem_cons.1 hx with rfl | hx
      · exact e
      · exact ih h x hx
    · exact absurd h ‹_›
theorem unl_zero {b : Bool} {e : Int} (he : e ≠ 0) (h : unl b e = 0) : b = true := by
  cases b
  · exact absurd h he
  · rfl
theorem fedsE_zero {m : Nat} {l : List Fd} {j : Nat} (h : (fedsE m j l).2 = 0) : ∀ f ∈ l, fedE f m = 0 := by
  induction l generalizing j with
  | nil => intro f hf; cases hf
  | cons a r ih =>
    simp only [fedsE] at h
    split at h
    · rename_i e
      intro f hf
      rcases List.mem_cons.1 hf with rfl | hf
      · exact e
      · exact ih h f hf
    · exact absurd h ‹_›
/-- A federation that may be. -/
theorem wld_ok {D : Wd} {N : Int} (h : wldE D = (N, 0)) : OKT D.ps ∧ 1 ≤ D.fs.length ∧ D.fs.length ≤ 8 ∧ ∀ f ∈ D.fs, fedE f D.ps.length = 0 := by
  unfold wldE at h
  split at h
  · rename_i e
    have e2 := fstE_zero (l := [chk D.ps, unl (wi D.en 0 1099511627776 && wi D.fs.length 1 8) 1]) e
    have h1 := e2 _ (by simp : chk D.ps ∈ _)
    have h2 := unl_zero (by decide) (e2 _ (by simp : unl (wi D.en 0 1099511627776 && wi D.fs.length 1 8) 1 ∈ _))
    rw [Bool.and_eq_true] at h2
    have h3 := of_decide_eq_true h2.2
    refine ⟨?_, by omega, by omega, fedsE_zero (j := 0) (by rw [h])⟩
    unfold chk at h1
    split at h1
    · rename_i g; exact (okT_iff _).1 g
    · cases h1
  · rename_i e
    have := congrArg Prod.snd h
    exact absurd this e
/-- What a federate that may be is. -/
theorem fed_ok {f : Fd} {m : Nat} (h : fedE f m = 0) : (1 ≤ f.lk ∧ f.lk ≤ 1048576) ∧ (∀ r ∈ f.rs, ∀ o ∈ r.os, o.1 ∈ f.ps ∧ f.lk ≤ o.2.1 ∧ o.2.1 ≤ 1048576) ∧ (∀ r ∈ f.rs, r.os.length ≤ 3) := by
  have h2 := fstE_zero (l := [unl (wi f.kd 0 1) 1, unl (wi f.lk 1 1048576) 80, unl (wi f.st 0 7) 70, chkE f.rs, unl (cls f.ps m && cls f.ss m) 81, rulsE f.ps f.lk m f.rs, unl (iniB f.ps f.is) 82]) h
  have hl := of_decide_eq_true (unl_zero (by decide) (h2 _ (by simp : unl (wi f.lk 1 1048576) 80 ∈ _)))
  have hc : chkE f.rs = 0 := h2 _ (by simp)
  have hr : rulsE f.ps f.lk m f.rs = 0 := h2 _ (by simp)
  have hall : ∀ r ∈ f.rs, okR r = true := by
    unfold chkE at hc
    split at hc
    · rename_i g
      unfold chkB at g
      simp only [Bool.and_eq_true] at g
      exact List.all_eq_true.1 g.2.1
    · cases hc
  refine ⟨hl, fun r hr' o ho => ?_, fun r hr' => ?_⟩
  · have h3 : rulE f.ps f.lk m r = 0 := fstE_zero hr _ (List.mem_map.2 ⟨r, hr', rfl⟩)
    have h4 : sndsE f.ps f.lk r.os = 0 := fstE_zero h3 _ (by simp)
    have h5 : sndE f.ps f.lk o = 0 := fstE_zero h4 _ (List.mem_map.2 ⟨o, ho, rfl⟩)
    have h6 := fstE_zero h5
    have h7 := of_decide_eq_true (unl_zero (by decide) (h6 _ (by simp : unl (decide (o.1 ∈ f.ps)) 81 ∈ _)))
    have h8 := of_decide_eq_true (unl_zero (by decide) (h6 _ (by simp : unl (decide (f.lk ≤ o.2.1)) 80 ∈ _)))
    have h9 := hall r hr'
    unfold okR at h9
    simp only [Bool.and_eq_true] at h9
    have h10 := List.all_eq_true.1 h9.2.2.2.2 o ho
    unfold okO at h10
    simp only [Bool.and_eq_true] at h10
    have h11 := of_decide_eq_true h10.2.1
    exact ⟨h7, h8, by omega⟩
  · have h9 := hall r hr'
    unfold okR at h9
    simp only [Bool.and_eq_true] at h9
    exact of_decide_eq_true h9.2.2.2.1
end Go.Proofs.YtiaopafkfadmkabGreat
/- Proved: federates of other kinds, as plain data and in memory: a federation that is made anew, federate by federate. -/
namespace Go.Proofs.YtiaopafkfadmkabGreat
open Go.RowKit Go.Shelf
set_option linter.unusedVariables false

/-- A federate of another kind. -/
def setK (g : Fd) (b : Bool) : Fd := ⟨if b = true then 1 else 0, g.lk, g.st, g.ra, g.rc, g.rs, g.pa, g.pc, g.ps, g.sa, g.sc, g.ss, g.ia, g.ic, g.is⟩
def knd (z : List Bool) (i : Nat) : Bool := decide (i < z.length) && nthT z i
def kF (fs : List Fd) (z : List Bool) (k : Nat) : List Fd := (List.range k).map (fun i : Nat => setK (nthF fs i) (knd z i))
theorem rtsF_congr {D D' : Wd} (h1 : D'.ps = D.ps) (h : ∀ i, i < D.fs.length → (nthF D'.fs i).ss = (nthF D.fs i).ss) (f c : Int) (n : Nat) (hn : n ≤ D.fs.length) : rtsF D' f c n = rtsF D f c n := by
  induction n with
  | zero => rfl
  | succ n ih =>
    rw [rtsF_succ, rtsF_succ, ih (by omega)]
    have : hrs D' c (nthF D'.fs n) = hrs D c (nthF D.fs n) := by
      unfold hrs
      rw [h n (by omega), h1]
    rw [this]
/-! ### In memory -/
abbrev xcs (D : Wd) (v : Value) : Array Value := #[.slice D.pa D.ps.length D.pc, v, .int .i64 D.en]
/-- The federation that is made anew: its block XB, and the federates so far. -/
structure Kx (W1 : World) (XB : Nat) (D : Wd) (wr : World) (v : Value) (l : List Fd) : Prop where
  bel : Below W1.heap.size W1 wr
  sz : W1.heap.size = XB
  bx : wr.heap[XB]? = some (.cells (xcs D v) 31 (0, 0))
  row : wr.ownsRow (XB + 1) 58 7 v l.length (flatG l)
theorem Kx.lt {W1 : World} {XB : Nat} {D : Wd} {wr : World} {v : Value} {l : List Fd} (h : Kx W1 XB D wr v l) : XB < wr.heap.size := (Array.getElem?_eq_some_iff.1 h.bx).1
theorem Kx.cells {W1 : World} {XB : Nat} {D : Wd} {wr : World} {v : Value} {l : List Fd} (h : Kx W1 XB D wr v l) : wr.cell? ⟨XB, 0, none⟩ = some (.slice D.pa D.ps.length D.pc) ∧ wr.cell? ⟨XB, 1, none⟩ = some v ∧ wr.cell? ⟨XB, 2, none⟩ = some (.int .i64 D.en) ∧ ∀ j, wr.frozen? ⟨XB, j, none⟩ = false := by
  have hb := h.bx
  refine ⟨?_, ?_, ?_, fun j => ?_⟩ <;> simp [World.cell?, World.frozen?, hb, xcs]
theorem Kx.below {W1 : World} {XB : Nat} {D : Wd} {wr W : World} {v : Value} {l : List Fd} (h : Kx W1 XB D wr v l) (hb : Below wr.heap.size wr W) : Kx W1 XB D W v l := by
  refine ⟨h.bel.trans (hb.mono h.bel.size), h.sz, (hb.block XB h.lt).trans h.bx, ⟨h.row.1, ?_⟩⟩
  rcases h.row.2 with g | ⟨g, cap, cur, h1, h2, h3, h4⟩
  · exact .inl g
  · exact .inr ⟨g, cap, cur, h1, h2, (hb.block g (Array.getElem?_eq_some_iff.1 h3).1).trans h3, h4⟩
theorem Kx.rd {W1 : World} {XB : Nat} {D : Wd} {wr : World} {v : Value} {l : List Fd} (h : Kx W1 XB D wr v l) : ∃ a c, v = .slice a l.length c ∧ RdG wr a l := by
  have h0 := h.row
  rcases h.row.2 with ⟨rfl, hn⟩ | ⟨g, cap, cur, rfl, _, hg, _⟩
  · exact ⟨none, 0, by rw [hn], fun hl => absurd (List.length_eq_zero_iff.1 hn) hl⟩
  · refine ⟨_, cap, rfl, fun _ => ⟨g, 0, rfl, (Array.getElem?_eq_some_iff.1 hg).1, fun i hi c hc => ?_⟩⟩
    rw [Nat.zero_add, World.ownsRow.cellAt h0 _ (by omega), flatG_get l i c hi hc]
/-- One federate more. -/
theorem Kx.step {W1 : World} {XB : Nat} {D : Wd} {wr W : World} {v : Value} {l : List Fd} (h0 : Kx W1 XB D wr v l) (hb : Below wr.heap.size wr W) (g : Fd) (nb : Nat) (hg : RdG W (some ⟨nb, 0, none⟩) [g]) (hl : l.length ≤ 1000) (ty : TypeId) (X : List Fd) (hX : l ++ [g] = X) :
    ∃ a' c' w', (Builtin.append_ #[29, 29] ty #[v, .slice (some ⟨nb, 0, none⟩) 1 1]).run Tryz.prog W = .ok (.slice a' X.length c') w' ∧ w'.frozen? ⟨XB, 1, none⟩ = false ∧ w'.cell? ⟨XB, 1, none⟩ = some v ∧ Kx W1 XB D (w'.setCell ⟨XB, 1, none⟩ (.slice a' X.length c')) (.slice a' X.length c') X := by
  have h := h0.below hb
  obtain ⟨i0, hi0, hz0, hz1, hz2⟩ := info_parts infoG
  have hbase : XB + 1 ≤ W.heap.size := h.lt
  obtain ⟨v', w', hr, h3, h4, h5, h6⟩ := run_append_own_at (P := Tryz.prog) W (XB + 1) 29 ty 58 i0 _ 7 120 Tryz.underlying29 hi0 hz0 hz1 hz2 rfl (by decide) v l.length (flatG l) h.row ⟨nb, 0, none⟩ 1 1 (flatG [g]) (flatG_len [g]) (fun j u hj => by
    rw [Addr.add_lit]
    exact hg.flat j u hj) (flatG_one _) (by unfold maxLen; omega) (by omega) hbase
  have hro : w'.ownsRow (XB + 1) 58 7 v' X.length (flatG X) := by
    rw [← hX, flatG_append, List.length_append]
    exact h3
  have hge : ∀ k, v.ownBlock = some k → XB + 1 ≤ k := fun k e => row_ge h.row e
  have hbx : w'.heap[XB]? = some (.cells (xcs D v) 31 (0, 0)) := (h4.block XB h.lt (fun e => by have := hge XB e.symm; omega)).trans h.bx
  obtain ⟨a', c', rfl⟩ : ∃ a' c', v' = .slice a' X.length c' := by
    rcases hro.2 with ⟨rfl, hn⟩ | ⟨g', cap, cur, rfl, _⟩
    · exact ⟨none, 0, by rw [hn]⟩
    · exact ⟨_, _, rfl⟩
  refine ⟨a', c', w', hr, by simp [World.frozen?, hbx], by simp [World.cell?, hbx, xcs], ?_, h.sz, ?_, ?_⟩
  · have := h.bel.grown h4 h.bel.size (fun k e => by have := hge k e; have := h.sz; omega)
    exact this.setCell (p := ⟨XB, 1, none⟩) (by have := h.sz; show _ ≤ XB; omega) _
  · rw [heap_setCell_same w' XB 1 _ _ _ hbx]
    rfl
  · refine World.ownsRow.kept (row := some XB) hro ⟨rfl, rfl, rfl, by simp, fun k _ hk => Below.heap_setCell _ _ _ k (fun e => hk (by rw [e]))⟩ (.inr ?_)
    intro e
    have := row_ge hro e
    omega
/-- As it begins. -/
theorem Kx.start {W1 : World} {D : Wd} (v0 : Value) : Kx W1 W1.heap.size D (((W1.alloc (.cells (xcs D v0) 31)).alloc (.cells #[] 58)).setCell ⟨W1.heap.size, 1, none⟩ (.slice (some ⟨W1.heap.size + 1, 0, none⟩) 0 0)) (.slice (some ⟨W1.heap.size + 1, 0, none⟩) 0 0) [] := by
  have b1 := al W1 (.cells (xcs D v0) 31)
  have b2 := al (W1.alloc (.cells (xcs D v0) 31)) (.cells #[] 58)
  have b3 := b1.trans (b2.mono b1.size)
  have s1 : (W1.alloc (.cells (xcs D v0) 31)).heap.size = W1.heap.size + 1 := by simp
  refine ⟨b3.setCell (p := ⟨W1.heap.size, 1, none⟩) (Nat.le_refl _) _, rfl, ?_, ?_⟩
  · have hb : ((W1.alloc (.cells (xcs D v0) 31)).alloc (.cells #[] 58)).heap[W1.heap.size]? = some (.cells (xcs D v0) 31 (0, 0)) := by
      rw [Below.heap_alloc _ _ _ (by simp)]
      exact World.alloc_heap_new W1 _
    rw [heap_setCell_same _ W1.heap.size 1 _ _ _ hb]
    rfl
  · have hro : ((W1.alloc (.cells (xcs D v0) 31)).alloc (.cells #[] 58)).ownsRow (W1.heap.size + 1) 58 7 (.slice (some ⟨W1.heap.size + 1, 0, none⟩) 0 0) 0 [] := by
      have := World.ownsRow_made (e := 58) (size := 7) (base := W1.heap.size + 1) (W1.alloc (.cells (xcs D v0) 31)) #[] 0 (by simp) (Nat.zero_le _) (by simp)
      rw [s1] at this
      exact this
    refine World.ownsRow.kept (row := some W1.heap.size) hro ⟨rfl, rfl, rfl, by simp, fun k _ hk => Below.heap_setCell _ _ _ k (fun e => hk (by rw [e]))⟩ (.inr ?_)
    simp [Value.ownBlock]
end Go.Proofs.YtiaopafkfadmkabGreat
/- Proved: a run of a federation as plain data: what waits, what is done; in which order. -/
namespace Go.Proofs.YtiaopafkfadmkabGreat
open Go.RowKit Go.Shelf
set_option linter.unusedVariables false

/-- Ahead: by time, who sent it, its number, to whom it goes. -/
def ahP (a b : M) : Prop := a.t < b.t ∨ (a.t = b.t ∧ (a.fr < b.fr ∨ (a.fr = b.fr ∧ (a.sq < b.sq ∨ (a.sq = b.sq ∧ a.dst < b.dst)))))
def ahd (a b : M) : Bool := decide (a.t < b.t) || (decide (a.t = b.t) && (decide (a.fr < b.fr) || (decide (a.fr = b.fr) && (decide (a.sq < b.sq) || (decide (a.sq = b.sq) && decide (a.dst < b.dst))))))
theorem ahd_iff (a b : M) : ahd a b = true ↔ ahP a b := by
  unfold ahd ahP
  simp [Bool.or_eq_true, Bool.and_eq_true, decide_eq_true_eq]
theorem ahP_trans {a b c : M} (h : ahP a b) (k : ahP b c) : ahP a c := by
  unfold ahP at *
  omega
theorem ahP_tri {a b : M} (h : Apt a b) : ahP a b ∨ ahP b a := by
  unfold ahP Apt at *
  omega
/-- One message among others. -/
def put1 (x : M) : List M → List M
  | [] => [x]
  | y :: r => if ahd x y = true then x :: y :: r else y :: put1 x r
def putL (l more : List M) : List M := more.foldl (fun l x => put1 x l) l
theorem put1_mem {x y : M} {l : List M} : y ∈ put1 x l ↔ y = x ∨ y ∈ l := by
  induction l with
  | nil => simp [put1]
  | cons z r ih =>
    unfold put1
    split
    · simp
    · simp only [List.mem_cons, ih]
      constructor
      · rintro (h | h | h)
        · exact .inr (.inl h)
        · exact .inl h
        · exact .inr (.inr h)
      · rintro (h | h | h)
        · exact .inr (.inl h)
        · exact .inl h
        · exact .inr (.inr h)
theorem putL_mem {y : M} {l more : List M} : y ∈ putL l more ↔ y ∈ l ∨ y ∈ more := by
  induction more generalizing l with
  | nil => simp [putL]
  | cons x r ih =>
    show y ∈ putL (put1 x l) r ↔ _
    rw [ih, put1_mem, List.mem_cons]
    constructor
    · rintro ((h | h) | h)
      · exact .inr (.inl h)
      · exact .inl h
      · exact .inr (.inr h)
    · rintro (h | h | h)
      · exact .inl (.inr h)
      · exact .inl (.inl h)
      · exact .inr h
/-- In order: each ahead of all that stand behind it. -/
abbrev Srt (l : List M) : Prop := l.Pairwise ahP
theorem put1_srt {x : M} {l : List M} (h : Srt l) (hx : ∀ y ∈ l, Apt x y) : Srt (put1 x l) := by
  induction l with
  | nil => simp [put1]
  | cons y r ih =>
    have hh := List.pairwise_cons.1 h
    unfold put1
    split
    · rename_i e
      have e := (ahd_iff x y).1 e
      refine List.pairwise_cons.2 ⟨fun z hz => ?_, h⟩
      rcases List.mem_cons.1 hz with rfl | hz
      · exact e
      · exact ahP_trans e (hh.1 z hz)
    · rename_i e
      have e : ¬ ahP x y := fun g => e ((ahd_iff x y).2 g)
      have e2 : ahP y x := (ahP_tri (hx y (by simp))).resolve_left e
      refine List.pairwise_cons.2 ⟨fun z hz => ?_, ih hh.2 (fun z hz => hx z (by simp [hz]))⟩
      rcases put1_mem.1 hz with rfl | hz
      · exact e2
      · exact hh.1 z hz
theorem Apt.symm {a b : M} (h : Apt a b) : Apt b a := by unfold Apt at *; omega
theorem putL_srt {l more : List M} (h : Srt l) (h1 : more.Pairwise Apt) (h2 : ∀ x ∈ more, ∀ y ∈ l, Apt x y) : Srt (putL l more) := by
  induction more generalizing l with
  | nil => exact h
  | cons x r ih =>
    have hh := List.pairwise_cons.1 h1
    show Srt (putL (put1 x l) r)
    refine ih (put1_srt h (h2 x (by simp))) hh.2 (fun z hz y hy => ?_)
    rcases put1_mem.1 hy with rfl | hy
    · exact (hh.1 z hz).symm
    · exact h2 z (by simp [hz]) y hy

/-- What was taken, and the state that it led to. -/
structure Dn where
  m : M
  s : Int
/-- A run: the states, how many each sent, what waits, what is done. -/
structure Rn where
  st : List Int
  sq : List Int
  wt : List M
  dn : List Dn
def nthD (l : List Dn) (i : Nat) : Dn := l.getD i ⟨⟨0, 0, 0, 0, 0, 0⟩, 0⟩
def newR (D : Wd) : Rn := ⟨D.fs.map (·.st), D.fs.map (fun f => (f.is.length : Int)), putL [] (sts D), []⟩
/-- What the first message that waits leads to. -/
def goR (D : Wd) (r : Rn) (m : M) (rest : List M) : Rn × Dn :=
  let p := stp (nthF D.fs m.dst.toNat).rs (nthI r.st m.dst.toNat) m.cl
  (⟨r.st.set m.dst.toNat p.1, r.sq.set m.dst.toNat (nthI r.sq m.dst.toNat + (p.2.length : Int)), putL rest (spr D m.dst (nthI r.sq m.dst.toNat) m.t m.bd p.2), r.dn ++ [⟨m, p.1⟩]⟩, ⟨m, p.1⟩)
def nxt (D : Wd) (r : Rn) : Option (Rn × Dn) :=
  match r.wt with
  | [] => none
  | m :: rest => if D.en ≤ m.t then none else some (goR D r m rest)
/-- n steps at most: how many there were, and what it comes to. -/
def stpsR (D : Wd) : Nat → Rn → Nat × Rn
  | 0, r => (0, r)
  | n + 1, r => match nxt D r with
    | none => (0, r)
    | some p => ((stpsR D n p.1).1 + 1, (stpsR D n p.1).2)
def logR (r : Rn) (f : Int) : List Dn := r.dn.filter (fun d => decide (d.m.dst = f))
def staR (r : Rn) (f : Int) : Int := if 0 ≤ f ∧ f < (r.st.length : Int) then nthI r.st f.toNat else -1
theorem stps_none {D : Wd} {r : Rn} (h : nxt D r = none) (n : Nat) : stpsR D n r = (0, r) := by
  cases n with
  | zero => rfl
  | succ n => simp [stpsR, h]
theorem stps_some {D : Wd} {r : Rn} {p : Rn × Dn} (h : nxt D r = some p) (n : Nat) : stpsR D (n + 1) r = ((stpsR D n p.1).1 + 1, (stpsR D n p.1).2) := by simp [stpsR, h]
end Go.Proofs.YtiaopafkfadmkabGreat
/- Proved: what holds of a run all the way: the order of all messages, their numbers, their states. -/
namespace Go.Proofs.YtiaopafkfadmkabGreat
open Go.RowKit Go.Shelf
set_option linter.unusedVariables false

theorem vadd_lo (n d : Int) : 0 ≤ vadd n d := cnt_lo _
theorem vadd_gt {n d : Int} (h0 : 0 ≤ n) (h1 : n ≤ 1099511627776) (hd : 1 ≤ d) : n < vadd n d := by
  unfold vadd
  rw [cnt_mid h0 h1]
  have h2 : 1 ≤ cnt d := by
    by_cases h : d ≤ 1099511627776
    · rw [cnt_mid (by omega) h]; exact hd
    · rw [cnt_big (by omega)]; omega
  by_cases h : n + cnt d ≤ 1099511627776
  · rw [cnt_mid (by omega) h]; omega
  · rw [cnt_big (by omega)]; omega
theorem nth_set (l : List Int) (i j : Nat) (v : Int) (hi : i < l.length) : nthI (l.set i v) j = if i = j then v else nthI l j := by
  unfold nthI
  by_cases h : i = j
  · subst h
    simp [hi]
  · simp [h]
theorem nth_mapF (g : Fd → Int) (l : List Fd) {i : Nat} (h : i < l.length) : nthI (l.map g) i = g (nthF l i) := by simp [nthI, nthF, h]

/-- What a send's messages are. -/
theorem spr_mem {d : Wd} {f q n b : Int} {os : List O} {x : M} (h : x ∈ spr d f q n b os) : ∃ i : Nat, i < os.length ∧ x.fr = f ∧ x.sq = q + (i : Int) ∧ x.cl = (nthO os i).1 ∧ x.t = vadd n (nthO os i).2.1 ∧ x.bd = (b + (nthO os i).2.2) % 1000 ∧ x.dst ∈ rts d f (nthO os i).1 := by
  obtain ⟨i, hi, hx⟩ := sprF_mem h
  unfold oneM at hx
  obtain ⟨t, ht, rfl⟩ := List.mem_map.1 hx
  exact ⟨i, hi, rfl, rfl, rfl, rfl, rfl, ht⟩
/-- One number, one message. -/
theorem spr_one {d : Wd} {f q n b : Int} {os : List O} {x y : M} (hx : x ∈ spr d f q n b os) (hy : y ∈ spr d f q n b os) (h : x.sq = y.sq) : x.t = y.t ∧ x.cl = y.cl ∧ x.bd = y.bd := by
  obtain ⟨i, _, _, a2, a3, a4, a5, _⟩ := spr_mem hx
  obtain ⟨j, _, _, b2, b3, b4, b5, _⟩ := spr_mem hy
  have e : i = j := by omega
  subst e
  exact ⟨by rw [a4, b4], by rw [a3, b3], by rw [a5, b5]⟩
theorem spr_apart (d : Wd) (f q n b : Int) (os : List O) : (spr d f q n b os).Pairwise Apt := sprF_apart d f q n b os _
theorem sts_mem {d : Wd} {x : M} (h : x ∈ sts d) : ∃ k : Nat, k < d.fs.length ∧ x ∈ spr d (k : Int) 0 0 0 (nthF d.fs k).is := by
  unfold sts stsF at h
  obtain ⟨k, hk, hx⟩ := List.mem_flatMap.1 h
  exact ⟨k, by simpa using hk, hx⟩
theorem rts_mem {d : Wd} {f c t : Int} (h : t ∈ rts d f c) : 0 ≤ t ∧ t < (d.fs.length : Int) ∧ t ≠ f := by
  obtain ⟨i, hi, rfl, hne, _⟩ := mem_rts.1 h
  exact ⟨by omega, by omega, hne⟩
/-- The sends of a rule, or none. -/
theorem stp_os (l : List Rl) (s c : Int) : (stp l s c).2 = [] ∨ ∃ r ∈ l, (stp l s c).2 = r.os := by
  rcases idxP_cases (isB s c) l with ⟨e, _⟩ | ⟨k, hk, e, _⟩
  · left
    unfold stp
    rw [fnd_idx, e]
    rfl
  · right
    refine ⟨nthR l k, nthR_mem hk, ?_⟩
    unfold stp
    rw [fnd_idx, e, if_neg (by omega)]
    simp
/-- A federation that may be, as the runs need it. -/
structure OkD (D : Wd) : Prop where
  en : D.en ≤ 1099511627776
  ln : 1 ≤ D.fs.length ∧ D.fs.length ≤ 8
  fe : ∀ f ∈ D.fs, fedE f D.ps.length = 0
theorem fed_ok2 {f : Fd} {m : Nat} (h : fedE f m = 0) : f.is.length ≤ 4 := by
  have h2 := fstE_zero (l := [unl (wi f.kd 0 1) 1, unl (wi f.lk 1 1048576) 80, unl (wi f.st 0 7) 70, chkE f.rs, unl (cls f.ps m && cls f.ss m) 81, rulsE f.ps f.lk m f.rs, unl (iniB f.ps f.is) 82]) h
  have := unl_zero (by decide) (h2 _ (by simp : unl (iniB f.ps f.is) 82 ∈ _))
  unfold iniB at this
  rw [Bool.and_eq_true] at this
  exact of_decide_eq_true this.1

theorem put1_apt {x : M} {l : List M} (h : l.Pairwise Apt) (hx : ∀ y ∈ l, Apt x y) : (put1 x l).Pairwise Apt := by
  induction l with
  | nil => simp [put1]
  | cons y r ih =>
    have hh := List.pairwise_cons.1 h
    unfold put1
    split
    · exact List.pairwise_cons.2 ⟨hx, h⟩
    · refine List.pairwise_cons.2 ⟨fun z hz => ?_, ih hh.2 (fun z hz => hx z (by simp [hz]))⟩
      rcases put1_mem.1 hz with rfl | hz
      · exact (hx y (by simp)).symm
      · exact hh.1 z hz
theorem putL_apt {l more : List M} (h : l.Pairwise Apt) (h1 : more.Pairwise Apt) (h2 : ∀ x ∈ more, ∀ y ∈ l, Apt x y) : (putL l more).Pairwise Apt := by
  induction more generalizing l with
  | nil => exact h
  | cons x r ih =>
    have hh := List.pairwise_cons.1 h1
    show (putL (put1 x l) r).Pairwise Apt
    refine ih (put1_apt h (h2 x (by simp))) hh.2 (fun z hz y hy => ?_)
    rcases put1_mem.1 hy with rfl | hy
    · exact (hh.1 z hz).symm
    · exact h2 z (by simp [hz]) y hy
/-- All messages of a run: what is done, what waits. -/
def allR (r : Rn) : List M := r.dn.map (·.m) ++ r.wt
structure Inv (D : Wd) (r : Rn) : Prop where
  ls : r.st.length = D.fs.length
  lq : r.sq.length = D.fs.length
  srt : Srt (allR r)
  mem : ∀ m ∈ allR r, (0 ≤ m.fr ∧ m.fr < (D.fs.length : Int)) ∧ (0 ≤ m.dst ∧ m.dst < (D.fs.length : Int)) ∧ m.dst ≠ m.fr ∧ (0 ≤ m.sq ∧ m.sq < nthI r.sq m.fr.toNat) ∧ 0 ≤ m.t
  uni : ∀ m ∈ allR r, ∀ m' ∈ allR r, m.fr = m'.fr → m.sq = m'.sq → m.t = m'.t ∧ m.cl = m'.cl ∧ m.bd = m'.bd
  apt : (allR r).Pairwise Apt
  nn : ∀ i, i < D.fs.length → 0 ≤ nthI r.sq i ∧ nthI r.sq i ≤ 4 + 3 * (r.dn.length : Int)
  end_ : ∀ d ∈ r.dn, d.m.t < D.en
theorem Inv.new {D : Wd} (h : OkD D) : Inv D (newR D) := by
  have hall : allR (newR D) = putL [] (sts D) := by simp [allR, newR]
  have hmem : ∀ m, m ∈ allR (newR D) ↔ m ∈ sts D := fun m => by rw [hall, putL_mem]; simp
  have hS : Srt (putL [] (sts D)) := putL_srt List.Pairwise.nil (stsF_apart D _) (fun x _ y hy => by cases hy)
  refine ⟨by simp [newR], by simp [newR], by rw [hall]; exact hS, fun m hm => ?_, fun m hm m' hm' e1 e2 => ?_, ?_, fun i hi => ?_, fun d hd => by cases hd⟩
  · obtain ⟨k, hk, hx⟩ := sts_mem ((hmem m).1 hm)
    obtain ⟨i, hi, a1, a2, _, a4, _, a6⟩ := spr_mem hx
    obtain ⟨b1, b2, b3⟩ := rts_mem a6
    refine ⟨by omega, ⟨b1, b2⟩, by rw [a1]; exact b3, ⟨by omega, ?_⟩, by rw [a4]; exact vadd_lo _ _⟩
    rw [a1, show ((k : Int)).toNat = k by simp]
    show m.sq < nthI (D.fs.map (fun f => (f.is.length : Int))) k
    rw [nth_mapF _ _ hk, a2]
    omega
  · obtain ⟨k, _, hx⟩ := sts_mem ((hmem m).1 hm)
    obtain ⟨k', _, hx'⟩ := sts_mem ((hmem m').1 hm')
    obtain ⟨_, _, a1, _⟩ := spr_mem hx
    obtain ⟨_, _, b1, _⟩ := spr_mem hx'
    have e : k = k' := by omega
    subst e
    exact spr_one hx hx' e2
  · rw [hall]
    exact putL_apt List.Pairwise.nil (stsF_apart D _) (fun x _ y hy => by cases hy)
  · show 0 ≤ nthI (D.fs.map (fun f => (f.is.length : Int))) i ∧ nthI (D.fs.map (fun f => (f.is.length : Int))) i ≤ _
    rw [nth_mapF _ _ hi]
    have := fed_ok2 (h.fe _ (nthF_mem hi))
    simp [newR]
    omega
/-- What a step does, in its parts. -/
theorem nxt_parts {D : Wd} {r : Rn} {p : Rn × Dn} (h : nxt D r = some p) : ∃ m rest, r.wt = m :: rest ∧ m.t < D.en ∧ p = goR D r m rest := by
  unfold nxt at h
  split at h
  · cases h
  · rename_i m rest e
    split at h
    · cases h
    · cases h
      exact ⟨m, rest, e, by omega, rfl⟩
theorem Inv.next {D : Wd} {r : Rn} {p : Rn × Dn} (hD : OkD D) (hI : Inv D r) (h : nxt D r = some p) : Inv D p.1 := by
  obtain ⟨m, rest, hw, ht, rfl⟩ := nxt_parts h
  have hall : allR r = r.dn.map (·.m) ++ m :: rest := by unfold allR; rw [hw]
  have hmm : m ∈ allR r := by rw [hall]; simp
  obtain ⟨⟨f0, f1⟩, ⟨d0, d1⟩, hne, ⟨q0, q1⟩, t0⟩ := hI.mem m hmm
  obtain ⟨f, hf⟩ := Int.eq_ofNat_of_zero_le d0
  have hfl : f < D.fs.length := by omega
  have hft : m.dst.toNat = f := by rw [hf]; simp
  obtain ⟨P, hP⟩ : ∃ P, stp (nthF D.fs f).rs (nthI r.st f) m.cl = P := ⟨_, rfl⟩
  obtain ⟨new, hnew⟩ : ∃ new, spr D m.dst (nthI r.sq f) m.t m.bd P.2 = new := ⟨_, rfl⟩
  have hgo : (goR D r m rest).1 = ⟨r.st.set f P.1, r.sq.set f (nthI r.sq f + (P.2.length : Int)), putL rest new, r.dn ++ [⟨m, P.1⟩]⟩ := by
    unfold goR
    simp only [hft, hP, hnew]
  have hos : P.2.length ≤ 3 ∧ ∀ o ∈ P.2, 1 ≤ o.2.1 := by
    obtain ⟨⟨l0, _⟩, hr1, hr2⟩ := fed_ok (hD.fe _ (nthF_mem hfl))
    rw [← hP]
    rcases stp_os (nthF D.fs f).rs (nthI r.st f) m.cl with e | ⟨rl, hrl, e⟩
    · rw [e]; exact ⟨by simp, fun o ho => by cases ho⟩
    · rw [e]
      exact ⟨hr2 rl hrl, fun o ho => by have := (hr1 rl hrl o ho).2.1; omega⟩
  have hq := hI.nn f hfl
  have hnm : ∀ x ∈ new, x.fr = m.dst ∧ (nthI r.sq f ≤ x.sq ∧ x.sq < nthI r.sq f + (P.2.length : Int)) ∧ (0 ≤ x.dst ∧ x.dst < (D.fs.length : Int)) ∧ x.dst ≠ x.fr ∧ m.t < x.t := fun x hx => by
    rw [← hnew] at hx
    obtain ⟨i, hi, a1, a2, _, a4, _, a6⟩ := spr_mem hx
    obtain ⟨b1, b2, b3⟩ := rts_mem a6
    have := hos.2 _ ((memO P.2 _).2 ⟨i, hi, rfl⟩)
    have hen := hD.en
    exact ⟨a1, by omega, ⟨b1, b2⟩, by rw [a1]; exact b3, by rw [a4]; exact vadd_gt t0 (by omega) this⟩
  have hold : ∀ y ∈ allR r, y.fr = m.dst → y.sq < nthI r.sq f := fun y hy e => by
    have := (hI.mem y hy).2.2.2.1.2
    rw [e, hft] at this
    exact this
  have hap : ∀ x ∈ new, ∀ y ∈ allR r, Apt x y := fun x hx y hy => by
    obtain ⟨a1, a2, _⟩ := hnm x hx
    by_cases e : y.fr = m.dst
    · have := hold y hy e
      exact .inr (.inl (by omega))
    · exact .inl (by omega)
  have hall' : allR (goR D r m rest).1 = (r.dn.map (·.m) ++ [m]) ++ putL rest new := by rw [hgo]; simp [allR]
  have hmem' : ∀ y, y ∈ allR (goR D r m rest).1 ↔ y ∈ allR r ∨ y ∈ new := fun y => by
    rw [hall', hall]
    simp only [List.mem_append, List.mem_cons, putL_mem, List.not_mem_nil, or_false]
    constructor
    · rintro ((h | h) | (h | h))
      · exact .inl (.inl h)
      · exact .inl (.inr (.inl h))
      · exact .inl (.inr (.inr h))
      · exact .inr h
    · rintro ((h | h | h) | h)
      · exact .inl (.inl h)
      · exact .inl (.inr h)
      · exact .inr (.inl h)
      · exact .inr (.inr h)
  have hsr := hI.srt
  rw [hall, show r.dn.map (·.m) ++ m :: rest = (r.dn.map (·.m) ++ [m]) ++ rest by simp] at hsr
  have hs1 := List.pairwise_append.1 hsr
  have hle : ∀ y ∈ r.dn.map (·.m) ++ [m], y.t ≤ m.t := fun y hy => by
    rcases List.mem_append.1 hy with hy | hy
    · have := (List.pairwise_append.1 hs1.1).2.2 y hy m (by simp)
      unfold ahP at this
      omega
    · simp at hy
      rw [hy]
      exact Int.le_refl _
  have hrest : ∀ y ∈ rest, y ∈ allR r := fun y hy => by rw [hall]; simp [hy]
  have hap1 := hI.apt
  rw [hall, show r.dn.map (·.m) ++ m :: rest = (r.dn.map (·.m) ++ [m]) ++ rest by simp] at hap1
  have ha1 := List.pairwise_append.1 hap1
  have hfst : ∀ y ∈ r.dn.map (·.m) ++ [m], y ∈ allR r := fun y hy => by
    rw [hall]
    simp only [List.mem_append, List.mem_cons, List.not_mem_nil, or_false] at hy ⊢
    rcases hy with hy | hy
    · exact .inl hy
    · exact .inr (.inl hy)
  have hset : ∀ i, i < D.fs.length → nthI r.sq i ≤ nthI (r.sq.set f (nthI r.sq f + (P.2.length : Int))) i := fun i hi => by
    rw [nth_set _ _ _ _ (by rw [hI.lq]; exact hfl)]
    split
    · rename_i e; subst e; omega
    · exact Int.le_refl _
  refine ⟨by rw [hgo]; simp [hI.ls], by rw [hgo]; simp [hI.lq], ?_, fun y hy => ?_, fun y hy y' hy' e1 e2 => ?_, ?_, fun i hi => ?_, fun d hd => ?_⟩
  · rw [hall']
    refine List.pairwise_append.2 ⟨hs1.1, putL_srt hs1.2.1 (hnew ▸ spr_apart _ _ _ _ _ _) (fun x hx y hy => hap x hx y (hrest y hy)), fun y hy z hz => ?_⟩
    rcases putL_mem.1 hz with hz | hz
    · exact hs1.2.2 y hy z hz
    · have h1 := hle y hy
      have h2 := (hnm z hz).2.2.2.2
      exact .inl (by omega)
  · rcases (hmem' y).1 hy with hy | hy
    · obtain ⟨a1, a2, a3, a4, a5⟩ := hI.mem y hy
      refine ⟨a1, a2, a3, ⟨a4.1, ?_⟩, a5⟩
      rw [hgo]
      have := hset y.fr.toNat (by omega)
      exact Int.lt_of_lt_of_le a4.2 this
    · obtain ⟨a1, a2, a3, a4, a5⟩ := hnm y hy
      refine ⟨by omega, a3, a4, ⟨by omega, ?_⟩, by omega⟩
      rw [hgo, a1, hft]
      show y.sq < nthI (r.sq.set f _) f
      rw [nth_set _ _ _ _ (by rw [hI.lq]; exact hfl), if_pos rfl]
      exact a2.2
  · rcases (hmem' y).1 hy with hy | hy <;> rcases (hmem' y').1 hy' with hy' | hy'
    · exact hI.uni y hy y' hy' e1 e2
    · exfalso
      obtain ⟨a1, a2, _⟩ := hnm y' hy'
      have := hold y hy (by omega)
      omega
    · exfalso
      obtain ⟨a1, a2, _⟩ := hnm y hy
      have := hold y' hy' (by omega)
      omega
    · rw [← hnew] at hy hy'
      exact spr_one hy hy' e2
  · rw [hall']
    refine List.pairwise_append.2 ⟨ha1.1, putL_apt ha1.2.1 (hnew ▸ spr_apart _ _ _ _ _ _) (fun x hx y hy => hap x hx y (hrest y hy)), fun y hy z hz => ?_⟩
    rcases putL_mem.1 hz with hz | hz
    · exact ha1.2.2 y hy z hz
    · exact (hap z hz y (hfst y hy)).symm
  · rw [hgo]
    show 0 ≤ nthI (r.sq.set f _) i ∧ nthI (r.sq.set f _) i ≤ 4 + 3 * ((r.dn ++ [(⟨m, P.1⟩ : Dn)]).length : Int)
    rw [nth_set _ _ _ _ (by rw [hI.lq]; exact hfl)]
    have hh := hI.nn i hi
    have ho := hos.1
    simp only [List.length_append, List.length_singleton, Int.natCast_add]
    split
    · omega
    · omega
  · rw [hgo] at hd
    rcases List.mem_append.1 hd with hd | hd
    · exact hI.end_ d hd
    · simp at hd
      rw [hd]
      exact ht
theorem Inv.steps {D : Wd} (hD : OkD D) (n : Nat) {r : Rn} (hI : Inv D r) : Inv D (stpsR D n r).2 := by
  induction n generalizing r with
  | zero => exact hI
  | succ n ih =>
    cases h : nxt D r with
    | none => rw [stps_none h]; exact hI
    | some p => rw [stps_some h]; exact ih (hI.next hD h)
end Go.Proofs.YtiaopafkfadmkabGreat
/- Proved: what the statements ask of runs, as plain data: order, states, earlier ends, kinds, numbers. -/
namespace Go.Proofs.YtiaopafkfadmkabGreat
open Go.RowKit Go.Shelf
set_option linter.unusedVariables false

/-! ### Order -/
/-! ### States -/
def fld (rs : List Rl) (s : Int) (l : List Dn) : Int := l.foldl (fun s d => (stp rs s d.m.cl).1) s
theorem fld_append (rs : List Rl) (s : Int) (a b : List Dn) : fld rs s (a ++ b) = fld rs (fld rs s a) b := by simp [fld]
structure StI (D : Wd) (r : Rn) : Prop where
  st : ∀ f : Nat, f < D.fs.length → nthI r.st f = fld (nthF D.fs f).rs (nthF D.fs f).st (logR r (f : Int))
  lg : ∀ f : Nat, f < D.fs.length → ∀ i, i < (logR r (f : Int)).length → (nthD (logR r (f : Int)) i).s = fld (nthF D.fs f).rs (nthF D.fs f).st ((logR r (f : Int)).take (i + 1))
theorem StI.new (D : Wd) : StI D (newR D) := by
  refine ⟨fun f hf => ?_, fun f hf i hi => ?_⟩
  · show nthI (D.fs.map (·.st)) f = _
    rw [nth_mapF _ _ hf]
    rfl
  · simp [logR, newR] at hi
theorem StI.next {D : Wd} {r : Rn} {p : Rn × Dn} (hI : Inv D r) (hS : StI D r) (h : nxt D r = some p) : StI D p.1 := by
  obtain ⟨m, rest, hw, ht, rfl⟩ := nxt_parts h
  obtain ⟨_, ⟨d0, d1⟩, _, _, _⟩ := hI.mem m (by unfold allR; rw [hw]; simp)
  obtain ⟨g, hg⟩ := Int.eq_ofNat_of_zero_le d0
  have hgl : g < D.fs.length := by omega
  have hgt : m.dst.toNat = g := by rw [hg]; simp
  obtain ⟨P, hP⟩ : ∃ P, stp (nthF D.fs g).rs (nthI r.st g) m.cl = P := ⟨_, rfl⟩
  have hst : (goR D r m rest).1.st = r.st.set g P.1 := by unfold goR; simp only [hgt, hP]
  have hdn : (goR D r m rest).1.dn = r.dn ++ [⟨m, P.1⟩] := by unfold goR; simp only [hgt, hP]
  have hlog : ∀ f : Int, logR (goR D r m rest).1 f = logR r f ++ (if m.dst = f then [(⟨m, P.1⟩ : Dn)] else []) := fun f => by
    unfold logR
    rw [hdn, List.filter_append]
    congr 1
    by_cases e : m.dst = f <;> simp [e, List.filter]
  refine ⟨fun f hf => ?_, fun f hf i hi => ?_⟩
  · rw [hst, hlog, nth_set _ _ _ _ (by rw [hI.ls]; exact hgl)]
    by_cases e : g = f
    · subst e
      rw [if_pos rfl, if_pos hg, fld_append, ← hS.st g hgl, ← hP]
      rfl
    · rw [if_neg e, if_neg (by omega), List.append_nil]
      exact hS.st f hf
  · rw [hlog] at hi ⊢
    by_cases e : m.dst = (f : Int)
    · have e' : g = f := by omega
      subst e'
      rw [if_pos e] at hi ⊢
      by_cases hil : i < (logR r (g : Int)).length
      · rw [List.take_append_of_le_length (by omega), show nthD (logR r (g : Int) ++ [(⟨m, P.1⟩ : Dn)]) i = nthD (logR r (g : Int)) i by simp [nthD, List.getElem?_append_left hil]]
        exact hS.lg g hf i hil
      · have hi2 : i = (logR r (g : Int)).length := by simp at hi; omega
        subst hi2
        rw [List.take_of_length_le (by simp), fld_append, ← hS.st g hf, ← hP]
        simp [nthD, fld]
    · rw [if_neg e, List.append_nil] at hi ⊢
      exact hS.lg f hf i hi
theorem StI.steps {D : Wd} (hD : OkD D) (n : Nat) {r : Rn} (hI : Inv D r) (hS : StI D r) : StI D (stpsR D n r).2 := by
  induction n generalizing r with
  | zero => exact hS
  | succ n ih =>
    cases h : nxt D r with
    | none => rw [stps_none h]; exact hS
    | some p => rw [stps_some h]; exact ih (hI.next hD h) (hS.next hI h)

/-! ### An earlier end -/
def endD (D : Wd) (e : Int) : Wd := ⟨D.pa, D.pc, D.ps, D.fa, D.fc, D.fs, e⟩
/-! ### Other kinds -/
/-! ### Numbers -/
/-- All that waits, and each federate's log behind it, of the first k. -/
def cntL (r : Rn) (k : Nat) : List M := r.wt ++ (List.range k).flatMap (fun f : Nat => (logR r (f : Int)).map (·.m))
end Go.Proofs.YtiaopafkfadmkabGreat
/- Proved: what stays in memory while something is written; things in memory beside each other. -/
namespace Go.Proofs.YtiaopafkfadmkabGreat
open Go.RowKit Go.Shelf
set_option linter.unusedVariables false

/-- w2 is w1 but for new blocks and for what lies in the blocks of S. -/
theorem Fr.trans {S S' : Nat → Prop} {a b c : World} (h : Fr S a b) (k : Fr S' b c) (hs : ∀ i, i < a.heap.size → S' i → S i) : Fr S a c :=
  ⟨k.os.trans h.os, k.tape.trans h.tape, k.output.trans h.output, Nat.le_trans h.size k.size, fun i hi hn => (k.block i (Nat.lt_of_lt_of_le hi h.size) (fun g => hn (hs i hi g))).trans (h.block i hi hn)⟩
theorem Fr.wide {S S' : Nat → Prop} {a b : World} (h : Fr S a b) (hs : ∀ i, S i → S' i) : Fr S' a b :=
  ⟨h.os, h.tape, h.output, h.size, fun i hi hn => h.block i hi fun g => hn (hs i g)⟩
theorem Fr.below {S : Nat → Prop} {a b : World} {B : Nat} (h : Fr S a b) (hB : B ≤ a.heap.size) (hs : ∀ i, S i → B ≤ i) : Below B a b :=
  ⟨h.os, h.tape, h.output, h.size, fun i hi => h.block i (Nat.lt_of_lt_of_le hi hB) fun g => by have := hs i g; omega⟩
theorem Fr.drew {S : Nat → Prop} {a b : World} (h : Fr S a b) : Fr S a b.drew := ⟨h.os, h.tape, h.output, h.size, h.block⟩
theorem Fr.frozen {S : Nat → Prop} {a b : World} (h : Fr S a b) {p : Addr} (hp : p.block < a.heap.size) (hn : ¬ S p.block) : b.frozen? p = a.frozen? p := World.frozen?_of_block (h.block _ hp hn)
/-- A thing in the blocks F has become one in the blocks F2: others stand as they stood, and what is new is new. -/
def Step (F F2 : Nat → Prop) (w w' : World) : Prop := Fr F w w' ∧ ∀ k, F2 k → F k ∨ w.heap.size ≤ k
theorem Step.same {F : Nat → Prop} {w w' : World} (h : Below w.heap.size w w') : Step F F w w' := ⟨Fr.of_below h, fun _ hk => .inl hk⟩
/-- A thing in memory: it lies in its blocks, and stays while others are written. -/
structure Th (P : World → (Nat → Prop) → Prop) : Prop where
  lt : ∀ {w F}, P w F → ∀ k, F k → k < w.heap.size
  keep : ∀ {S w w' F}, P w F → Fr S w w' → (∀ k, F k → ¬ S k) → P w' F
theorem Th.below {P : World → (Nat → Prop) → Prop} (h : Th P) {w w' : World} {F : Nat → Prop} (hp : P w F) (hb : Below w.heap.size w w') : P w' F := h.keep hp (Fr.of_below (S := fun _ => False) hb) (fun _ _ g => g)
/-- Two things beside each other, of blocks made since w, and blocks Z that are none of theirs. -/
def L2 (w W : World) (Z : Nat → Prop) (P Q : World → (Nat → Prop) → Prop) : Prop :=
  ∃ F G, P W F ∧ Q W G ∧ (∀ k, F k → ¬ G k) ∧ (∀ k, F k → w.heap.size ≤ k) ∧ (∀ k, G k → w.heap.size ≤ k) ∧ Below w.heap.size w W ∧ ∀ k, Z k → ¬ F k ∧ ¬ G k ∧ k < W.heap.size ∧ w.heap.size ≤ k
theorem L2.bel {w W : World} {Z : Nat → Prop} {P Q : World → (Nat → Prop) → Prop} (h : L2 w W Z P Q) : Below w.heap.size w W := by
  obtain ⟨F, G, h1, h2, h3, h4, h5, h6, h7⟩ := h
  exact h6
theorem L2.below {w W W2 : World} {Z : Nat → Prop} {P Q : World → (Nat → Prop) → Prop} (h : L2 w W Z P Q) (hP : Th P) (hQ : Th Q) (hb : Below W.heap.size W W2) : L2 w W2 Z P Q := by
  obtain ⟨F, G, h1, h2, h3, h4, h5, h6, h7⟩ := h
  exact ⟨F, G, hP.below h1 hb, hQ.below h2 hb, h3, h4, h5, h6.trans (hb.mono h6.size), fun k hk => ⟨(h7 k hk).1, (h7 k hk).2.1, Nat.lt_of_lt_of_le (h7 k hk).2.2.1 hb.size, (h7 k hk).2.2.2⟩⟩
theorem L2.start {w W2 : World} {P Q : World → (Nat → Prop) → Prop} {F G : Nat → Prop} {W1 : World} (hP : Th P) (h1 : P W1 F) (hF : ∀ k, F k → w.heap.size ≤ k) (b1 : Below w.heap.size w W1) (h2 : Q W2 G) (hG : ∀ k, G k → W1.heap.size ≤ k) (b2 : Below W1.heap.size W1 W2) : L2 w W2 (fun _ => False) P Q :=
  ⟨F, G, hP.below h1 b2, h2, fun k hk e => by have := hP.lt h1 k hk; have := hG k e; omega, hF, fun k hk => Nat.le_trans b1.size (hG k hk), b1.trans (b2.mono b1.size), fun k g => g.elim⟩
theorem L2.swap {w W : World} {Z : Nat → Prop} {P Q : World → (Nat → Prop) → Prop} (h : L2 w W Z P Q) : L2 w W Z Q P := by
  obtain ⟨F, G, h1, h2, h3, h4, h5, h6, h7⟩ := h
  exact ⟨G, F, h2, h1, fun k hk e => h3 k e hk, h5, h4, h6, fun k hk => ⟨(h7 k hk).2.1, (h7 k hk).1, (h7 k hk).2.2.1, (h7 k hk).2.2.2⟩⟩
/-! ### Cells that are written -/
theorem cell_set {W : World} {p : Addr} {v u : Value} (h : W.cell? p = some u) : (W.setCell p v).cell? p = some v := World.cell?_setCell_same' _ _ _ (by rw [h]; rfl)
end Go.Proofs.YtiaopafkfadmkabGreat
