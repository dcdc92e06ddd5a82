/- Proved: how the copy of a federation that a run keeps grows, federate by federate. -/
import Derived.Test.YtmfcbalhabcodaaGreatCln
namespace Go.Proofs.YtmfcbalhabcodaaGreat
open Go.RowKit Go.Shelf
set_option linter.unusedVariables false

def Smk (lo XB : Nat) (v : Value) (k : Nat) : Bool := decide (k < lo) || (decide (k = XB) || decide (v.ownBlock = some k))
theorem Smk_false {lo XB : Nat} {v : Value} {k : Nat} : Smk lo XB v k = false ↔ lo ≤ k ∧ k ≠ XB ∧ v.ownBlock ≠ some k := by
  unfold Smk
  simp only [Bool.or_eq_false_iff, decide_eq_false_iff_not]
  constructor
  · rintro ⟨h1, h2, h3⟩; exact ⟨by omega, h2, h3⟩
  · rintro ⟨h1, h2, h3⟩; exact ⟨by omega, h2, h3⟩
abbrev kcs (pa : Option Addr) (pc : Nat) (d : Wd) (v : Value) : Array Value := #[.slice pa d.ps.length pc, v, .int .i64 d.en]
/-- The copy so far: its box XB, its federates l behind v; what they have lies in other new blocks. -/
structure KK (w : World) (XB : Nat) (pa : Option Addr) (pc : Nat) (d : Wd) (wr : World) (v : Value) (l : List Fd) : Prop where
  bel : Below w.heap.size w wr
  lx : w.heap.size ≤ XB
  bx : wr.heap[XB]? = some (.cells (kcs pa pc d v) 25 (0, 0))
  row : wr.ownsRow w.heap.size 54 7 v l.length (flatG l)
  nv : v.ownBlock ≠ some XB
  p : RdI (mask (Smk w.heap.size XB v) wr) (mask (Smk w.heap.size XB v) wr).heap.size pa d.ps
  ok : ∀ i, i < l.length → okF (mask (Smk w.heap.size XB v) wr) (nthF l i)
  lk : ∀ i, i < l.length → LikF (nthF l i) (nthF d.fs i)
theorem KK.lt {w : World} {XB : Nat} {pa : Option Addr} {pc : Nat} {d : Wd} {wr : World} {v : Value} {l : List Fd} (h : KK w XB pa pc d wr v l) : XB < wr.heap.size := (Array.getElem?_eq_some_iff.1 h.bx).1
theorem KK.cells {w : World} {XB : Nat} {pa : Option Addr} {pc : Nat} {d : Wd} {wr : World} {v : Value} {l : List Fd} (h : KK w XB pa pc d wr v l) : wr.cell? ⟨XB, 0, none⟩ = some (.slice pa d.ps.length pc) ∧ wr.cell? ⟨XB, 1, none⟩ = some v ∧ wr.cell? ⟨XB, 2, none⟩ = some (.int .i64 d.en) ∧ ∀ j, wr.frozen? ⟨XB, j, none⟩ = false := by
  have hb := h.bx
  refine ⟨?_, ?_, ?_, fun j => ?_⟩ <;> simp [World.cell?, World.frozen?, hb, kcs]
theorem own_lt {w : World} {b0 e size n : Nat} {v : Value} {xs : List Value} (h : w.ownsRow b0 e size v n xs) {g : Nat} (hg : v.ownBlock = some g) : g < w.heap.size ∧ b0 ≤ g := by
  rcases h.2 with ⟨rfl, hn⟩ | ⟨g', cap, cur, rfl, hb, hh, _⟩
  · simp [Value.ownBlock] at hg
  · simp [Value.ownBlock] at hg
    subst hg
    exact ⟨(Array.getElem?_eq_some_iff.1 hh).1, hb⟩
theorem own_below {w W : World} {b0 e size n : Nat} {v : Value} {xs : List Value} (h : w.ownsRow b0 e size v n xs) (hb : Below w.heap.size w W) : W.ownsRow b0 e size v n xs := by
  refine ⟨h.1, ?_⟩
  rcases h.2 with g | ⟨g, cap, cur, h1, h2, h3, h4⟩
  · exact .inl g
  · exact .inr ⟨g, cap, cur, h1, h2, (hb.block g (Array.getElem?_eq_some_iff.1 h3).1).trans h3, h4⟩
theorem own_keep {S : Nat → Prop} {w W : World} {b0 e size n : Nat} {v : Value} {xs : List Value} (h : w.ownsRow b0 e size v n xs) (hf : Fr S w W) (hs : ∀ g, v.ownBlock = some g → ¬ S g) : W.ownsRow b0 e size v n xs := by
  refine ⟨h.1, ?_⟩
  rcases h.2 with g | ⟨g, cap, cur, h1, h2, h3, h4⟩
  · exact .inl g
  · subst h1
    exact .inr ⟨g, cap, cur, rfl, h2, (hf.block g (Array.getElem?_eq_some_iff.1 h3).1 (hs g rfl)).trans h3, h4⟩
theorem mask_below {S : Nat → Bool} {w W : World} (hb : Below w.heap.size w W) : Sub (mask S w) (mask S W) := sub_mask hb.size (fun k hk hS => ⟨hS, hb.block k hk⟩)
theorem KK.below {w : World} {XB : Nat} {pa : Option Addr} {pc : Nat} {d : Wd} {wr W : World} {v : Value} {l : List Fd} (h : KK w XB pa pc d wr v l) (hb : Below wr.heap.size wr W) : KK w XB pa pc d W v l :=
  ⟨h.bel.trans (hb.mono h.bel.size), h.lx, (hb.block XB h.lt).trans h.bx, own_below h.row hb, h.nv, h.p.sub (mask_below hb), fun i hi => (h.ok i hi).sub (mask_below hb), h.lk⟩
/-- As it begins. -/
theorem KK.start {w w1 : World} {pa : Option Addr} {pc : Nat} {d : Wd} (hb : Below w.heap.size w w1) (hr : w1.ownsRow w.heap.size 3 1 (.slice pa d.ps.length pc) d.ps.length (d.ps.map (Value.int .i64))) : KK w w1.heap.size pa pc d (w1.alloc (.cells (kcs pa pc d (.slice none 0 0)) 25)) (.slice none 0 0) [] := by
  have hb1 := al w1 (.cells (kcs pa pc d (.slice none 0 0)) 25)
  refine ⟨hb.trans (hb1.mono hb.size), hb.size, World.alloc_heap_new w1 _, World.ownsRow_nil _ _ _ _, by simp [Value.ownBlock], ?_, fun i hi => by simp at hi, fun i hi => by simp at hi⟩
  have hr1 := own_below hr hb1
  refine RdI.mask (rdI_row hr1) (fun g off e => ?_)
  subst e
  rw [Smk_false]
  rcases hr.2 with ⟨e, _⟩ | ⟨g', cap, cur, e, hb2, hg, _⟩
  · simp at e
  · simp at e
    obtain ⟨⟨rfl, rfl⟩, rfl⟩ := e
    have := (Array.getElem?_eq_some_iff.1 hg).1
    exact ⟨hb2, by omega, by simp [Value.ownBlock]⟩
theorem KK.begin {w wx : World} {XB : Nat} {pa : Option Addr} {pc : Nat} {d : Wd} (hb : Below w.heap.size w wx) (lx : w.heap.size ≤ XB) (bx : wx.heap[XB]? = some (.cells (kcs pa pc d (.slice none 0 0)) 25 (0, 0))) (hr : wx.ownsRow w.heap.size 3 1 (.slice pa d.ps.length pc) d.ps.length (d.ps.map (Value.int .i64))) (hne : (Value.slice pa d.ps.length pc).ownBlock ≠ some XB) : KK w XB pa pc d wx (.slice none 0 0) [] := by
  refine ⟨hb, lx, bx, World.ownsRow_nil _ _ _ _, by simp [Value.ownBlock], ?_, fun i hi => by simp at hi, fun i hi => by simp at hi⟩
  refine RdI.mask (rdI_row hr) (fun g off e => ?_)
  subst e
  rw [Smk_false]
  rcases hr.2 with ⟨e, _⟩ | ⟨g', cap, cur, e, hb2, hg, _⟩
  · simp at e
  · simp at e
    obtain ⟨⟨rfl, rfl⟩, rfl⟩ := e
    exact ⟨hb2, fun e => hne (by rw [← e]; rfl), by simp [Value.ownBlock]⟩
theorem own_since {w : World} {b0 b1 e size n : Nat} {v : Value} {xs : List Value} (h : w.ownsRow b1 e size v n xs) (hb : b0 ≤ b1) : w.ownsRow b0 e size v n xs := by
  refine ⟨h.1, ?_⟩
  rcases h.2 with g | ⟨g, cap, cur, h1, h2, h3, h4⟩
  · exact .inl g
  · exact .inr ⟨g, cap, cur, h1, by omega, h3, h4⟩
/-- The box that was made ahead of what goes into it. -/
theorem KK.begin3 {w w1 : World} {XB b1 : Nat} {pa : Option Addr} {pc : Nat} {d : Wd} (hb : Below w.heap.size w w1) (lx : w.heap.size ≤ XB) (lb : XB < b1) (bx : w1.heap[XB]? = some (.cells #[.slice none 0 0, .slice none 0 0, .int .i64 0] 25 (0, 0))) (hr : w1.ownsRow b1 3 1 (.slice pa d.ps.length pc) d.ps.length (d.ps.map (Value.int .i64))) :
    KK w XB pa pc d (((w1.setCell ⟨XB, 0, none⟩ (.slice pa d.ps.length pc)).setCell ⟨XB, 1, none⟩ (.slice none 0 0)).setCell ⟨XB, 2, none⟩ (.int .i64 d.en)) (.slice none 0 0) [] := by
  have e1 := heap_setCell_same w1 XB 0 _ _ (.slice pa d.ps.length pc) bx
  have e2 := heap_setCell_same _ XB 1 _ _ (.slice none 0 0) e1
  have e3 := heap_setCell_same _ XB 2 _ _ (.int .i64 d.en) e2
  have hne : (Value.slice pa d.ps.length pc).ownBlock ≠ some XB := fun e => by have := (own_lt hr e).2; omega
  have f1 : Fr (fun k => k = XB) w1 (((w1.setCell ⟨XB, 0, none⟩ (.slice pa d.ps.length pc)).setCell ⟨XB, 1, none⟩ (.slice none 0 0)).setCell ⟨XB, 2, none⟩ (.int .i64 d.en)) := by
    have g0 : Fr (fun k => k = XB) w1 w1 := Fr.refl _ w1
    have g1 := g0.setCell ⟨XB, 0, none⟩ (.slice pa d.ps.length pc) rfl
    have g2 := g1.setCell ⟨XB, 1, none⟩ (.slice none 0 0) rfl
    exact g2.setCell ⟨XB, 2, none⟩ (.int .i64 d.en) rfl
  refine KK.begin (((hb.setCell (p := ⟨XB, 0, none⟩) lx _).setCell (p := ⟨XB, 1, none⟩) lx _).setCell (p := ⟨XB, 2, none⟩) lx _) lx (e3.trans rfl) (own_since (own_keep hr f1 (fun g hg e => hne (by rw [hg, e]))) (by omega)) hne
/-- One federate more. -/
theorem KK.step {w : World} {XB : Nat} {pa : Option Addr} {pc : Nat} {d : Wd} {wr W : World} {v : Value} {l : List Fd} (h0 : KK w XB pa pc d wr v l) (hb : Below wr.heap.size wr W) (g : Fd) (nb : Nat) (hg : RdG W (some ⟨nb, 0, none⟩) [g]) (hgo : okF (mask (fun k => decide (k < wr.heap.size)) W) g) (hgl : LikF g (nthF d.fs l.length)) (hl : l.length ≤ 1000) (ty : TypeId) (X : List Fd) (hX : l ++ [g] = X) :
    ∃ a' c' w', (Builtin.append_ #[23, 23] ty #[v, .slice (some ⟨nb, 0, none⟩) 1 1]).run Tryz.prog W = .ok (.slice a' X.length c') w' ∧ w'.frozen? ⟨XB, 1, none⟩ = false ∧ w'.cell? ⟨XB, 1, none⟩ = some v ∧ KK w XB pa pc d (w'.setCell ⟨XB, 1, none⟩ (.slice a' X.length c')) (.slice a' X.length c') X := by
  have h := h0.below hb
  obtain ⟨i0, hi0, hz0, hz1, hz2⟩ := info_parts infoG
  obtain ⟨v', w', hr, h3, h4, h5, h6⟩ := run_append_own_at (P := Tryz.prog) W w.heap.size 23 ty 54 i0 _ 7 120 Tryz.underlying23 hi0 hz0 hz1 hz2 rfl (by decide) v l.length (flatG l) h.row ⟨nb, 0, none⟩ 1 1 (flatG [g]) (flatG_len [g]) (fun j u hj => by
    rw [Addr.add_lit]
    exact hg.flat j u hj) (flatG_one _) (by unfold maxLen; omega) (by omega) h.bel.size
  have hro : w'.ownsRow w.heap.size 54 7 v' X.length (flatG X) := by
    rw [← hX, flatG_append, List.length_append]
    exact h3
  have hbx : w'.heap[XB]? = some (.cells (kcs pa pc d v) 25 (0, 0)) := (h4.block XB h.lt (fun e => h.nv e.symm)).trans h.bx
  have hv' : ∀ k, v'.ownBlock = some k → v.ownBlock = some k ∨ W.heap.size ≤ k := fun k e => by
    rcases h6 with h6 | h6
    · exact .inl (h6.symm.trans e)
    · right
      rw [h6] at e
      simp at e
      omega
  have hnv : v'.ownBlock ≠ some XB := fun e => by
    rcases hv' XB e with g | g
    · exact h.nv g
    · have := h.lt; omega
  obtain ⟨a', c', rfl⟩ := shape_of hro
  have hbl : ∀ k, k < W.heap.size → Smk w.heap.size XB v k = false → Smk w.heap.size XB (.slice a' X.length c') k = false ∧ (w'.setCell ⟨XB, 1, none⟩ (.slice a' X.length c')).heap[k]? = W.heap[k]? := fun k hk hS => by
    obtain ⟨e1, e2, e3⟩ := Smk_false.1 hS
    refine ⟨Smk_false.2 ⟨e1, e2, fun e => (hv' k e).elim e3 (fun g => by omega)⟩, ?_⟩
    rw [Below.heap_setCell _ _ _ k (fun e => e2 e)]
    exact h4.block k hk (fun e => e3 e.symm)
  have hsz : W.heap.size ≤ (w'.setCell ⟨XB, 1, none⟩ (.slice a' X.length c')).heap.size := by simpa using h4.size
  have hsub : Sub (mask (Smk w.heap.size XB v) W) (mask (Smk w.heap.size XB (.slice a' X.length c')) (w'.setCell ⟨XB, 1, none⟩ (.slice a' X.length c'))) := sub_mask hsz hbl
  have hsubg : Sub (mask (fun k => decide (k < wr.heap.size)) W) (mask (Smk w.heap.size XB v) W) := sub_mask (Nat.le_refl _) (fun k hk hS => by
    have hk2 : wr.heap.size ≤ k := by simpa using hS
    have h1 := h0.bel.size
    have h2 := h0.lt
    exact ⟨Smk_false.2 ⟨by omega, by omega, fun e => by have := (own_lt h0.row e).1; omega⟩, rfl⟩)
  have hnth : ∀ i, i < X.length → nthF X i = if i < l.length then nthF l i else g := fun i hi => by
    rw [← hX] at hi ⊢
    unfold nthF
    by_cases e : i < l.length
    · rw [if_pos e]; simp [List.getElem?_append_left e]
    · have e2 : i = l.length := by simp at hi; omega
      subst e2
      simp
  have hXl : X.length = l.length + 1 := by rw [← hX]; simp
  refine ⟨a', c', w', hr, by simp [World.frozen?, hbx], by simp [World.cell?, hbx, kcs], ⟨?_, h.lx, ?_, ?_, hnv, h.p.sub hsub, fun i hi => ?_, fun i hi => ?_⟩⟩
  · have := h.bel.grown h4 h.bel.size (fun k e => (own_lt h.row e).2)
    exact this.setCell (p := ⟨XB, 1, none⟩) h.lx _
  · rw [heap_setCell_same w' XB 1 _ _ _ hbx]
    rfl
  · refine World.ownsRow.kept (row := some XB) hro ⟨rfl, rfl, rfl, by simp, fun k _ hk => Below.heap_setCell _ _ _ k (fun e => hk (by rw [e]))⟩ (.inr hnv)
  · rw [hnth i hi]
    split
    · exact (h.ok i ‹_›).sub hsub
    · exact (hgo.sub hsubg).sub hsub
  · rw [hnth i hi]
    split
    · exact h.lk i ‹_›
    · have e2 : i = l.length := by omega
      subst e2
      exact hgl
/-- The whole copy. -/
theorem KK.done {w : World} {XB : Nat} {pa : Option Addr} {pc : Nat} {d : Wd} {wr : World} {v : Value} {l : List Fd} (h : KK w XB pa pc d wr v l) (hl : l.length = d.fs.length) (hd : d.ps.length ≤ 50 ∧ d.fs.length ≤ 20) :
    ∃ D' : Wd, v = .slice D'.fa D'.fs.length D'.fc ∧ D'.pa = pa ∧ D'.pc = pc ∧ Lik D' d ∧ Ww (mask (fun k => decide (k < w.heap.size)) wr) D' := by
  obtain ⟨a, c, rfl⟩ := shape_of h.row
  have hsub : Sub (mask (Smk w.heap.size XB (.slice a l.length c)) wr) (mask (fun k => decide (k < w.heap.size)) wr) := sub_mask (Nat.le_refl _) (fun k hk hS => ⟨by have := (Smk_false.1 hS).1; simp; omega, rfl⟩)
  refine ⟨⟨pa, pc, d.ps, a, c, l, d.en⟩, rfl, rfl, rfl, ⟨rfl, rfl, hl, fun i hi => h.lk i (by omega)⟩, ⟨h.p.sub hsub, ⟨?_, fun f hf => ?_⟩, hd.1, by show l.length ≤ 20; omega, fun f hf => ?_⟩⟩
  · intro hne
    have hrow := h.row
    rcases h.row.2 with ⟨e, hn⟩ | ⟨g, cap, cur, e, hb, hg, _⟩
    · exact absurd (List.length_eq_zero_iff.1 hn) hne
    · simp at e
      obtain ⟨rfl, rfl⟩ := e
      refine ⟨g, 0, rfl, by rw [mask_size]; exact (Array.getElem?_eq_some_iff.1 hg).1, fun i hi c hc => ?_⟩
      rw [mask_cell_of (p := ⟨g, 0 + i * 7 + c, none⟩) (by simp; omega), Nat.zero_add, World.ownsRow.cellAt hrow _ (by have : i < l.length := hi; omega), flatG_get l i c hi hc]
      rfl
  · obtain ⟨i, hi, rfl⟩ := (memF l f).1 hf
    exact (h.ok i hi).sub hsub
  · obtain ⟨i, hi, rfl⟩ := (memF l f).1 hf
    exact (h.lk i hi).lt

/-! ### One federate's copy -/
abbrev qcs (g : Fd) (ra : Option Addr) (rc : Nat) (pa : Option Addr) (pc : Nat) (sa : Option Addr) (sc : Nat) : Array Value := #[.int .i64 g.kd, .int .i64 g.lk, .int .i64 g.st, .slice ra g.rs.length rc, .slice pa g.ps.length pc, .slice sa g.ss.length sc, .slice none 0 0]
/-- The classes are copied: the box FB. -/
structure Q1 (wr : World) (FB : Nat) (g : Fd) (pa : Option Addr) (pc : Nat) (sa : Option Addr) (sc : Nat) (wx : World) : Prop where
  bel : Below wr.heap.size wr wx
  fb : wr.heap.size = FB
  bx : wx.heap[FB]? = some (.cells (qcs g g.ra g.rc pa pc sa sc) 54 (0, 0))
  p : wx.ownsRow (FB + 1) 3 1 (.slice pa g.ps.length pc) g.ps.length (g.ps.map (Value.int .i64))
  s : wx.ownsRow (FB + 1) 3 1 (.slice sa g.ss.length sc) g.ss.length (g.ss.map (Value.int .i64))
theorem Q1.make {wr W6 w7 w8 : World} {FB : Nat} {g : Fd} {pa : Option Addr} {pc : Nat} {sa : Option Addr} {sc : Nat} (hfb : wr.heap.size = FB) (l6 : FB < W6.heap.size) (hb6 : Below wr.heap.size wr W6) (hb7 : Below W6.heap.size W6 w7) (hb8 : Below w7.heap.size w7 w8) (hx : w8.heap[FB]? = some (.cells (qcs g g.ra g.rc g.pa g.pc g.sa g.sc) 54 (0, 0)))
    (o7 : w7.ownsRow W6.heap.size 3 1 (.slice pa g.ps.length pc) g.ps.length (g.ps.map (Value.int .i64))) (o8 : w8.ownsRow w7.heap.size 3 1 (.slice sa g.ss.length sc) g.ss.length (g.ss.map (Value.int .i64))) :
    Q1 wr FB g pa pc sa sc ((w8.setCell ⟨FB, 4, none⟩ (.slice pa g.ps.length pc)).setCell ⟨FB, 5, none⟩ (.slice sa g.ss.length sc)) := by
  have e1 := heap_setCell_same w8 FB 4 _ _ (.slice pa g.ps.length pc) hx
  have e2 := heap_setCell_same _ FB 5 _ _ (.slice sa g.ss.length sc) e1
  have hb := (hb6.trans (hb7.mono hb6.size)).trans (hb8.mono (Nat.le_trans hb6.size hb7.size))
  have g0 : Fr (fun k => k = FB) w8 w8 := Fr.refl _ w8
  have g1 := g0.setCell ⟨FB, 4, none⟩ (.slice pa g.ps.length pc) rfl
  have g2 := g1.setCell ⟨FB, 5, none⟩ (.slice sa g.ss.length sc) rfl
  have s7 := hb7.size
  refine ⟨(hb.setCell (p := ⟨FB, 4, none⟩) (Nat.le_of_eq hfb) _).setCell (p := ⟨FB, 5, none⟩) (Nat.le_of_eq hfb) _, hfb, e2.trans rfl, ?_, ?_⟩
  · exact own_since (own_keep (own_below o7 hb8) g2 (fun k hk e => by have := (own_lt o7 hk).2; omega)) (by omega)
  · exact own_since (own_keep o8 g2 (fun k hk e => by have := (own_lt o8 hk).2; omega)) (by omega)
/-- The rules are copied, what they send of the first j. -/
structure QQ (wr : World) (FB : Nat) (g : Fd) (ra : Option Addr) (rc : Nat) (pa : Option Addr) (pc : Nat) (sa : Option Addr) (sc : Nat) (wq : World) (q : List Rl) (j : Nat) : Prop where
  bel : Below wr.heap.size wr wq
  fb : wr.heap.size = FB
  bx : wq.heap[FB]? = some (.cells (qcs g ra rc pa pc sa sc) 54 (0, 0))
  row : wq.ownsRow (FB + 1) 56 4 (.slice ra g.rs.length rc) g.rs.length (flatR q)
  p : RdI (mask (Smk FB FB (.slice ra g.rs.length rc)) wq) (mask (Smk FB FB (.slice ra g.rs.length rc)) wq).heap.size pa g.ps
  s : RdI (mask (Smk FB FB (.slice ra g.rs.length rc)) wq) (mask (Smk FB FB (.slice ra g.rs.length rc)) wq).heap.size sa g.ss
  ql : q.length = g.rs.length
  dn : ∀ i, i < j → RdO (mask (Smk FB FB (.slice ra g.rs.length rc)) wq) (nthR q i).sa (nthR q i).os
  lk : ∀ i, i < g.rs.length → LikR (nthR q i) (nthR g.rs i)
  un : ∀ i, j ≤ i → i < g.rs.length → nthR q i = nthR g.rs i
theorem QQ.lt {wr : World} {FB : Nat} {g : Fd} {ra : Option Addr} {rc : Nat} {pa : Option Addr} {pc : Nat} {sa : Option Addr} {sc : Nat} {wq : World} {q : List Rl} {j : Nat} (h : QQ wr FB g ra rc pa pc sa sc wq q j) : FB < wq.heap.size := (Array.getElem?_eq_some_iff.1 h.bx).1
theorem rdI_mask {w : World} {b0 b1 : Nat} {a : Option Addr} {c : Nat} {l : List Int} {S : Nat → Bool} (h : w.ownsRow b0 3 1 (.slice a l.length c) l.length (l.map (Value.int .i64))) (hS : ∀ k, (Value.slice a l.length c).ownBlock = some k → S k = false) : RdI (mask S w) (mask S w).heap.size a l := by
  by_cases hl : l = []
  · exact fun g => absurd hl g
  · refine RdI.mask (rdI_row h) (fun g off e => ?_)
    subst e
    rcases h.2 with ⟨e, _⟩ | ⟨g', cap, cur, e, _⟩
    · simp at e
    · simp at e
      obtain ⟨⟨rfl, rfl⟩, rfl⟩ := e
      exact hS _ rfl
/-- As it begins. -/
theorem QQ.start {wr wx w9 : World} {FB : Nat} {g : Fd} {ra : Option Addr} {rc : Nat} {pa : Option Addr} {pc : Nat} {sa : Option Addr} {sc : Nat} (h : Q1 wr FB g pa pc sa sc wx) (hb : Below wx.heap.size wx w9) (ho : w9.ownsRow wx.heap.size 56 4 (.slice ra g.rs.length rc) g.rs.length (flatR g.rs)) : QQ wr FB g ra rc pa pc sa sc (w9.setCell ⟨FB, 3, none⟩ (.slice ra g.rs.length rc)) g.rs 0 := by
  have lF : FB < wx.heap.size := (Array.getElem?_eq_some_iff.1 h.bx).1
  have e0 := (hb.block FB lF).trans h.bx
  have e1 := heap_setCell_same w9 FB 3 _ _ (.slice ra g.rs.length rc) e0
  have g0 : Fr (fun k => k = FB) w9 w9 := Fr.refl _ w9
  have g1 := g0.setCell ⟨FB, 3, none⟩ (.slice ra g.rs.length rc) rfl
  have hbl := h.bel.trans (hb.mono h.bel.size)
  have hfb := h.fb
  have hra : ∀ k, (Value.slice ra g.rs.length rc).ownBlock = some k → wx.heap.size ≤ k := fun k e => (own_lt ho e).2
  have hS : ∀ k, FB + 1 ≤ k → k < wx.heap.size → Smk FB FB (.slice ra g.rs.length rc) k = false := fun k h1 h2 => Smk_false.2 ⟨by omega, by omega, fun e => by have := hra k e; omega⟩
  refine ⟨hbl.setCell (p := ⟨FB, 3, none⟩) (Nat.le_of_eq hfb) _, hfb, e1.trans rfl, ?_, ?_, ?_, rfl, fun i hi => absurd hi (Nat.not_lt_zero _), fun i hi => ⟨rfl, rfl, rfl, rfl⟩, fun i _ _ => rfl⟩
  · exact own_since (own_keep ho g1 (fun k hk e => by have := hra k hk; omega)) (by omega)
  · refine rdI_mask (b0 := FB + 1) (b1 := 0) (own_keep (own_below h.p hb) g1 (fun k hk e => by have := (own_lt h.p hk).2; omega)) (fun k hk => hS k (own_lt h.p hk).2 (own_lt h.p hk).1)
  · refine rdI_mask (b0 := FB + 1) (b1 := 0) (own_keep (own_below h.s hb) g1 (fun k hk e => by have := (own_lt h.s hk).2; omega)) (fun k hk => hS k (own_lt h.s hk).2 (own_lt h.s hk).1)
theorem QQ.below {wr : World} {FB : Nat} {g : Fd} {ra : Option Addr} {rc : Nat} {pa : Option Addr} {pc : Nat} {sa : Option Addr} {sc : Nat} {wq W : World} {q : List Rl} {j : Nat} (h : QQ wr FB g ra rc pa pc sa sc wq q j) (hb : Below wq.heap.size wq W) : QQ wr FB g ra rc pa pc sa sc W q j :=
  ⟨h.bel.trans (hb.mono h.bel.size), h.fb, (hb.block FB h.lt).trans h.bx, own_below h.row hb, h.p.sub (mask_below hb), h.s.sub (mask_below hb), h.ql, fun i hi => (h.dn i hi).sub (mask_below hb), h.lk, h.un⟩
/-- What one rule sends is copied. -/
theorem QQ.step {wr : World} {FB : Nat} {g : Fd} {gb : Nat} {rc : Nat} {pa : Option Addr} {pc : Nat} {sa : Option Addr} {sc : Nat} {wq W : World} {q : List Rl} {j : Nat} (h0 : QQ wr FB g (some ⟨gb, 0, none⟩) rc pa pc sa sc wq q j) (hb : Below wq.heap.size wq W) (hj : j < g.rs.length) {a' : Option Addr} {c' : Nat} (ho : W.ownsRow wq.heap.size 64 3 (.slice a' (nthR q j).os.length c') (nthR q j).os.length (flatO (nthR q j).os)) :
    QQ wr FB g (some ⟨gb, 0, none⟩) rc pa pc sa sc (W.setCell ⟨gb, j * 4 + 3, none⟩ (.slice a' (nthR q j).os.length c')) (q.set j ⟨(nthR q j).st, (nthR q j).cl, (nthR q j).nx, a', c', (nthR q j).os⟩) (j + 1) := by
  have h := h0.below hb
  have hrow := h.row
  have hgb := own_lt hrow (g := gb) rfl
  have hgq := (own_lt h0.row (g := gb) rfl).1
  obtain ⟨hst, _⟩ := World.ownsRow.stored hrow (j * 4 + 3) (.slice a' (nthR q j).os.length c')
  rw [flatR_set q j (by rw [h.ql]; exact hj)] at hst
  have g0 : Fr (fun k => k = gb) W W := Fr.refl _ W
  have g1 := g0.setCell ⟨gb, j * 4 + 3, none⟩ (.slice a' (nthR q j).os.length c') rfl
  have hfb := h.fb
  have hsub : Sub (mask (Smk FB FB (.slice (some ⟨gb, 0, none⟩) g.rs.length rc)) W) (mask (Smk FB FB (.slice (some ⟨gb, 0, none⟩) g.rs.length rc)) (W.setCell ⟨gb, j * 4 + 3, none⟩ (.slice a' (nthR q j).os.length c'))) := sub_mask (by simp) (fun k hk hS => ⟨hS, g1.block k hk (fun e => (Smk_false.1 hS).2.2 (by rw [e]; rfl))⟩)
  refine ⟨h.bel.setCell (p := ⟨gb, j * 4 + 3, none⟩) (by have := hgb.2; show _ ≤ gb; omega) _, hfb, (g1.block FB h.lt (by omega)).trans h.bx, hst, h.p.sub hsub, h.s.sub hsub, by rw [List.length_set]; exact h.ql, fun i hi => ?_, fun i hi => ?_, fun i h1 h2 => ?_⟩
  · rw [nthR_set _ _ _ _ (by rw [h.ql]; exact hj)]
    by_cases e : j = i
    · rw [if_pos e]
      have hrd : RdO W a' (nthR q j).os := by
        have h0 := ho
        rcases ho.2 with ⟨e, hn⟩ | ⟨g', cap, cur, e, _, hg, _⟩
        · exact fun g => absurd (List.length_eq_zero_iff.1 hn) g
        · simp at e
          obtain ⟨rfl, rfl⟩ := e
          refine fun _ => ⟨g', 0, rfl, (Array.getElem?_eq_some_iff.1 hg).1, fun i hi c hc => ?_⟩
          rw [Nat.zero_add, World.ownsRow.cellAt h0 _ (by omega), flatO_get _ i c hi hc]
      refine RdO.sub (RdO.mask hrd (fun k off e2 => ?_)) hsub
      subst e2
      rcases ho.2 with ⟨e3, _⟩ | ⟨g', cap, cur, e3, hb2, _⟩
      · simp at e3
      · simp at e3
        obtain ⟨⟨rfl, rfl⟩, rfl⟩ := e3
        exact Smk_false.2 ⟨by have := h0.lt; omega, by have := h0.lt; omega, fun e4 => by simp [Value.ownBlock] at e4; omega⟩
    · rw [if_neg e]
      exact (h.dn i (by omega)).sub hsub
  · rw [nthR_set _ _ _ _ (by rw [h.ql]; exact hj)]
    split
    · rename_i e
      subst e
      exact h.lk j hi
    · exact h.lk i hi
  · rw [nthR_set _ _ _ _ (by rw [h.ql]; exact hj), if_neg (by omega)]
    exact h.un i (by omega) h2
/-- The federate that comes of it. -/
def cpF (g : Fd) (ra : Option Addr) (rc : Nat) (pa : Option Addr) (pc : Nat) (sa : Option Addr) (sc : Nat) (q : List Rl) : Fd := ⟨g.kd, g.lk, g.st, ra, rc, q, pa, pc, g.ps, sa, sc, g.ss, none, 0, []⟩
theorem QQ.done {wr : World} {FB : Nat} {g : Fd} {ra : Option Addr} {rc : Nat} {pa : Option Addr} {pc : Nat} {sa : Option Addr} {sc : Nat} {wq : World} {q : List Rl} (h : QQ wr FB g ra rc pa pc sa sc wq q g.rs.length) (hlt : LtF g) (hi64 : ∀ r ∈ g.rs, i64 r.st ∧ i64 r.cl) :
    okF (mask (fun k => decide (k < wr.heap.size)) wq) (cpF g ra rc pa pc sa sc q) ∧ LikF (cpF g ra rc pa pc sa sc q) g := by
  have hfb := h.fb
  have hsub : Sub (mask (Smk FB FB (.slice ra g.rs.length rc)) wq) (mask (fun k => decide (k < wr.heap.size)) wq) := sub_mask (Nat.le_refl _) (fun k hk hS => ⟨by have := (Smk_false.1 hS).1; simp; omega, rfl⟩)
  have hql := h.ql
  refine ⟨⟨⟨?_, fun r hr => ?_⟩, h.p.sub hsub, h.s.sub hsub, fun g => absurd rfl g⟩, ⟨rfl, rfl, h.ql, fun i hi => h.lk i hi, ⟨⟨by show q.length ≤ 60; rw [h.ql]; exact hlt.r.1, fun r hr => ?_⟩, hlt.p, hlt.s, by simp [cpF]⟩⟩⟩
  · have hrow := h.row
    rw [← hql] at hrow
    have hc : CsR (mask (fun k => decide (k < wr.heap.size)) wq) ra q := CsR.mask (csR_row hrow) (fun k off e => by
      subst e
      rcases hrow.2 with ⟨e, _⟩ | ⟨g', cap, cur, e, hb, _⟩
      · simp at e
      · simp at e
        obtain ⟨⟨rfl, rfl⟩, rfl⟩ := e
        simp
        omega)
    exact hc
  · obtain ⟨i, hi, rfl⟩ := (memR q r).1 hr
    rw [hql] at hi
    obtain ⟨h1, h2, _, _⟩ := h.lk i hi
    obtain ⟨h5, h6⟩ := hi64 (nthR g.rs i) (nthR_mem hi)
    exact ⟨by rw [h1]; exact h5, by rw [h2]; exact h6, (h.dn i hi).sub hsub⟩
  · obtain ⟨i, hi, rfl⟩ := (memR q r).1 hr
    rw [hql] at hi
    rw [(h.lk i hi).2.2.2]
    exact hlt.r.2 _ (nthR_mem hi)
theorem rdG_new (w : World) (g : Fd) : RdG (w.alloc (.cells (fcs g) 54)) (some ⟨w.heap.size, 0, none⟩) [g] := fun _ => ⟨w.heap.size, 0, rfl, by simp, fun i hi c hc => by
  have hi0 : i = 0 := by simp at hi; omega
  subst hi0
  rw [World.cell?_alloc_new]
  rcases (by omega : c = 0 ∨ c = 1 ∨ c = 2 ∨ c = 3 ∨ c = 4 ∨ c = 5 ∨ c = 6) with rfl | rfl | rfl | rfl | rfl | rfl | rfl <;> rfl⟩
end Go.Proofs.YtmfcbalhabcodaaGreat
