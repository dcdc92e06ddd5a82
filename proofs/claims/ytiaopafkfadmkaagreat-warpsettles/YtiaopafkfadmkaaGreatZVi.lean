/- Joined: the texts that follow, each with its own sentence. -/
import Derived.Test.YtiaopafkfadmkaaGreatZJg
set_option linter.unusedVariables false
set_option maxRecDepth 100000
namespace Go.Proofs.YtiaopafkfadmkaaGreat
open Go.RowKit Go.Shelf
theorem cellN {W : World} {b : Nat} {cs : Array Value} {T : TypeId} {fz : Nat × Nat} (h : W.heap[b]? = some (.cells cs T fz)) (i : Nat) : W.cell? ⟨b, i, none⟩ = cs[i]? := by simp [World.cell?, h]
theorem frN (W : World) (nb i : Nat) (u : Value) : Fr (fun k => k = nb) W (W.setCell ⟨nb, i, none⟩ u) := (Fr.refl _ W).setCell _ _ rfl
theorem below_drew (W : World) : Below W.heap.size W W.drew := ⟨rfl, rfl, rfl, Nat.le_refl _, fun _ _ => rfl⟩
theorem stp_three {D : Wd} {w : World} (h : Ww w D) {f : Nat} (hf : f < D.fs.length) : RdR w (nthF D.fs f).ra (nthF D.fs f).rs ∧ Lt (nthF D.fs f).rs := by
 have hm : nthF D.fs f ∈ D.fs := by unfold nthF; simp [hf]
 exact ⟨(h.f.2 _ hm).r, (h.lt _ hm).r⟩
theorem own_rdO {W : World} {b0 c : Nat} {a : Option Addr} {l : List O} (h : W.ownsRow b0 147 3 (.slice a l.length c) l.length (flatO l)) : RdO W a l := by
 have h0 := h
 rcases h.2 with ⟨e, hn⟩ | ⟨g, cap, cur, e, _, hg, _⟩
 ·exact fun g => absurd (List.length_eq_zero_iff.1 hn) g
 ·simp at e
  obtain ⟨rfl, rfl⟩ := e
  refine fun _ => ⟨g, 0, rfl, (Array.getElem?_eq_some_iff.1 hg).1, fun i hi c hc => ?_⟩
  rw [Nat.zero_add, World.ownsRow.cellAt h0 _ (by omega), flatO_get l i c hi hc]
theorem wld_n {D : Wd} (h : wldE D = (-1, 0)) : 1 ≤ D.fs.length ∧ D.fs.length ≤ 8 := by
 have := wld_ok (N := -1) h
 exact ⟨this.2.1, this.2.2.1⟩
structure LikP (f : Nat) (D' D : Wd) : Prop where
 ps : D'.ps = D.ps
 en : D'.en = D.en
 fl : D'.fs.length = D.fs.length
 kd : ∀ i, i < D.fs.length → (nthF D'.fs i).kd = (nthF D.fs i).kd
 ss : ∀ i, i < D.fs.length → (nthF D'.fs i).ss = (nthF D.fs i).ss
 lk : (nthF D'.fs f).lk = (nthF D.fs f).lk
 rl : (nthF D'.fs f).rs.length = (nthF D.fs f).rs.length
 rs : ∀ i, i < (nthF D.fs f).rs.length → LikR (nthR (nthF D'.fs f).rs i) (nthR (nthF D.fs f).rs i)
theorem LikP.spr {f : Nat} {D' D : Wd} (h : LikP f D' D) (p q n b : Int) (os : List O) : spr D' p q n b os = spr D p q n b os := by
 have hr : ∀ f c, rts D' f c = rts D f c := fun f c => by
  unfold rts
  rw [h.fl]
  exact rtsF_congr h.ps h.ss f c _ (Nat.le_refl _)
 unfold Go.Proofs.YtiaopafkfadmkaaGreat.spr sprF oneM
 simp only [hr]
end Go.Proofs.YtiaopafkfadmkaaGreat
namespace Go.Proofs.YtiaopafkfadmkaaGreat
open Go.RowKit Go.Shelf
def smF (g : Fd) (sa : Option Addr) (sc : Nat) : Fd := ⟨g.kd, g.lk, 0, none, 0, [], none, 0, [], sa, sc, g.ss, none, 0, []⟩
def LikS (g' g : Fd) : Prop := ∃ sa sc, g' = smF g sa sc
def fkF (g : Fd) (sa : Option Addr) (sc : Nat) (pa : Option Addr) (pc : Nat) (a : Option Addr) (c : Nat) (q : List Rl) : Fd := ⟨g.kd, g.lk, 0, a, c, q, pa, pc, g.ps, sa, sc, g.ss, none, 0, []⟩
def Smk (lo XB : Nat) (v : Value) (k : Nat) : Bool := decide (k < lo) || (decide (k = XB) || decide (v.ownBlock = some k))
theorem Smk_false {lo XB : Nat} {v : Value} {k : Nat} : Smk lo XB v k = false ↔ lo ≤ k ∧ k ≠ XB ∧ v.ownBlock ≠ some k := by
 unfold Smk
 simp only [Bool.or_eq_false_iff, decide_eq_false_iff_not]
 constructor
 ·rintro ⟨h1, h2, h3⟩; exact ⟨by omega, h2, h3⟩
 ·rintro ⟨h1, h2, h3⟩; exact ⟨by omega, h2, h3⟩
abbrev kcs (pa : Option Addr) (pc : Nat) (d : Wd) (v : Value) : Array Value := #[.slice pa d.ps.length pc, v, .int .i64 d.en]
structure KK (w : World) (XB : Nat) (pa : Option Addr) (pc : Nat) (d : Wd) (wr : World) (v : Value) (l : List Fd) : Prop where
 bel : Below w.heap.size w wr
 lx : w.heap.size ≤ XB
 bx : wr.heap[XB]? = some (.cells (kcs pa pc d v) 25 (0, 0))
 row : wr.ownsRow w.heap.size 77 7 v l.length (flatG l)
 nv : v.ownBlock ≠ some XB
 p : RdI (mask (Smk w.heap.size XB v) wr) (mask (Smk w.heap.size XB v) wr).heap.size pa d.ps
 ok : ∀ i, i < l.length → okF (mask (Smk w.heap.size XB v) wr) (nthF l i)
 lk : ∀ i, i < l.length → LikS (nthF l i) (nthF d.fs i)
theorem KK.lt {w : World} {XB : Nat} {pa : Option Addr} {pc : Nat} {d : Wd} {wr : World} {v : Value} {l : List Fd} (h : KK w XB pa pc d wr v l) : XB < wr.heap.size := (Array.getElem?_eq_some_iff.1 h.bx).1
theorem KK.cells {w : World} {XB : Nat} {pa : Option Addr} {pc : Nat} {d : Wd} {wr : World} {v : Value} {l : List Fd} (h : KK w XB pa pc d wr v l) : wr.cell? ⟨XB, 0, none⟩ = some (.slice pa d.ps.length pc) ∧ wr.cell? ⟨XB, 1, none⟩ = some v ∧ wr.cell? ⟨XB, 2, none⟩ = some (.int .i64 d.en) ∧ ∀ j, wr.frozen? ⟨XB, j, none⟩ = false := by
 have hb := h.bx
 refine ⟨?_, ?_, ?_, fun j => ?_⟩ <;> simp [World.cell?, World.frozen?, hb, kcs]
theorem mask_below {S : Nat → Bool} {w W : World} (hb : Below w.heap.size w W) : Sub (mask S w) (mask S W) := sub_mask hb.size (fun k hk hS => ⟨hS, hb.block k hk⟩)
theorem KK.below {w : World} {XB : Nat} {pa : Option Addr} {pc : Nat} {d : Wd} {wr W : World} {v : Value} {l : List Fd} (h : KK w XB pa pc d wr v l) (hb : Below wr.heap.size wr W) : KK w XB pa pc d W v l :=
 ⟨h.bel.trans (hb.mono h.bel.size), h.lx, (hb.block XB h.lt).trans h.bx, own_below h.row hb, h.nv, h.p.sub (mask_below hb), fun i hi => (h.ok i hi).sub (mask_below hb), h.lk⟩
theorem KK.start {w w1 : World} {pa : Option Addr} {pc : Nat} {d : Wd} (hb : Below w.heap.size w w1) (hr : w1.ownsRow w.heap.size 3 1 (.slice pa d.ps.length pc) d.ps.length (d.ps.map (Value.int .i64))) : KK w w1.heap.size pa pc d (w1.alloc (.cells (kcs pa pc d (.slice none 0 0)) 25)) (.slice none 0 0) [] := by
 have hb1 := al w1 (.cells (kcs pa pc d (.slice none 0 0)) 25)
 refine ⟨hb.trans (hb1.mono hb.size), hb.size, World.alloc_heap_new w1 _, World.ownsRow_nil _ _ _ _, by simp [Value.ownBlock], ?_, fun i hi => by simp at hi, fun i hi => by simp at hi⟩
 have hr1 := own_below hr hb1
 refine RdI.mask (rdI_row hr1) (fun g off e => ?_)
 subst e
 rw [Smk_false]
 rcases hr.2 with ⟨e, _⟩ | ⟨g', cap, cur, e, hb2, hg, _⟩
 ·simp at e
 ·simp at e
  obtain ⟨⟨rfl, rfl⟩, rfl⟩ := e
  have := (Array.getElem?_eq_some_iff.1 hg).1
  exact ⟨hb2, by omega, by simp [Value.ownBlock]⟩
theorem KK.begin {w wx : World} {XB : Nat} {pa : Option Addr} {pc : Nat} {d : Wd} (hb : Below w.heap.size w wx) (lx : w.heap.size ≤ XB) (bx : wx.heap[XB]? = some (.cells (kcs pa pc d (.slice none 0 0)) 25 (0, 0))) (hr : wx.ownsRow w.heap.size 3 1 (.slice pa d.ps.length pc) d.ps.length (d.ps.map (Value.int .i64))) (hne : (Value.slice pa d.ps.length pc).ownBlock ≠ some XB) : KK w XB pa pc d wx (.slice none 0 0) [] := by
 refine ⟨hb, lx, bx, World.ownsRow_nil _ _ _ _, by simp [Value.ownBlock], ?_, fun i hi => by simp at hi, fun i hi => by simp at hi⟩
 refine RdI.mask (rdI_row hr) (fun g off e => ?_)
 subst e
 rw [Smk_false]
 rcases hr.2 with ⟨e, _⟩ | ⟨g', cap, cur, e, hb2, hg, _⟩
 ·simp at e
 ·simp at e
  obtain ⟨⟨rfl, rfl⟩, rfl⟩ := e
  exact ⟨hb2, fun e => hne (by rw [← e]; rfl), by simp [Value.ownBlock]⟩
theorem own_since {w : World} {b0 b1 e size n : Nat} {v : Value} {xs : List Value} (h : w.ownsRow b1 e size v n xs) (hb : b0 ≤ b1) : w.ownsRow b0 e size v n xs := by
 refine ⟨h.1, ?_⟩
 rcases h.2 with g | ⟨g, cap, cur, h1, h2, h3, h4⟩
 ·exact .inl g
 ·exact .inr ⟨g, cap, cur, h1, by omega, h3, h4⟩
theorem KK.begin3 {w w1 : World} {XB b1 : Nat} {pa : Option Addr} {pc : Nat} {d : Wd} (hb : Below w.heap.size w w1) (lx : w.heap.size ≤ XB) (lb : XB < b1) (bx : w1.heap[XB]? = some (.cells #[.slice none 0 0, .slice none 0 0, .int .i64 0] 25 (0, 0))) (hr : w1.ownsRow b1 3 1 (.slice pa d.ps.length pc) d.ps.length (d.ps.map (Value.int .i64))) :
  KK w XB pa pc d (((w1.setCell ⟨XB, 0, none⟩ (.slice pa d.ps.length pc)).setCell ⟨XB, 1, none⟩ (.slice none 0 0)).setCell ⟨XB, 2, none⟩ (.int .i64 d.en)) (.slice none 0 0) [] := by
 have e1 := heap_setCell_same w1 XB 0 _ _ (.slice pa d.ps.length pc) bx
 have e2 := heap_setCell_same _ XB 1 _ _ (.slice none 0 0) e1
 have e3 := heap_setCell_same _ XB 2 _ _ (.int .i64 d.en) e2
 have hne : (Value.slice pa d.ps.length pc).ownBlock ≠ some XB := fun e => by have := (own_lt hr e).2; omega
 have f1 : Fr (fun k => k = XB) w1 (((w1.setCell ⟨XB, 0, none⟩ (.slice pa d.ps.length pc)).setCell ⟨XB, 1, none⟩ (.slice none 0 0)).setCell ⟨XB, 2, none⟩ (.int .i64 d.en)) := by
  have g0 : Fr (fun k => k = XB) w1 w1 := Fr.refl _ w1
  have g1 := g0.setCell ⟨XB, 0, none⟩ (.slice pa d.ps.length pc) rfl
  have g2 := g1.setCell ⟨XB, 1, none⟩ (.slice none 0 0) rfl
  exact g2.setCell ⟨XB, 2, none⟩ (.int .i64 d.en) rfl
 refine KK.begin (((hb.setCell (p := ⟨XB, 0, none⟩) lx _).setCell (p := ⟨XB, 1, none⟩) lx _).setCell (p := ⟨XB, 2, none⟩) lx _) lx (e3.trans rfl) (own_since (own_keep hr f1 (fun g hg e => hne (by rw [hg, e]))) (by omega)) hne
theorem KK.step {w : World} {XB : Nat} {pa : Option Addr} {pc : Nat} {d : Wd} {wr W : World} {v : Value} {l : List Fd} (h0 : KK w XB pa pc d wr v l) (hb : Below wr.heap.size wr W) (g : Fd) (nb : Nat) (hg : RdG W (some ⟨nb, 0, none⟩) [g]) (hgo : okF (mask (fun k => decide (k < wr.heap.size)) W) g) (hgl : LikS g (nthF d.fs l.length)) (hl : l.length ≤ 1000) (ty : TypeId) (X : List Fd) (hX : l ++ [g] = X) :
  ∃ a' c' w', (Builtin.append_ #[23, 23] ty #[v, .slice (some ⟨nb, 0, none⟩) 1 1]).run Tryz.prog W = .ok (.slice a' X.length c') w' ∧ w'.frozen? ⟨XB, 1, none⟩ = false ∧ w'.cell? ⟨XB, 1, none⟩ = some v ∧ W.heap.size ≤ w'.heap.size ∧ (∀ k, k < W.heap.size → v.ownBlock ≠ some k → w'.heap[k]? = W.heap[k]?) ∧ KK w XB pa pc d (w'.setCell ⟨XB, 1, none⟩ (.slice a' X.length c')) (.slice a' X.length c') X := by
 have h := h0.below hb
 obtain ⟨i0, hi0, hz0, hz1, hz2⟩ := info_parts infoG
 obtain ⟨v', w', hr, h3, h4, h5, h6⟩ := run_append_own_at (P := Tryz.prog) W w.heap.size 23 ty 77 i0 _ 7 120 Tryz.underlying23 hi0 hz0 hz1 hz2 rfl (by decide) v l.length (flatG l) h.row ⟨nb, 0, none⟩ 1 1 (flatG [g]) (flatG_len [g]) (fun j u hj => by
  rw [Addr.add_lit]
  exact hg.flat j u hj) (flatG_one _) (by unfold maxLen; omega) (by omega) h.bel.size
 have hro : w'.ownsRow w.heap.size 77 7 v' X.length (flatG X) := by
  rw [← hX, flatG_append, List.length_append]
  exact h3
 have hbx : w'.heap[XB]? = some (.cells (kcs pa pc d v) 25 (0, 0)) := (h4.block XB h.lt (fun e => h.nv e.symm)).trans h.bx
 have hv' : ∀ k, v'.ownBlock = some k → v.ownBlock = some k ∨ W.heap.size ≤ k := fun k e => by
  rcases h6 with h6 | h6
  ·exact .inl (h6.symm.trans e)
  ·right
   rw [h6] at e
   simp at e
   omega
 have hnv : v'.ownBlock ≠ some XB := fun e => by
  rcases hv' XB e with g | g
  ·exact h.nv g
  ·have := h.lt; omega
 obtain ⟨a', c', rfl⟩ := shape_of hro
 have hbl : ∀ k, k < W.heap.size → Smk w.heap.size XB v k = false → Smk w.heap.size XB (.slice a' X.length c') k = false ∧ (w'.setCell ⟨XB, 1, none⟩ (.slice a' X.length c')).heap[k]? = W.heap[k]? := fun k hk hS => by
  obtain ⟨e1, e2, e3⟩ := Smk_false.1 hS
  refine ⟨Smk_false.2 ⟨e1, e2, fun e => (hv' k e).elim e3 (fun g => by omega)⟩, ?_⟩
  rw [Below.heap_setCell _ _ _ k (fun e => e2 e)]
  exact h4.block k hk (fun e => e3 e.symm)
 have hsz : W.heap.size ≤ (w'.setCell ⟨XB, 1, none⟩ (.slice a' X.length c')).heap.size := by simpa using h4.size
 have hsub : Sub (mask (Smk w.heap.size XB v) W) (mask (Smk w.heap.size XB (.slice a' X.length c')) (w'.setCell ⟨XB, 1, none⟩ (.slice a' X.length c'))) := sub_mask hsz hbl
 have hsubg : Sub (mask (fun k => decide (k < wr.heap.size)) W) (mask (Smk w.heap.size XB v) W) := sub_mask (Nat.le_refl _) (fun k hk hS => by
  have hk2 : wr.heap.size ≤ k := by simpa using hS
  have h1 := h0.bel.size
  have h2 := h0.lt
  exact ⟨Smk_false.2 ⟨by omega, by omega, fun e => by have := (own_lt h0.row e).1; omega⟩, rfl⟩)
 have hnth : ∀ i, i < X.length → nthF X i = if i < l.length then nthF l i else g := fun i hi => by
  rw [← hX] at hi ⊢
  unfold nthF
  by_cases e : i < l.length
  ·rw [if_pos e]; simp [List.getElem?_append_left e]
  ·have e2 : i = l.length := by simp at hi; omega
   subst e2
   simp
 have hXl : X.length = l.length + 1 := by rw [← hX]; simp
 refine ⟨a', c', w', hr, by simp [World.frozen?, hbx], by simp [World.cell?, hbx, kcs], h4.size, fun k hk hn => h4.block k hk (fun e => hn e.symm), ⟨?_, h.lx, ?_, ?_, hnv, h.p.sub hsub, fun i hi => ?_, fun i hi => ?_⟩⟩
 ·have := h.bel.grown h4 h.bel.size (fun k e => (own_lt h.row e).2)
  exact this.setCell (p := ⟨XB, 1, none⟩) h.lx _
 ·rw [heap_setCell_same w' XB 1 _ _ _ hbx]
  rfl
 ·refine World.ownsRow.kept (row := some XB) hro ⟨rfl, rfl, rfl, by simp, fun k _ hk => Below.heap_setCell _ _ _ k (fun e => hk (by rw [e]))⟩ (.inr hnv)
 ·rw [hnth i hi]
  split
  ·exact (h.ok i ‹_›).sub hsub
  ·exact (hgo.sub hsubg).sub hsub
 ·rw [hnth i hi]
  split
  ·exact h.lk i ‹_›
  ·have e2 : i = l.length := by omega
   subst e2
   exact hgl
theorem rdI_mask {w : World} {b0 b1 : Nat} {a : Option Addr} {c : Nat} {l : List Int} {S : Nat → Bool} (h : w.ownsRow b0 3 1 (.slice a l.length c) l.length (l.map (Value.int .i64))) (hS : ∀ k, (Value.slice a l.length c).ownBlock = some k → S k = false) : RdI (mask S w) (mask S w).heap.size a l := by
 by_cases hl : l = []
 ·exact fun g => absurd hl g
 ·refine RdI.mask (rdI_row h) (fun g off e => ?_)
  subst e
  rcases h.2 with ⟨e, _⟩ | ⟨g', cap, cur, e, _⟩
  ·simp at e
  ·simp at e
   obtain ⟨⟨rfl, rfl⟩, rfl⟩ := e
   exact hS _ rfl
theorem rdG_new (w : World) (g : Fd) : RdG (w.alloc (.cells (fcs g) 77)) (some ⟨w.heap.size, 0, none⟩) [g] := fun _ => ⟨w.heap.size, 0, rfl, by simp, fun i hi c hc => by
 have hi0 : i = 0 := by simp at hi; omega
 subst hi0
 rw [World.cell?_alloc_new]
 rcases (by omega : c = 0 ∨ c = 1 ∨ c = 2 ∨ c = 3 ∨ c = 4 ∨ c = 5 ∨ c = 6) with rfl | rfl | rfl | rfl | rfl | rfl | rfl <;> rfl⟩
theorem box3 {w : World} {b : Nat} {x y z : Value} {t : TypeId} (h : w.heap[b]? = some (.cells #[x, y, z] t (0, 0))) : (∀ j, w.frozen? ⟨b, j, none⟩ = false) ∧ w.cell? ⟨b, 0, none⟩ = some x ∧ w.cell? ⟨b, 1, none⟩ = some y ∧ w.cell? ⟨b, 2, none⟩ = some z := by
 refine ⟨fun j => ?_, ?_, ?_, ?_⟩ <;> simp [World.frozen?, World.cell?, h]
theorem own_some {w : World} {b0 e size n c : Nat} {a : Option Addr} {xs : List Value} (h : w.ownsRow b0 e size (.slice a n c) n xs) (hn : 0 < n) : ∃ g, a = some ⟨g, 0, none⟩ := by
 rcases h.2 with ⟨e, h0⟩ | ⟨g, cap, cur, e, _⟩
 ·omega
 ·simp at e
  exact ⟨g, e.1⟩
theorem flatG_set (l : List Fd) (i : Nat) (hi : i < l.length) (c : Nat) (hc : c < 7) (v : Value) (F : Fd) (hF : (encG (nthG l i)).set c v = encG F) : (flatG l).set (i * 7 + c) v = flatG (l.set i F) := by
 induction l generalizing i with
 | nil => simp at hi
 | cons x r ih =>
  rw [show flatG (x :: r) = encG x ++ flatG r by simp [flatG]]
  cases i with
  | zero =>
   rw [Nat.zero_mul, Nat.zero_add, List.set_append_left _ _ (by rw [encG_len]; omega)]
   have e : (encG x).set c v = encG F := by simpa [nthG] using hF
   rw [e]
   simp [flatG]
  | succ j =>
   rw [List.set_append_right _ _ (by rw [encG_len]; omega), encG_len, show (j + 1) * 7 + c - 7 = j * 7 + c by omega, ih j (by simpa using hi) (by simpa [nthG] using hF)]
   simp [flatG]
theorem nthF_set (l : List Fd) (i j : Nat) (F : Fd) (hi : i < l.length) : nthF (l.set i F) j = if i = j then F else nthF l j := by
 unfold nthF
 by_cases h : i = j
 ·subst h
  simp [hi]
 ·simp [h]
def Sm2 (lo XB gb : Nat) (u : Value) (k : Nat) : Bool := decide (k < lo) || (decide (k = XB) || (decide (k = gb) || decide (u.ownBlock = some k)))
theorem Sm2_false {lo XB gb : Nat} {u : Value} {k : Nat} : Sm2 lo XB gb u k = false ↔ lo ≤ k ∧ k ≠ XB ∧ k ≠ gb ∧ u.ownBlock ≠ some k := by
 unfold Sm2
 simp only [Bool.or_eq_false_iff, decide_eq_false_iff_not]
 constructor
 ·rintro ⟨h1, h2, h3, h4⟩; exact ⟨by omega, h2, h3, h4⟩
 ·rintro ⟨h1, h2, h3, h4⟩; exact ⟨by omega, h2, h3, h4⟩
structure K2 (w : World) (XB gb gc : Nat) (pa : Option Addr) (pc : Nat) (d : Wd) (f : Nat) (l0 : List Fd) (g : Fd) (sa : Option Addr) (sc : Nat) (ba : Option Addr) (bc : Nat) (wr : World) (a : Option Addr) (c : Nat) (q : List Rl) : Prop where
 bel : Below w.heap.size w wr
 lx : w.heap.size ≤ XB
 bx : wr.heap[XB]? = some (.cells (kcs pa pc d (.slice (some ⟨gb, 0, none⟩) d.fs.length gc)) 25 (0, 0))
 row : wr.ownsRow w.heap.size 77 7 (.slice (some ⟨gb, 0, none⟩) d.fs.length gc) d.fs.length (flatG (l0.set f (fkF g sa sc ba bc a c q)))
 rr : wr.ownsRow w.heap.size 86 4 (.slice a q.length c) q.length (flatR q)
 nv : gb ≠ XB
 n1 : (Value.slice a q.length c).ownBlock ≠ some XB
 n2 : (Value.slice a q.length c).ownBlock ≠ some gb
 p : RdI (mask (Sm2 w.heap.size XB gb (.slice a q.length c)) wr) (mask (Sm2 w.heap.size XB gb (.slice a q.length c)) wr).heap.size pa d.ps
 ok : ∀ i, i < l0.length → okF (mask (Sm2 w.heap.size XB gb (.slice a q.length c)) wr) (nthF l0 i)
 fp : RdI (mask (Sm2 w.heap.size XB gb (.slice a q.length c)) wr) (mask (Sm2 w.heap.size XB gb (.slice a q.length c)) wr).heap.size ba g.ps
 sn : ∀ r ∈ q, RdO (mask (Sm2 w.heap.size XB gb (.slice a q.length c)) wr) r.sa r.os
theorem K2.lt {w : World} {XB gb gc : Nat} {pa : Option Addr} {pc : Nat} {d : Wd} {f : Nat} {l0 : List Fd} {g : Fd} {sa : Option Addr} {sc : Nat} {ba : Option Addr} {bc : Nat} {wr : World} {a : Option Addr} {c : Nat} {q : List Rl} (h : K2 w XB gb gc pa pc d f l0 g sa sc ba bc wr a c q) : XB < wr.heap.size ∧ gb < wr.heap.size ∧ w.heap.size ≤ gb := ⟨(Array.getElem?_eq_some_iff.1 h.bx).1, own_lt h.row rfl⟩
theorem K2.below {w : World} {XB gb gc : Nat} {pa : Option Addr} {pc : Nat} {d : Wd} {f : Nat} {l0 : List Fd} {g : Fd} {sa : Option Addr} {sc : Nat} {ba : Option Addr} {bc : Nat} {wr W : World} {a : Option Addr} {c : Nat} {q : List Rl} (h : K2 w XB gb gc pa pc d f l0 g sa sc ba bc wr a c q) (hb : Below wr.heap.size wr W) : K2 w XB gb gc pa pc d f l0 g sa sc ba bc W a c q :=
 ⟨h.bel.trans (hb.mono h.bel.size), h.lx, (hb.block XB h.lt.1).trans h.bx, own_below h.row hb, own_below h.rr hb, h.nv, h.n1, h.n2, h.p.sub (mask_below hb), fun i hi => (h.ok i hi).sub (mask_below hb), h.fp.sub (mask_below hb), fun r hr => (h.sn r hr).sub (mask_below hb)⟩
theorem K2.start {w : World} {XB gb gc : Nat} {pa : Option Addr} {pc : Nat} {d : Wd} {f : Nat} {l0 : List Fd} {g : Fd} {sa : Option Addr} {sc : Nat} {wr W : World} (h0 : KK w XB pa pc d wr (.slice (some ⟨gb, 0, none⟩) d.fs.length gc) l0) (hl : l0.length = d.fs.length) (hf : f < d.fs.length) (hg : nthF l0 f = smF g sa sc) (hb : Below wr.heap.size wr W) {ba : Option Addr} {bc : Nat} (ho : W.ownsRow wr.heap.size 3 1 (.slice ba g.ps.length bc) g.ps.length (g.ps.map (Value.int .i64))) :
  K2 w XB gb gc pa pc d f l0 g sa sc ba bc (W.setCell ⟨gb, f * 7 + 4, none⟩ (.slice ba g.ps.length bc)) none 0 [] := by
 have h := h0.below hb
 have hrow := h.row
 rw [hl] at hrow
 have hgb := own_lt hrow (g := gb) rfl
 have hgq := (own_lt h0.row (g := gb) rfl).1
 have hxq := h0.lt
 have nv : gb ≠ XB := fun e => h.nv (by rw [e]; rfl)
 obtain ⟨hst, _⟩ := World.ownsRow.stored hrow (f * 7 + 4) (.slice ba g.ps.length bc)
 rw [flatG_set l0 f (by omega) 4 (by omega) _ (fkF g sa sc ba bc none 0 []) (by rw [show nthG l0 f = smF g sa sc from hg]; rfl)] at hst
 have g1 := frN W gb (f * 7 + 4) (.slice ba g.ps.length bc)
 have hsub : Sub (mask (Smk w.heap.size XB (.slice (some ⟨gb, 0, none⟩) d.fs.length gc)) W) (mask (Sm2 w.heap.size XB gb (.slice none 0 0)) (W.setCell ⟨gb, f * 7 + 4, none⟩ (.slice ba g.ps.length bc))) := sub_mask (by simp) (fun k hk hS => by
  obtain ⟨e1, e2, e3⟩ := Smk_false.1 hS
  have e4 : k ≠ gb := fun e => e3 (by rw [e]; rfl)
  exact ⟨Sm2_false.2 ⟨e1, e2, e4, by simp [Value.ownBlock]⟩, g1.block k hk e4⟩)
 refine ⟨h.bel.setCell (p := ⟨gb, f * 7 + 4, none⟩) hgb.2 _, h.lx, (g1.block XB h.lt (fun e => nv e.symm)).trans h.bx, hst, World.ownsRow_nil _ _ _ _, nv, by simp [Value.ownBlock], by simp [Value.ownBlock], h.p.sub hsub, fun i hi => (h.ok i hi).sub hsub, ?_, fun r hr => by cases hr⟩
 refine rdI_mask (b0 := wr.heap.size) (b1 := 0) (own_keep ho g1 (fun k hk e => by have := (own_lt ho hk).2; omega)) (fun k hk => ?_)
 have h1 := (own_lt ho hk).2
 have h2 := h0.bel.size
 exact Sm2_false.2 ⟨by omega, by omega, by omega, by simp [Value.ownBlock]⟩
theorem flatR_append (a b : List Rl) : flatR (a ++ b) = flatR a ++ flatR b := by simp [flatR]
theorem K2.step {w : World} {XB gb gc : Nat} {pa : Option Addr} {pc : Nat} {d : Wd} {f : Nat} {l0 : List Fd} {g : Fd} {sa : Option Addr} {sc : Nat} {ba : Option Addr} {bc : Nat} {wr W : World} {a : Option Addr} {c : Nat} {q : List Rl} (h0 : K2 w XB gb gc pa pc d f l0 g sa sc ba bc wr a c q) (hl : l0.length = d.fs.length) (hf : f < d.fs.length) (hb : Below wr.heap.size wr W) (r : Rl) (nb : Nat)
  (hr : W.heap[nb]? = some (.cells #[.int .i64 r.st, .int .i64 r.cl, .int .i64 r.nx, .slice r.sa r.os.length r.sc] 86 (0, 0))) (hro : RdO (mask (fun k => decide (k < wr.heap.size)) W) r.sa r.os) (hq : q.length ≤ 1000) (ty : TypeId) (X : List Rl) (hX : q ++ [r] = X) :
  ∃ a' c' w', (Builtin.append_ #[75, 75] ty #[.slice a q.length c, .slice (some ⟨nb, 0, none⟩) 1 1]).run Tryz.prog W = .ok (.slice a' X.length c') w' ∧ w'.cell? ⟨XB, 1, none⟩ = some (.slice (some ⟨gb, 0, none⟩) d.fs.length gc) ∧ w'.cell? ⟨gb, f * 7 + 3, none⟩ = some (.slice a q.length c) ∧ w'.frozen? ⟨gb, f * 7 + 3, none⟩ = false ∧ W.heap.size ≤ w'.heap.size ∧ (∀ k, k < W.heap.size → (Value.slice a q.length c).ownBlock ≠ some k → w'.heap[k]? = W.heap[k]?) ∧ K2 w XB gb gc pa pc d f l0 g sa sc ba bc (w'.setCell ⟨gb, f * 7 + 3, none⟩ (.slice a' X.length c')) a' c' X := by
 have h := h0.below hb
 obtain ⟨i0, hi0, hz0, hz1, hz2⟩ := info_parts infoR
 obtain ⟨v', w', hrun, h3, h4, h5, h6⟩ := run_append_own_at (P := Tryz.prog) W w.heap.size 75 ty 86 i0 _ 4 48 Tryz.underlying75 hi0 hz0 hz1 hz2 rfl (by decide) (.slice a q.length c) q.length (flatR q) h.rr ⟨nb, 0, none⟩ 1 1 (flatR [r]) (flatR_len [r]) (fun j u hj => by
  rw [Addr.add_lit, Nat.zero_add, cellN hr j]
  have e : flatR [r] = encR r := by simp [flatR]
  rw [e] at hj
  simpa [encR] using hj) (flatR_one _) (by unfold maxLen; omega) (by omega) h.bel.size
 have hXl : X.length = q.length + 1 := by rw [← hX]; simp
 have hro' : w'.ownsRow w.heap.size 86 4 v' X.length (flatR X) := by
  rw [← hX, flatR_append, List.length_append]
  exact h3
 obtain ⟨lx, lg, lo⟩ := h.lt
 have hbx : w'.heap[XB]? = some (.cells (kcs pa pc d (.slice (some ⟨gb, 0, none⟩) d.fs.length gc)) 25 (0, 0)) := (h4.block XB lx (fun e => h.n1 e.symm)).trans h.bx
 have hrow : w'.ownsRow w.heap.size 77 7 (.slice (some ⟨gb, 0, none⟩) d.fs.length gc) d.fs.length (flatG (l0.set f (fkF g sa sc ba bc a c q))) := World.ownsRow.kept (row := (Value.slice a q.length c).ownBlock) h.row h4 (.inr (fun e => h.n2 e.symm))
 have hv' : ∀ k, v'.ownBlock = some k → (Value.slice a q.length c).ownBlock = some k ∨ W.heap.size ≤ k := fun k e => by
  rcases h6 with h6 | h6
  ·exact .inl (h6.symm.trans e)
  ·right
   rw [h6] at e
   simp at e
   omega
 obtain ⟨a', c', rfl⟩ := shape_of hro'
 have hk1 : (Value.slice a' X.length c').ownBlock ≠ some XB := fun e => (hv' XB e).elim h.n1 (fun g => by omega)
 have hk2 : (Value.slice a' X.length c').ownBlock ≠ some gb := fun e => (hv' gb e).elim h.n2 (fun g => by omega)
 obtain ⟨hst, _⟩ := World.ownsRow.stored hrow (f * 7 + 3) (.slice a' X.length c')
 rw [flatG_set _ f (by rw [List.length_set]; omega) 3 (by omega) _ (fkF g sa sc ba bc a' c' X) (by rw [show nthG (l0.set f (fkF g sa sc ba bc a c q)) f = fkF g sa sc ba bc a c q by (show nthF _ f = _; rw [nthF_set _ _ _ _ (by omega), if_pos rfl])]; rfl), List.set_set] at hst
 have g1 := frN w' gb (f * 7 + 3) (.slice a' X.length c')
 have hbl : ∀ k, k < W.heap.size → (Value.slice a q.length c).ownBlock ≠ some k → w'.heap[k]? = W.heap[k]? := fun k hk hn => h4.block k hk (fun e => hn e.symm)
 have hsub : Sub (mask (Sm2 w.heap.size XB gb (.slice a q.length c)) W) (mask (Sm2 w.heap.size XB gb (.slice a' X.length c')) (w'.setCell ⟨gb, f * 7 + 3, none⟩ (.slice a' X.length c'))) := sub_mask (by simpa using h4.size) (fun k hk hS => by
  obtain ⟨e1, e2, e3, e4⟩ := Sm2_false.1 hS
  exact ⟨Sm2_false.2 ⟨e1, e2, e3, fun e => (hv' k e).elim e4 (fun g => by omega)⟩, (g1.block k (Nat.lt_of_lt_of_le hk h4.size) e3).trans (hbl k hk e4)⟩)
 have hsubr : Sub (mask (fun k => decide (k < wr.heap.size)) W) (mask (Sm2 w.heap.size XB gb (.slice a q.length c)) W) := sub_mask (Nat.le_refl _) (fun k hk hS => by
  have hk2 : wr.heap.size ≤ k := by simpa using hS
  have q1 := h0.bel.size
  obtain ⟨q2, q3, q4⟩ := h0.lt
  exact ⟨Sm2_false.2 ⟨by omega, by omega, by omega, fun e => by have := (own_lt h0.rr e).1; omega⟩, rfl⟩)
 have hcg : w'.cell? ⟨gb, f * 7 + 3, none⟩ = some (.slice a q.length c) := by
  rw [World.ownsRow.cellAt hrow _ (by omega)]
  rw [flatG_get _ f 3 (by rw [List.length_set]; omega) (by omega), show nthG (l0.set f (fkF g sa sc ba bc a c q)) f = fkF g sa sc ba bc a c q by (show nthF _ f = _; rw [nthF_set _ _ _ _ (by omega), if_pos rfl])]
  rfl
 refine ⟨a', c', w', hrun, by simp [World.cell?, hbx, kcs], hcg, World.ownsRow.frozenAt hrow _, h4.size, hbl, ⟨?_, h.lx, (g1.block XB (Nat.lt_of_lt_of_le lx h4.size) (fun e => h.nv e.symm)).trans hbx, hst, own_keep hro' g1 (fun k hk e => hk2 (by rw [hk, e])), h.nv, hk1, hk2, h.p.sub hsub, fun i hi => (h.ok i hi).sub hsub, h.fp.sub hsub, fun y hy => ?_⟩⟩
 ·exact (h.bel.grown h4 h.bel.size (fun k e => (own_lt h.rr e).2)).setCell (p := ⟨gb, f * 7 + 3, none⟩) lo _
 ·rw [← hX] at hy
  rcases List.mem_append.1 hy with e | e
  ·exact (h.sn y e).sub hsub
  ·simp at e
   subst e
   exact (hro.sub hsubr).sub hsub
theorem K2.done {w : World} {XB gb gc : Nat} {pa : Option Addr} {pc : Nat} {d : Wd} {f : Nat} {l0 : List Fd} {g : Fd} {sa : Option Addr} {sc : Nat} {ba : Option Addr} {bc : Nat} {wr : World} {a : Option Addr} {c : Nat} {q : List Rl} (h : K2 w XB gb gc pa pc d f l0 g sa sc ba bc wr a c q) (hl : l0.length = d.fs.length) (hf : f < d.fs.length) (hg : nthF d.fs f = g) (hs : nthF l0 f = smF g sa sc) (hk : ∀ i, i < l0.length → LikS (nthF l0 i) (nthF d.fs i)) (hd : d.ps.length ≤ 50 ∧ d.fs.length ≤ 20) (hlt : ∀ i, i < d.fs.length → LtF (nthF d.fs i)) (hq : q.length = g.rs.length) (hqr : ∀ i, i < g.rs.length → LikR (nthR q i) (nthR g.rs i)) (hi64 : ∀ r ∈ g.rs, i64 r.st ∧ i64 r.cl) :
  ∃ D' : Wd, D'.fa = some ⟨gb, 0, none⟩ ∧ D'.fc = gc ∧ D'.pa = pa ∧ D'.pc = pc ∧ LikP f D' d ∧ Ww (mask (fun k => decide (k < w.heap.size)) wr) D' := by
 have hsub : Sub (mask (Sm2 w.heap.size XB gb (.slice a q.length c)) wr) (mask (fun k => decide (k < w.heap.size)) wr) := sub_mask (Nat.le_refl _) (fun k hk hS => ⟨by have := (Sm2_false.1 hS).1; simp; omega, rfl⟩)
 have hn : ∀ i, nthF (l0.set f (fkF g sa sc ba bc a c q)) i = if f = i then fkF g sa sc ba bc a c q else nthF l0 i := fun i => nthF_set l0 f i _ (by omega)
 have hrr := h.rr
 have hlen : (l0.set f (fkF g sa sc ba bc a c q)).length = d.fs.length := by rw [List.length_set]; exact hl
 have hsg : nthF l0 f = smF g sa sc := hs
 refine ⟨⟨pa, pc, d.ps, some ⟨gb, 0, none⟩, gc, l0.set f (fkF g sa sc ba bc a c q), d.en⟩, rfl, rfl, rfl, rfl, ⟨rfl, rfl, hlen, fun i hi => ?_, fun i hi => ?_, ?_, ?_, fun i hi => ?_⟩, ⟨h.p.sub hsub, ⟨fun hne => ?_, fun y hy => ?_⟩, hd.1, by show (l0.set f _).length ≤ 20; omega, fun y hy => ?_⟩⟩
 ·show (nthF (l0.set f _) i).kd = _
  rw [hn i]
  by_cases e : f = i
  ·rw [if_pos e, ← e, hg]; rfl
  ·rw [if_neg e]
   obtain ⟨sa', sc', e2⟩ := hk i (by omega)
   rw [e2]; rfl
 ·show (nthF (l0.set f _) i).ss = _
  rw [hn i]
  by_cases e : f = i
  ·rw [if_pos e, ← e, hg]; rfl
  ·rw [if_neg e]
   obtain ⟨sa', sc', e2⟩ := hk i (by omega)
   rw [e2]; rfl
 ·show (nthF (l0.set f _) f).lk = _
  rw [hn f, if_pos rfl, hg]; rfl
 ·show (nthF (l0.set f _) f).rs.length = _
  rw [hn f, if_pos rfl, hg]; exact hq
 ·show LikR (nthR (nthF (l0.set f _) f).rs i) _
  rw [hg] at hi ⊢
  rw [hn f, if_pos rfl]
  exact hqr i hi
 ·have hrow := h.row
  refine ⟨gb, 0, rfl, by rw [mask_size]; exact h.lt.2.1, fun i hi c' hc => ?_⟩
  have hi' : i < d.fs.length := by rw [← hlen]; exact hi
  rw [mask_cell_of (p := ⟨gb, 0 + i * 7 + c', none⟩) (by have := h.lt.2.2; simp; omega), Nat.zero_add, World.ownsRow.cellAt hrow _ (by omega), flatG_get _ i c' (by omega) hc]
  rfl
 ·obtain ⟨i, hi, rfl⟩ := (memF _ y).1 hy
  rw [hn i]
  by_cases e : f = i
  ·rw [if_pos e]
   refine ⟨⟨?_, fun r hr => ?_⟩, h.fp.sub hsub, ?_, fun g => absurd rfl g⟩
   ·refine CsR.mask (csR_row hrr) (fun k off e => ?_)
    have e' : (a : Option Addr) = some ⟨k, off, none⟩ := e
    subst e'
    rcases hrr.2 with ⟨e, _⟩ | ⟨g', cap, cur, e, hb, _⟩
    ·simp at e
    ·simp at e
     obtain ⟨⟨rfl, rfl⟩, rfl⟩ := e
     simp
     omega
   ·have hr' : r ∈ q := hr
    obtain ⟨j, hj, rfl⟩ := (memR q r).1 hr'
    obtain ⟨h1, h2, _, _⟩ := hqr j (by omega)
    obtain ⟨h5, h6⟩ := hi64 (nthR g.rs j) (nthR_mem (by omega))
    exact ⟨by rw [h1]; exact h5, by rw [h2]; exact h6, (h.sn _ hr').sub hsub⟩
   ·have := (h.ok f (by omega)).s
    rw [hsg] at this
    exact this.sub hsub
  ·rw [if_neg e]
   exact (h.ok i (by rw [hlen] at hi; omega)).sub hsub
 ·obtain ⟨i, hi, rfl⟩ := (memF _ y).1 hy
  rw [hlen] at hi
  rw [hn i]
  by_cases e : f = i
  ·rw [if_pos e]
   have hL := hlt f hf
   rw [hg] at hL
   refine ⟨⟨by show q.length ≤ 60; rw [hq]; exact hL.r.1, fun r hr => ?_⟩, hL.p, hL.s, by simp [fkF]⟩
   have hr' : r ∈ q := hr
   obtain ⟨j, hj, rfl⟩ := (memR q r).1 hr'
   rw [(hqr j (by omega)).2.2.2]
   exact hL.r.2 _ (nthR_mem (by omega))
  ·rw [if_neg e]
   obtain ⟨sa', sc', e2⟩ := hk i (by omega)
   have hL := hlt i hi
   rw [e2]
   exact ⟨⟨by simp [smF], fun r hr => by cases hr⟩, by simp [smF], hL.s, by simp [smF]⟩
end Go.Proofs.YtiaopafkfadmkaaGreat
