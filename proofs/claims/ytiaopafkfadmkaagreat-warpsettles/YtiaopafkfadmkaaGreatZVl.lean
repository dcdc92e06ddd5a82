/- Joined: the texts that follow, each with its own sentence. -/
import Derived.Test.YtiaopafkfadmkaaGreatZVk
set_option linter.unusedVariables false
set_option maxRecDepth 100000
namespace Go.Proofs.YtiaopafkfadmkaaGreat.V
open Go.RowKit Go.Shelf
def SPo (w0 : World) (D : Wd) (f : Nat) (Z : Ad) (F : Nat → Nat → Prop) (v : Value) (w : World) (x : X) : Ending → World → Prop := fun e w' =>
 ∃ F' a' n' c', e = .returned (.tuple #[dv (stepD (cf D f) x), .slice a' n' c', .int .i64 (stepE (cf D f) x)]) ∧ WM w0 D f (stepX (cf D f) x) (stepX (cf D f) x).fl Z F' v w' ∧ Mw (tot F) (tot F') w w' ∧ B.OwR G.cI 41 w' (.slice a' n' c') (itm 0 (stepI (cf D f) x)) ∧ ∀ b, (Value.slice a' n' c').ownBlock = some b → w.heap.size ≤ b ∧ ¬ tot F' b
theorem SPo.no {w0 : World} {D : Wd} {f : Nat} {Z : Ad} {F : Nat → Nat → Prop} {v : Value} {w w' : World} {x : X} {E : Int} (hE : stepE (cf D f) x = E) (h0 : E ≠ 0) (h : WM w0 D f x x.fl Z F v w) (hb : Below w.heap.size w w') : SPo w0 D f Z F v w x (.returned (.tuple #[dv zeroD, .slice none 0 0, .int .i64 E])) w' := by
 have hX : stepX (cf D f) x = x := by unfold stepX; rw [if_neg (by rw [hE]; exact h0)]
 have hI : stepI (cf D f) x = [] := by unfold stepI; rw [if_neg (by rw [hE]; exact h0)]
 have hD : stepD (cf D f) x = zeroD := by unfold stepD; rw [if_neg (by rw [hE]; exact h0)]
 refine ⟨F, none, 0, 0, by rw [hD, hE], ?_, B.Mw.below hb, ?_, fun b e => by simp [Value.ownBlock] at e⟩
 ·rw [hX]
  exact h.below hb
 ·rw [hI]
  exact B.OwR.nil _ _ _
theorem dn_cells {W : World} {A : Nat} {x : Dn} (h : W.heap[A]? = some (.cells (dcs x) 49 (0, 0))) : W.cell? ⟨A, 0, none⟩ = some (.int .i64 x.m.t) ∧ W.cell? ⟨A, 1, none⟩ = some (.int .i64 x.m.fr) ∧ W.cell? ⟨A, 2, none⟩ = some (.int .i64 x.m.sq) ∧ W.cell? ⟨A, 3, none⟩ = some (.int .i64 x.m.dst) ∧ W.cell? ⟨A, 4, none⟩ = some (.int .i64 x.m.cl) ∧ W.cell? ⟨A, 5, none⟩ = some (.int .i64 x.m.bd) ∧ W.cell? ⟨A, 6, none⟩ = some (.int .i64 x.s) ∧ ∀ j, W.frozen? ⟨A, j, none⟩ = false := by
 refine ⟨?_, ?_, ?_, ?_, ?_, ?_, ?_, fun j => ?_⟩ <;> simp [World.cell?, World.frozen?, h, dcs]
abbrev set7 (W : World) (A : Nat) (x : Dn) : World := ((((((W.setCell ⟨A, 0, none⟩ (.int .i64 x.m.t)).setCell ⟨A, 1, none⟩ (.int .i64 x.m.fr)).setCell ⟨A, 2, none⟩ (.int .i64 x.m.sq)).setCell ⟨A, 3, none⟩ (.int .i64 x.m.dst)).setCell ⟨A, 4, none⟩ (.int .i64 x.m.cl)).setCell ⟨A, 5, none⟩ (.int .i64 x.m.bd)).setCell ⟨A, 6, none⟩ (.int .i64 x.s)
theorem set7_heap {W : World} {A : Nat} {z : Dn} (h : W.heap[A]? = some (.cells (dcs z) 49 (0, 0))) (x : Dn) : (set7 W A x).heap[A]? = some (.cells (dcs x) 49 (0, 0)) := by
 have e0 := heap_setCell_same W A 0 _ _ (.int .i64 x.m.t) h
 have e1 := heap_setCell_same _ A 1 _ _ (.int .i64 x.m.fr) e0
 have e2 := heap_setCell_same _ A 2 _ _ (.int .i64 x.m.sq) e1
 have e3 := heap_setCell_same _ A 3 _ _ (.int .i64 x.m.dst) e2
 have e4 := heap_setCell_same _ A 4 _ _ (.int .i64 x.m.cl) e3
 have e5 := heap_setCell_same _ A 5 _ _ (.int .i64 x.m.bd) e4
 have e6 := heap_setCell_same _ A 6 _ _ (.int .i64 x.s) e5
 rw [e6]
 simp [dcs]
theorem set7_fr (W : World) (A : Nat) (x : Dn) : Fr (fun k => k = A) W (set7 W A x) :=
 (((((((frB _ _ _ _).then (frB _ _ _ _)).then (frB _ _ _ _)).then (frB _ _ _ _)).then (frB _ _ _ _)).then (frB _ _ _ _)).then (frB _ _ _ _))
theorem set7_below {a W : World} {A n : Nat} (h : Below n a W) (hA : n ≤ A) (x : Dn) : Below n a (set7 W A x) :=
 ((((((h.setCell (p := ⟨A, 0, none⟩) hA _).setCell (p := ⟨A, 1, none⟩) hA _).setCell (p := ⟨A, 2, none⟩) hA _).setCell (p := ⟨A, 3, none⟩) hA _).setCell (p := ⟨A, 4, none⟩) hA _).setCell (p := ⟨A, 5, none⟩) hA _).setCell (p := ⟨A, 6, none⟩) hA _
set_option maxHeartbeats 2000000 in
theorem nstep_idle {w0 : World} {D : Wd} {f : Nat} {x : X} {Z : Ad} {F : Nat → Nat → Prop} {v : Value} {w : World} (h : WM w0 D f x x.fl Z F v w) (hE : stepE (cf D f) x ≠ 0) :
  Calls Tryz.prog 16 #[.pointer (some ⟨Z.nb, 0, none⟩)] w (SPo w0 D f Z F v w x) := by
 have mixed : Tryz.prog.follows .mixedOrders = true := by kernel_rfl
 obtain ⟨W0, hW0⟩ : ∃ W0, W0 = w.alloc (.cells #[.int .i64 0, .int .i64 0, .int .i64 0, .int .i64 0, .int .i64 0, .int .i64 0, .int .i64 0] 49) := ⟨_, rfl⟩
 have hb0 : Below w.heap.size w W0 := by rw [hW0]; exact B.al _ _
 obtain ⟨q, hq⟩ : ∃ q, w.heap.size = q := ⟨_, rfl⟩
 have bx : W0.heap[q]? = some (.cells (dcs zeroD) 49 (0, 0)) := by rw [hW0, ← hq]; exact G.newB _ _
 have lq : q < W0.heap.size := (Array.getElem?_eq_some_iff.1 bx).1
 have HQ : Hid (w.heap.size = q) := hq
 have HH : Hid (WM w0 D f x x.fl Z F v w) := h
 have HB0 : Hid (Below w.heap.size w W0) := hb0
 have hwm0 := h.below hb0
 have n6 := hwm0.cells.2.2.2.2.2.2.1
 have CFI := Q.first_any hwm0.qu
 obtain ⟨m, hm⟩ : ∃ m, x.nd.q.headD Q.zeroM = m := ⟨_, rfl⟩
 obtain ⟨be, hbe⟩ : ∃ be, x.nd.q.isEmpty = be := ⟨_, rfl⟩
 rw [hm, hbe] at CFI
 have hEe : stepE (cf D f) x = if be = true ∨ D.en ≤ m.1.1 then 150 else if 64 ≤ x.nd.p.length ∨ 192 < x.nd.g.length then 2 else 0 := by
  unfold stepE hd
  rw [hm, hbe]
  rfl
 have HNO : Hid (∀ E w3, stepE (cf D f) x = E → E ≠ 0 → Below w.heap.size w w3 → SPo w0 D f Z F v w x (.returned (.tuple #[dv zeroD, .slice none 0 0, .int .i64 E])) w3) := fun E w3 h1 h2 h3 => SPo.no h1 h2 HH.out h3
 have HCL : Hid (∀ W, Below W0.heap.size W0 W → Below w.heap.size w W ∧ q < W.heap.size ∧ W.heap[q]? = some (.cells (dcs zeroD) 49 (0, 0)) ∧ W.cell? ⟨Z.nb, 2, none⟩ = some (.int .i64 D.en) ∧ W.cell? ⟨Z.nb, 7, none⟩ = some (.pointer (some ⟨Z.pb, 0, none⟩)) ∧ W.cell? ⟨Z.nb, 8, none⟩ = some (.pointer (some ⟨Z.gb, 0, none⟩)) ∧ Z.nb < W.heap.size) := fun W hW => by
  have hc := (hwm0.below hW).cells
  exact ⟨hb0.trans (hW.mono hb0.size), Nat.lt_of_lt_of_le lq hW.size, (hW.block q lq).trans bx, hc.2.2.1, hc.2.2.2.2.2.2.2.1, hc.2.2.2.2.2.2.2.2.1, (hwm0.below hW).nlt⟩
 have HLN : Hid (∀ W, Below W0.heap.size W0 W → Calls Tryz.prog 60 #[.pointer (some ⟨Z.pb, 0, none⟩)] W fun e w' => e = .returned (.int .i64 x.nd.p.length) ∧ W = w') := fun W hW => by
  obtain ⟨X0, v0, hp⟩ := (hwm0.below hW).pa.call
  exact A.len_any hp
 have HHL : Hid (∀ W, Below W0.heap.size W0 W → Calls Tryz.prog 61 #[.pointer (some ⟨Z.gb, 0, none⟩)] W fun e w' => ∃ a c, e = .returned (.slice a x.nd.g.length c) ∧ Below W.heap.size W w') := fun W hW => by
  obtain ⟨_, vg, hg, _⟩ := (hwm0.below hW).ga
  exact (G.held_any hg).mono fun e w' ⟨a, c, h1, _, _, h4⟩ => ⟨a, c, h1, h4⟩
 have FIN : Hid (∀ W E, Below W0.heap.size W0 W → stepE (cf D f) x = E → E ≠ 0 → SPo w0 D f Z F v w x (.returned (.tuple #[dv zeroD, .slice none 0 0, .int .i64 E])) (set7 W q zeroD) ∧ (set7 W q zeroD).heap[q]? = some (.cells (dcs zeroD) 49 (0, 0))) := fun W E hW h1 h2 => by
  obtain ⟨g1, _, g3, _⟩ := HCL.out W hW
  exact ⟨HNO.out E _ h1 h2 (set7_below g1 (by rw [hq]; exact Nat.le_refl _) zeroD), set7_heap g3 zeroD⟩
 obtain ⟨en, hen⟩ : ∃ en, D.en = en := ⟨_, rfl⟩
 obtain ⟨pl, hpl⟩ : ∃ pl, x.nd.p.length = pl := ⟨_, rfl⟩
 obtain ⟨gl, hgl⟩ : ∃ gl, x.nd.g.length = gl := ⟨_, rfl⟩
 rw [hen] at HCL hEe
 rw [hpl] at HLN hEe
 rw [hgl] at HHL hEe
 rw [hW0] at CFI n6
 have HWW : Hid (W0 = w.alloc (.cells #[.int .i64 0, .int .i64 0, .int .i64 0, .int .i64 0, .int .i64 0, .int .i64 0, .int .i64 0] 49)) := hW0
 obtain ⟨⟨m1, m2, m3⟩, m4, m5, m6⟩ := m
 dsimp only at hEe CFI
 clear h hwm0 hb0 bx lq hm hbe hen hpl hgl hW0
 obtain ⟨q1, hq1⟩ : ∃ q1 : Nat, q1 = q := ⟨_, rfl⟩
 cases be
 case true =>
  have HE0 : Hid (stepE (cf D f) x = 150) := by show _ = _; rw [hEe, if_pos (Or.inl rfl)]
  clear hEe
  go_enter Tryz.func16, Tryz.ntmps16
  go_wp2_with (go_at_call 59; refine CFI.mono ?_; rintro e w1 ⟨rfl, hb1⟩; rw [← HWW.out] at hb1; have hb2 : Below W0.heap.size W0 (w1.alloc (.cells #[.int .i64 m1, .int .i64 m2, .int .i64 m3, .int .i64 m4, .int .i64 m5, .int .i64 m6] 39)) := hb1.trans ((B.al w1 _).mono hb1.size); obtain ⟨g1, lq1, bq1, y2, y7, y8, lnb⟩ := Hid.out HCL _ hb2; have HB2 : Hid (Below W0.heap.size W0 (w1.alloc (.cells #[.int .i64 m1, .int .i64 m2, .int .i64 m3, .int .i64 m4, .int .i64 m5, .int .i64 m6] 39))) := hb2; obtain ⟨t0, t1, t2, t3, t4, t5, t6, tf⟩ := dn_cells bq1; dsimp only [zeroD] at t0 t1 t2 t3 t4 t5 t6; clear hb1 hb2 g1 bq1 CFI)
  try simp only [HQ.out]
  go_quiet (fail)
  go_wp2_with fail
  all_goals
   generalize hwf : World.setCell _ _ _ = WF
   have hWF : WF = set7 _ q zeroD := hwf.symm
   obtain ⟨r1, r2⟩ := FIN.out _ 150 (HB2.out.trans (below_drewN _ _ _)) HE0.out (by decide)
   rw [← hWF] at r1 r2
   obtain ⟨u0, u1, u2, u3, u4, u5, u6, _⟩ := dn_cells r2
   dsimp only [zeroD] at u0 u1 u2 u3 u4 u5 u6
   exact bodyPost_ret (v := .tuple #[dv zeroD, .slice none 0 0, .int .i64 150]) (by simp [results, Tryz.results16, go_sem, u0, u1, u2, u3, u4, u5, u6, zeroD]) rfl r1
 case false =>
  by_cases he : en ≤ m1
  ·have HE0 : Hid (stepE (cf D f) x = 150) := by show _ = _; rw [hEe, if_pos (Or.inr he)]
   have he' : decide (m1 ≥ en) = true := decide_eq_true he
   have he2 : decide (en ≤ m1) = true := decide_eq_true he
   clear hEe
   go_enter Tryz.func16, Tryz.ntmps16
   go_wp2_with (go_at_call 59; refine CFI.mono ?_; rintro e w1 ⟨rfl, hb1⟩; rw [← HWW.out] at hb1; have hb2 : Below W0.heap.size W0 (w1.alloc (.cells #[.int .i64 m1, .int .i64 m2, .int .i64 m3, .int .i64 m4, .int .i64 m5, .int .i64 m6] 39)) := hb1.trans ((B.al w1 _).mono hb1.size); obtain ⟨g1, lq1, bq1, y2, y7, y8, lnb⟩ := Hid.out HCL _ hb2; have HB2 : Hid (Below W0.heap.size W0 (w1.alloc (.cells #[.int .i64 m1, .int .i64 m2, .int .i64 m3, .int .i64 m4, .int .i64 m5, .int .i64 m6] 39))) := hb2; obtain ⟨t0, t1, t2, t3, t4, t5, t6, tf⟩ := dn_cells bq1; dsimp only [zeroD] at t0 t1 t2 t3 t4 t5 t6; clear hb1 hb2 g1 bq1 CFI)
   try simp only [HQ.out]
   go_quiet (fail)
   go_wp2_with fail
   all_goals
    generalize hwf : World.setCell _ _ _ = WF
    have hWF : WF = set7 _ q zeroD := hwf.symm
    obtain ⟨r1, r2⟩ := FIN.out _ 150 (HB2.out.trans (below_drewN _ _ _)) HE0.out (by decide)
    rw [← hWF] at r1 r2
    obtain ⟨u0, u1, u2, u3, u4, u5, u6, _⟩ := dn_cells r2
    dsimp only [zeroD] at u0 u1 u2 u3 u4 u5 u6
    exact bodyPost_ret (v := .tuple #[dv zeroD, .slice none 0 0, .int .i64 150]) (by simp [results, Tryz.results16, go_sem, u0, u1, u2, u3, u4, u5, u6, zeroD]) rfl r1
  ·have he' : decide (m1 ≥ en) = false := decide_eq_false he
   have he2 : decide (en ≤ m1) = false := decide_eq_false he
   rw [if_neg (by simp [he])] at hEe
   by_cases hp : 64 ≤ pl
   ·have HE0 : Hid (stepE (cf D f) x = 2) := by show _ = _; rw [hEe, if_pos (Or.inl hp)]
    have hp1 : decide ((64 : Int) ≤ (pl : Int)) = true := decide_eq_true (by omega)
    clear hEe
    go_enter Tryz.func16, Tryz.ntmps16
    go_wp2_with (go_at_call 59; refine CFI.mono ?_; rintro e w1 ⟨rfl, hb1⟩; rw [← HWW.out] at hb1; have hb2 : Below W0.heap.size W0 (w1.alloc (.cells #[.int .i64 m1, .int .i64 m2, .int .i64 m3, .int .i64 m4, .int .i64 m5, .int .i64 m6] 39)) := hb1.trans ((B.al w1 _).mono hb1.size); obtain ⟨g1, lq1, bq1, y2, y7, y8, lnb⟩ := Hid.out HCL _ hb2; have HB2 : Hid (Below W0.heap.size W0 (w1.alloc (.cells #[.int .i64 m1, .int .i64 m2, .int .i64 m3, .int .i64 m4, .int .i64 m5, .int .i64 m6] 39))) := hb2; obtain ⟨t0, t1, t2, t3, t4, t5, t6, tf⟩ := dn_cells bq1; dsimp only [zeroD] at t0 t1 t2 t3 t4 t5 t6; clear hb1 hb2 g1 bq1 CFI)
    try simp only [HQ.out]
    go_quiet (fail)
    go_wp2_with (go_at_call 60; refine (Hid.out HLN _ (HB2.out.trans (below_drewN _ _ _))).mono ?_; rintro e w2 ⟨rfl, rfl⟩)
    all_goals
     generalize hwf : World.setCell _ _ _ = WF
     have hWF : WF = set7 _ q zeroD := hwf.symm
     obtain ⟨r1, r2⟩ := FIN.out _ 2 (HB2.out.trans (below_drewN _ _ _)) HE0.out (by decide)
     rw [← hWF] at r1 r2
     obtain ⟨u0, u1, u2, u3, u4, u5, u6, _⟩ := dn_cells r2
     dsimp only [zeroD] at u0 u1 u2 u3 u4 u5 u6
     exact bodyPost_ret (v := .tuple #[dv zeroD, .slice none 0 0, .int .i64 2]) (by simp [results, Tryz.results16, go_sem, u0, u1, u2, u3, u4, u5, u6, zeroD]) rfl r1
   ·have hp1 : decide ((64 : Int) ≤ (pl : Int)) = false := decide_eq_false (by omega)
    have hg : 192 < gl := by
     apply Classical.byContradiction
     intro hg
     rw [if_neg (by omega)] at hEe
     exact hE hEe
    have HE0 : Hid (stepE (cf D f) x = 2) := by show _ = _; rw [hEe, if_pos (Or.inr hg)]
    have hg1 : decide ((192 : Int) < (gl : Int)) = true := decide_eq_true (by omega)
    clear hEe
    go_enter Tryz.func16, Tryz.ntmps16
    go_wp2_with (go_at_call 59; refine CFI.mono ?_; rintro e w1 ⟨rfl, hb1⟩; rw [← HWW.out] at hb1; have hb2 : Below W0.heap.size W0 (w1.alloc (.cells #[.int .i64 m1, .int .i64 m2, .int .i64 m3, .int .i64 m4, .int .i64 m5, .int .i64 m6] 39)) := hb1.trans ((B.al w1 _).mono hb1.size); obtain ⟨g1, lq1, bq1, y2, y7, y8, lnb⟩ := Hid.out HCL _ hb2; have HB2 : Hid (Below W0.heap.size W0 (w1.alloc (.cells #[.int .i64 m1, .int .i64 m2, .int .i64 m3, .int .i64 m4, .int .i64 m5, .int .i64 m6] 39))) := hb2; obtain ⟨t0, t1, t2, t3, t4, t5, t6, tf⟩ := dn_cells bq1; dsimp only [zeroD] at t0 t1 t2 t3 t4 t5 t6; clear hb1 hb2 g1 bq1 CFI)
    try simp only [HQ.out]
    go_quiet (fail)
    go_wp2_with (first | (go_at_call 60; refine (Hid.out HLN _ (HB2.out.trans (below_drewN _ _ _))).mono ?_; rintro e w2 ⟨rfl, rfl⟩) | (go_at_call 61; refine (Hid.out HHL _ (HB2.out.trans (below_drewN _ _ _))).mono ?_; rintro e w3 ⟨a3, c3, rfl, hb3⟩; have hb3' := Below.trans (HB2.out.trans (below_drewN _ _ _)) (hb3.mono HB2.out.size); have HB3 : Hid (Below W0.heap.size W0 w3) := hb3'; obtain ⟨_, lq1, bq1, _⟩ := Hid.out HCL _ hb3'; obtain ⟨t0, t1, t2, t3, t4, t5, t6, tf⟩ := dn_cells bq1; dsimp only [zeroD] at t0 t1 t2 t3 t4 t5 t6; clear hb3 hb3' bq1))
    all_goals
     generalize hwf : World.setCell _ _ _ = WF
     have hWF : WF = set7 _ q zeroD := hwf.symm
     obtain ⟨r1, r2⟩ := FIN.out _ 2 HB3.out HE0.out (by decide)
     rw [← hWF] at r1 r2
     obtain ⟨u0, u1, u2, u3, u4, u5, u6, _⟩ := dn_cells r2
     dsimp only [zeroD] at u0 u1 u2 u3 u4 u5 u6
     exact bodyPost_ret (v := .tuple #[dv zeroD, .slice none 0 0, .int .i64 2]) (by simp [results, Tryz.results16, go_sem, u0, u1, u2, u3, u4, u5, u6, zeroD]) rfl r1
end Go.Proofs.YtiaopafkfadmkaaGreat.V
namespace Go.Proofs.YtiaopafkfadmkaaGreat.V
open Go.RowKit Go.Shelf
abbrev mcs (m : Mg) : Array Value := #[.int .i64 m.1.1, .int .i64 m.1.2.1, .int .i64 m.1.2.2, .int .i64 m.2.1, .int .i64 m.2.2.1, .int .i64 m.2.2.2]
theorem flatM_six (l : List M) : flatM l = B.flat B.cM (l.map m6) := by
 unfold flatM B.flat
 rw [List.flatMap_map]
 rfl
structure Mn (w0 w : World) (D : Wd) (f : Nat) (y : X) (gf : Int) (Z : Ad) (F F' : Nat → Nat → Prop) (v : Value) (q b : Nat) (m : Mg) (W : World) : Prop where
 wm : WM w0 D f y gf Z F' v W
 mw : Mw (tot F) (tot F') w W
 bq : W.heap[q]? = some (.cells (dcs zeroD) 49 (0, 0))
 bb : W.heap[b]? = some (.cells (mcs m) 39 (0, 0))
 nq : ¬ tot F' q
 nb : ¬ tot F' b
theorem Mn.go {w0 w : World} {D : Wd} {f : Nat} {y y' : X} {gf gf' : Int} {Z : Ad} {F F' F2 : Nat → Nat → Prop} {v : Value} {q b : Nat} {m : Mg} {W W' : World} (h : Mn w0 w D f y gf Z F F' v q b m W) (hw : WM w0 D f y' gf' Z F2 v W') (hm : Mw (tot F') (tot F2) W W') : Mn w0 w D f y' gf' Z F F2 v q b m W' := by
 obtain ⟨q1, q2, _⟩ := Mw.stay hm (Array.getElem?_eq_some_iff.1 h.bq).1 h.nq
 obtain ⟨p1, p2, _⟩ := Mw.stay hm (Array.getElem?_eq_some_iff.1 h.bb).1 h.nb
 exact ⟨hw, h.mw.trans hm, q1.trans h.bq, p1.trans h.bb, q2, p2⟩
theorem Mn.on {w0 w : World} {D : Wd} {f : Nat} {y : X} {gf : Int} {Z : Ad} {F F' : Nat → Nat → Prop} {v : Value} {q b : Nat} {m : Mg} {W W' : World} (h : Mn w0 w D f y gf Z F F' v q b m W) (hb : Below W.heap.size W W') : Mn w0 w D f y gf Z F F' v q b m W' := h.go (h.wm.below hb) (B.Mw.below hb)
def Ro {α : Type} (C : B.Cd α) (T : TypeId) (F : Nat → Nat → Prop) (W : World) (v : Value) (l : List α) : Prop := B.OwR C T W v l ∧ ∀ k, v.ownBlock = some k → ¬ tot F k
theorem Ro.go {α : Type} {C : B.Cd α} {T : TypeId} {F F2 : Nat → Nat → Prop} {W W' : World} {v : Value} {l : List α} (h : Ro C T F W v l) (hm : Mw (tot F) (tot F2) W W') : Ro C T F2 W' v l :=
 ⟨h.1.keep hm.fr h.2, fun k e g => h.2 k e (hm.new k (h.1.lt e) g)⟩
theorem Ro.on {α : Type} {C : B.Cd α} {T : TypeId} {F : Nat → Nat → Prop} {W W' : World} {v : Value} {l : List α} (h : Ro C T F W v l) (hb : Below W.heap.size W W') : Ro C T F W' v l := h.go (B.Mw.below hb)
theorem Ro.rd {α : Type} {C : B.Cd α} {T : TypeId} {F : Nat → Nat → Prop} {W : World} {a : Option Addr} {n c : Nat} {l : List α} (h : Ro C T F W (.slice a n c) l) : B.RdN C (fun k => ¬ tot F k) W a l ∧ l.length = n := by
 obtain ⟨a', c', e, g⟩ := h.1.rd h.2
 simp at e
 obtain ⟨rfl, rfl, rfl⟩ := e
 exact ⟨g, rfl⟩
theorem mpop {w0 w : World} {D : Wd} {f : Nat} {y : X} {gf : Int} {Z : Ad} {F F' : Nat → Nat → Prop} {v : Value} {q b : Nat} {m : Mg} {W : World} (h : Mn w0 w D f y gf Z F F' v q b m W) :
  Calls Tryz.prog 62 #[.pointer (some ⟨Z.qb, 0, none⟩)] W fun e w' => ∃ u F2, e = .returned u ∧ Mn w0 w D f (qX y y.nd.q.tail) gf Z F F2 v q b m w' := by
 refine (Q.qpop_any h.wm.qu).mono fun e w' ⟨he, G2, hq, hs⟩ => ?_
 obtain ⟨F2, r1, r2, _⟩ := h.wm.queue hq hs
 exact ⟨_, F2, he, h.go r1 r2⟩
theorem mstep {w0 w : World} {D : Wd} {f : Nat} {y : X} {gf : Int} {Z : Ad} {F F' : Nat → Nat → Prop} {v : Value} {q b : Nat} {m : Mg} {W : World} (h : Mn w0 w D f y gf Z F F' v q b m W) (hf : f < D.fs.length) (s cl : Int) :
  Calls Tryz.prog 63 #[.slice (nthF D.fs f).ra (nthF D.fs f).rs.length (nthF D.fs f).rc, .int .i64 s, .int .i64 cl] W fun en w' => ∃ a' c', en = .returned (.tuple #[.int .i64 (stp (nthF D.fs f).rs s cl).1, .slice a' (stp (nthF D.fs f).rs s cl).2.length c']) ∧ RdO w' a' (stp (nthF D.fs f).rs s cl).2 ∧ Mn w0 w D f y gf Z F F' v q b m w' := by
 obtain ⟨h1, h2⟩ := stp_three h.wm.wd hf
 exact (step_any W _ _ _ s cl h1 h2).mono fun en w' ⟨a', c', he, hr⟩ => ⟨a', c', he, own_rdO hr.1, h.on hr.2⟩
theorem mspread {w0 w : World} {D : Wd} {f : Nat} {y : X} {gf : Int} {Z : Ad} {F F' : Nat → Nat → Prop} {v : Value} {q b : Nat} {m : Mg} {W : World} (h : Mn w0 w D f y gf Z F F' v q b m W) (n T g : Int) {a : Option Addr} {cp : Nat} {os : List O} (hs : RdO W a os) (hl : os.length ≤ 20) (hn0 : 0 ≤ n) (hn1 : n ≤ 1099511627776) :
  Calls Tryz.prog 65 #[wv D, .int .i64 f, .int .i64 n, .int .i64 T, .int .i64 g, .slice a os.length cp] W fun en w' => ∃ va vc, en = .returned (.slice va ((spr D f n T g os).map m6).length vc) ∧ Ro B.cM 39 F' w' (.slice va ((spr D f n T g os).map m6).length vc) ((spr D f n T g os).map m6) ∧ Mn w0 w D f y gf Z F F' v q b m w' := by
 refine (spread_any W D f n T g a cp os h.wm.wd hs hl hn0 hn1).mono fun en w' ⟨vm, he, hr⟩ => ?_
 obtain ⟨va, vc, rfl⟩ := shape_of hr.1
 have hr1 := hr.1
 rw [flatM_six] at hr1
 rw [List.length_map]
 refine ⟨va, vc, he, ⟨?_, fun k e g => ?_⟩, h.on hr.2⟩
 ·show w'.ownsRow 0 _ _ _ _ _
  rw [List.length_map]
  refine ⟨hr1.1, ?_⟩
  rcases hr1.2 with g | ⟨g, cap, cur, e1, e2, e3, e4⟩
  ·exact .inl g
  ·exact .inr ⟨g, cap, cur, e1, Nat.zero_le _, e3, e4⟩
 ·have h1 := (own_lt hr1 e).2
  have h2 := h.wm.lt k g
  omega
theorem mpush {w0 w : World} {D : Wd} {f : Nat} {y : X} {gf : Int} {Z : Ad} {F F' : Nat → Nat → Prop} {v : Value} {q b : Nat} {m : Mg} {W : World} (h : Mn w0 w D f y gf Z F F' v q b m W) (p : En) {va : Option Addr} {vc : Nat} (hr : Ro B.cM 39 F' W (.slice va p.os.length vc) p.os) (hl : p.os.length ≤ 64) (h0 : A.pushE y.fl y.nd.p p = 0) :
  Calls Tryz.prog 66 #[.pointer (some ⟨Z.pb, 0, none⟩), A.ev ⟨p, va, vc⟩] W fun e w' => ∃ u F2, e = .returned u ∧ Mn w0 w D f { y with nd := { y.nd with p := y.nd.p ++ [p] } } gf Z F F2 v q b m w' ∧ Ro B.cM 39 F2 w' (.slice va p.os.length vc) p.os := by
 obtain ⟨h1, v0, hpp⟩ := h.wm.pa
 refine (A.push_any hpp (x := ⟨p, va, vc⟩) ⟨hr.rd.1, hl⟩).mono fun e w' ⟨v', he, hp, hm⟩ => ?_
 have hL : A.pushL y.fl y.nd.p p = y.nd.p ++ [p] := by unfold A.pushL; rw [if_pos h0]
 have hp' : A.PP (fun k => k < W.heap.size ∧ ¬ F' 2 k) w' y.fl (y.nd.p ++ [p]) Z.pb v' := by rw [← hL]; exact hp
 obtain ⟨g1, g2⟩ := PT.after h1 hpp hp' hm
 obtain ⟨F2, r1, r2, _⟩ := h.wm.past g1 g2
 exact ⟨_, F2, he, h.go r1 r2, hr.go r2⟩
theorem mhold {w0 w : World} {D : Wd} {f : Nat} {y : X} {gf : Int} {Z : Ad} {F F' : Nat → Nat → Prop} {v : Value} {q b : Nat} {m : Mg} {W : World} (h : Mn w0 w D f y gf Z F F' v q b m W) (h01 : ∀ j, kdD D j = 0 ∨ kdD D j = 1) (k : Kg) {va : Option Addr} {n vc : Nat} {l : List Mg} (hr : Ro B.cM 39 F' W (.slice va n vc) l) (hk : gf ≤ k.1) (hl : y.nd.g.length + l.length ≤ 255) (hd : ∀ o ∈ l, 0 ≤ o.2.1 ∧ o.2.1 < (D.fs.length : Int)) :
  Calls Tryz.prog 67 #[.pointer (some ⟨Z.nb, 0, none⟩), B.kv k, .slice va n vc] W fun e w' => ∃ F2, e = .returned (.tuple #[]) ∧ Mn w0 w D f (gX y (y.nd.g ++ hol (fe D f).op k l)) gf Z F F2 v q b m w' ∧ Ro B.cM 39 F2 w' (.slice va n vc) l := by
 obtain ⟨h1, h2⟩ := hr.rd
 exact (nhold h.wm h01 k h1 (fun b g => g) h2 hk (by rw [← h2]; exact hl) hd).mono fun e w' ⟨F2, he, r1, r2⟩ => ⟨F2, he, h.go r1 r2, hr.go r2⟩
theorem Mn.own {w0 w : World} {D : Wd} {f : Nat} {y : X} {gf : Int} {Z : Ad} {F F' : Nat → Nat → Prop} {v : Value} {q b : Nat} {m : Mg} {W : World} (h : Mn w0 w D f y gf Z F F' v q b m W) {i : Nat} {u : Value} {s n : Int} (he : (ncs D f y.nd.s y.nd.n Z v).setIfInBounds i u = ncs D f s n Z v) {T : TypeId} {α : Type} {C : B.Cd α} {vv : Value} {l : List α} (hr : Ro C T F' W vv l) :
  Mn w0 w D f { y with nd := { y.nd with s := s, n := n } } gf Z F F' v q b m (W.setCell ⟨Z.nb, i, none⟩ u) ∧ Ro C T F' (W.setCell ⟨Z.nb, i, none⟩ u) vv l := by
 obtain ⟨r1, r2⟩ := h.wm.own he
 exact ⟨h.go r1 r2, hr.go r2⟩
theorem Mn.reads {w0 w : World} {D : Wd} {f : Nat} {y : X} {gf : Int} {Z : Ad} {F F' : Nat → Nat → Prop} {v : Value} {q b : Nat} {m : Mg} {W : World} (h : Mn w0 w D f y gf Z F F' v q b m W) :
  W.cell? ⟨b, 0, none⟩ = some (.int .i64 m.1.1) ∧ W.cell? ⟨b, 1, none⟩ = some (.int .i64 m.1.2.1) ∧ W.cell? ⟨b, 2, none⟩ = some (.int .i64 m.1.2.2) ∧ W.cell? ⟨b, 3, none⟩ = some (.int .i64 m.2.1) ∧ W.cell? ⟨b, 4, none⟩ = some (.int .i64 m.2.2.1) ∧ W.cell? ⟨b, 5, none⟩ = some (.int .i64 m.2.2.2) ∧ b < W.heap.size ∧ q < W.heap.size ∧ Z.nb < W.heap.size ∧ ¬ Z.nb = q ∧ ¬ Z.nb = b := by
 refine ⟨?_, ?_, ?_, ?_, ?_, ?_, (Array.getElem?_eq_some_iff.1 h.bb).1, (Array.getElem?_eq_some_iff.1 h.bq).1, h.wm.nlt, fun e => h.nq ⟨0, e ▸ h.wm.rc.1⟩, fun e => h.nb ⟨0, e ▸ h.wm.rc.1⟩⟩ <;> simp [World.cell?, h.bb, mcs]
theorem Mn.fin {w0 w : World} {D : Wd} {f : Nat} {y : X} {gf : Int} {Z : Ad} {F F' : Nat → Nat → Prop} {v : Value} {q b : Nat} {m : Mg} {W w1 : World} (h : Mn w0 w D f y gf Z F F' v q b m W) (hq : w.heap.size ≤ q) (hwq : w0.heap.size ≤ w.heap.size) {vi : Value} {li : List G.It} (hg : Grw G.cI 41 W w1 vi li) (x : Dn) :
  WM w0 D f y gf Z F' v (set7 w1 q x) ∧ Mw (tot F) (tot F') w (set7 w1 q x) ∧ B.OwR G.cI 41 (set7 w1 q x) vi li ∧ (∀ k, vi.ownBlock = some k → w.heap.size ≤ k ∧ ¬ tot F' k) ∧ (set7 w1 q x).heap[q]? = some (.cells (dcs x) 49 (0, 0)) := by
 have h1 := h.on hg.2.2
 have lq := (Array.getElem?_eq_some_iff.1 h.bq).1
 have hs := h.mw.fr.size
 refine ⟨h1.wm.keep (set7_fr w1 q x) (fun k g e => h1.nq (e ▸ g)) (fun k e => by omega), ⟨h1.mw.fr.trans (set7_fr w1 q x) (fun k hk e => by omega), fun k hk g => h1.mw.new k hk g⟩, hg.1.keep (set7_fr w1 q x) (fun k e e2 => ?_), fun k e => ?_, set7_heap h1.bq x⟩
 ·have := hg.2.1 k e
  omega
 ·have := hg.2.1 k e
  exact ⟨by omega, fun g => by have := h.wm.lt k g; omega⟩
end Go.Proofs.YtiaopafkfadmkaaGreat.V
namespace Go.Proofs.YtiaopafkfadmkaaGreat.V
open Go.RowKit Go.Shelf
set_option maxHeartbeats 8000000 in
theorem nstep_go {w0 : World} {D : Wd} {f : Nat} {x : X} {Z : Ad} {F : Nat → Nat → Prop} {v : Value} {w : World} (h : WM w0 D f x x.fl Z F v w) (hC : CfOk (cf D f)) (hE : stepE (cf D f) x = 0) (hn0 : 0 ≤ x.nd.n) (hn1 : x.nd.n ≤ 900000) (hpu : A.pushE x.fl x.nd.p (W.ent (cf D f).F (hd x) x.nd) = 0 ∧ x.fl ≤ (hd x).1.1) :
  Calls Tryz.prog 16 #[.pointer (some ⟨Z.nb, 0, none⟩)] w (SPo w0 D f Z F v w x) := by
 have mixed : Tryz.prog.follows .mixedOrders = true := by kernel_rfl
 obtain ⟨e1, e2, e3, e4⟩ := stepE_0 hE
 obtain ⟨W0, hW0⟩ : ∃ W0, W0 = w.alloc (.cells #[.int .i64 0, .int .i64 0, .int .i64 0, .int .i64 0, .int .i64 0, .int .i64 0, .int .i64 0] 49) := ⟨_, rfl⟩
 have hb0 : Below w.heap.size w W0 := by rw [hW0]; exact B.al _ _
 obtain ⟨q, hq⟩ : ∃ q, w.heap.size = q := ⟨_, rfl⟩
 have bx : W0.heap[q]? = some (.cells (dcs zeroD) 49 (0, 0)) := by rw [hW0, ← hq]; exact G.newB _ _
 have lq : q < W0.heap.size := (Array.getElem?_eq_some_iff.1 bx).1
 have HQ : Hid (w.heap.size = q) := hq
 have hww0 : w0.heap.size ≤ w.heap.size := h.sep.bel.size
 have HW0 : Hid (w0.heap.size ≤ w.heap.size) := hww0
 have hwm0 := h.below hb0
 have n6 := hwm0.cells.2.2.2.2.2.2.1
 have CFI := Q.first_any hwm0.qu
 obtain ⟨m, hm⟩ : ∃ m, x.nd.q.headD Q.zeroM = m := ⟨_, rfl⟩
 have hhd : hd x = m := hm
 rw [hm, e1] at CFI
 obtain ⟨⟨m1, m2, m3⟩, m4, m5, m6⟩ := m
 obtain ⟨P, hP⟩ : ∃ P, stp (nthF D.fs f).rs x.nd.s m5 = P := ⟨_, rfl⟩
 obtain ⟨s1, os⟩ := P
 have hfn : f < D.fs.length := hC.fn
 have hos : os.length ≤ 20 := by
  have := stp_len (stp_three h.wd hfn).2 x.nd.s m5
  rw [hP] at this
  exact this
 obtain ⟨L, hL⟩ : ∃ L, (spr D f x.nd.n m1 m6 os).map V.m6 = L := ⟨_, rfl⟩
 have htk : (cf D f).F.tk x.nd.s x.nd.n ((m1, m2, m3), m4, m5, m6) = (s1, x.nd.n + (os.length : Int), L) := by
  show ((stp (nthF D.fs f).rs x.nd.s m5).1, x.nd.n + ((stp (nthF D.fs f).rs x.nd.s m5).2.length : Int), (spr D f x.nd.n m1 m6 (stp (nthF D.fs f).rs x.nd.s m5).2).map V.m6) = _
  rw [hP, hL]
 have hl24 : L.length ≤ 24 := by have := hC.ts x.nd.s x.nd.n ((m1, m2, m3), m4, m5, m6); rw [htk] at this; exact this
 have hld : ∀ o ∈ L, 0 ≤ o.2.1 ∧ o.2.1 < (D.fs.length : Int) := by have := hC.td x.nd.s x.nd.n ((m1, m2, m3), m4, m5, m6); rw [htk] at this; exact this
 have hent : W.ent (cf D f).F ((m1, m2, m3), m4, m5, m6) x.nd = ⟨((m1, m2, m3), m4, m5, m6), x.nd.s, x.nd.n, s1, L⟩ := by unfold W.ent; rw [htk]
 rw [hhd, hent] at hpu
 have hX : stepX (cf D f) x = { x with nd := ⟨s1, x.nd.n + (os.length : Int), x.nd.q.tail, x.nd.p ++ [⟨((m1, m2, m3), m4, m5, m6), x.nd.s, x.nd.n, s1, L⟩], x.nd.g ++ hol (fe D f).op (m1, m2, m3) L⟩ } := by
  unfold stepX
  rw [if_pos hE, hhd]
  unfold W.step
  rw [htk, hent]
  simp [W.gt, hol]
  rfl
 have hI : stepI (cf D f) x = L.filter (fe D f).op := by unfold stepI stepO; rw [if_pos hE, hhd, htk]; rfl
 have hD : stepD (cf D f) x = ⟨⟨m1, m2, m3, m4, m5, m6⟩, s1⟩ := by unfold stepD; rw [if_pos hE, hhd, htk]; rfl
 obtain ⟨xs, hxs⟩ : ∃ xs, stepX (cf D f) x = xs := ⟨_, rfl⟩
 have HEND : Hid (∀ F' a' n' c' W', WM w0 D f xs x.fl Z F' v W' → Mw (tot F) (tot F') w W' → B.OwR G.cI 41 W' (.slice a' n' c') (itm 0 (L.filter (fe D f).op)) → (∀ k, (Value.slice a' n' c').ownBlock = some k → w.heap.size ≤ k ∧ ¬ tot F' k) → SPo w0 D f Z F v w x (.returned (.tuple #[dv ⟨⟨m1, m2, m3, m4, m5, m6⟩, s1⟩, .slice a' n' c', .int .i64 0])) W') := fun F' a' n' c' W' g1 g2 g3 g4 => by
  refine ⟨F', a', n', c', by rw [hD, hE], ?_, g2, by rw [hI]; exact g3, g4⟩
  have : xs.fl = x.fl := by rw [← hxs, hX]
  rw [hxs, this]
  exact g1
 have HXS : Hid (xs = { x with nd := ⟨s1, x.nd.n + (os.length : Int), x.nd.q.tail, x.nd.p ++ [⟨((m1, m2, m3), m4, m5, m6), x.nd.s, x.nd.n, s1, L⟩], x.nd.g ++ hol (fe D f).op (m1, m2, m3) L⟩ }) := hxs.symm.trans hX
 have nq : ¬ tot F q := fun g => by have := h.lt _ g; omega
 have HMN : Hid (∀ w1, Below W0.heap.size W0 w1 → Mn w0 w D f x x.fl Z F F v q w1.heap.size ((m1, m2, m3), m4, m5, m6) (w1.alloc (.cells #[.int .i64 m1, .int .i64 m2, .int .i64 m3, .int .i64 m4, .int .i64 m5, .int .i64 m6] 39))) := fun w1 hb1 => by
  have hb2 : Below W0.heap.size W0 (w1.alloc (.cells #[.int .i64 m1, .int .i64 m2, .int .i64 m3, .int .i64 m4, .int .i64 m5, .int .i64 m6] 39)) := hb1.trans ((B.al w1 _).mono hb1.size)
  refine ⟨hwm0.below hb2, B.Mw.below (hb0.trans (hb2.mono hb0.size)), (hb2.block q lq).trans bx, G.newB _ _, nq, fun g => ?_⟩
  have g1 := h.lt _ g
  have g2 := hb1.size
  have g3 := hb0.size
  omega
 obtain ⟨en, hen⟩ : ∃ en, D.en = en := ⟨_, rfl⟩
 obtain ⟨pl, hpl⟩ : ∃ pl, x.nd.p.length = pl := ⟨_, rfl⟩
 obtain ⟨gl, hgl⟩ : ∃ gl, x.nd.g.length = gl := ⟨_, rfl⟩
 have HLN : Hid (∀ {b : Nat} (W : World), Mn w0 w D f x x.fl Z F F v q b ((m1, m2, m3), m4, m5, m6) W → Calls Tryz.prog 60 #[.pointer (some ⟨Z.pb, 0, none⟩)] W fun e w' => e = .returned (.int .i64 pl) ∧ W = w') := fun W hW => by
  obtain ⟨X0, v0, hp⟩ := hW.wm.pa.call
  rw [← hpl]
  exact A.len_any hp
 have HHL : Hid (∀ {b : Nat} (W : World), Mn w0 w D f x x.fl Z F F v q b ((m1, m2, m3), m4, m5, m6) W → Calls Tryz.prog 61 #[.pointer (some ⟨Z.gb, 0, none⟩)] W fun e w' => ∃ a c, e = .returned (.slice a gl c) ∧ Mn w0 w D f x x.fl Z F F v q b ((m1, m2, m3), m4, m5, m6) w') := fun W hW => by
  obtain ⟨_, vg, hg, _⟩ := hW.wm.ga
  rw [← hgl]
  exact (G.held_any hg).mono fun e w' ⟨a, c, h1, _, _, h4⟩ => ⟨a, c, h1, hW.on h4⟩
 have e2' : m1 < en := by rw [hhd] at e2; rw [← hen]; exact e2
 have he' : decide (m1 ≥ en) = false := decide_eq_false (by omega)
 have he2 : decide (en ≤ m1) = false := decide_eq_false (by omega)
 have hp1 : decide ((64 : Int) ≤ (pl : Int)) = false := decide_eq_false (by omega)
 have hg1 : decide ((192 : Int) < (gl : Int)) = false := decide_eq_false (by omega)
 rw [hW0] at CFI n6
 have HWW : Hid (W0 = w.alloc (.cells #[.int .i64 0, .int .i64 0, .int .i64 0, .int .i64 0, .int .i64 0, .int .i64 0, .int .i64 0] 49)) := hW0
 have HP : Hid (stp (nthF D.fs f).rs x.nd.s m5 = (s1, os)) := hP
 have HL : Hid ((spr D f x.nd.n m1 m6 os).map V.m6 = L) := hL
 have HPU : Hid (A.pushE x.fl x.nd.p ⟨((m1, m2, m3), m4, m5, m6), x.nd.s, x.nd.n, s1, L⟩ = 0 ∧ x.fl ≤ m1) := hpu
 have HLD : Hid (∀ o ∈ L, 0 ≤ o.2.1 ∧ o.2.1 < (D.fs.length : Int)) := hld
 have HCK : Hid (∀ j, kdD D j = 0 ∨ kdD D j = 1) := hC.kd
 obtain ⟨FD, hFD⟩ : ∃ FD, nthF D.fs f = FD := ⟨_, rfl⟩
 have hfd : ∀ w : World, (Instr.field 77 (.agg #[.int .i64 FD.kd, .int .i64 FD.lk, .int .i64 FD.st, .slice FD.ra FD.rs.length FD.rc, .slice FD.pa FD.ps.length FD.pc, .slice FD.sa FD.ss.length FD.sc, .slice FD.ia FD.is.length FD.ic]) 3).run Tryz.prog w = .ok (.slice FD.ra FD.rs.length FD.rc) w := fun _ => by kernel_rfl
 have HEN : Hid (D.en = en) := hen
 have HGL : Hid (x.nd.g.length = gl ∧ gl ≤ 192) := ⟨hgl, by omega⟩
 have HFD : Hid (nthF D.fs f = FD) := hFD
 clear hen hpl hgl hFD
 clear h hwm0 hb0 bx lq hm hhd hW0 hE htk hent hX hI hD hxs hP hL hpu hld e1 e2 e2' hC nq
 go_enter Tryz.func16, Tryz.ntmps16
 go_wp2_with (go_at_call 59; refine CFI.mono ?_; rintro e w1 ⟨rfl, hb1⟩; rw [← HWW.out] at hb1; have hb2 : Below W0.heap.size W0 (w1.alloc (.cells #[.int .i64 m1, .int .i64 m2, .int .i64 m3, .int .i64 m4, .int .i64 m5, .int .i64 m6] 39)) := hb1.trans ((B.al w1 _).mono hb1.size); have hM1 := Hid.out HMN _ hb1; obtain ⟨z0, z1, z2, z3, z4, z5, lb1, lq1, lnb, _, _⟩ := hM1.reads; obtain ⟨_, _, y2, _, _, _, y6, y7, y8, _⟩ := hM1.wm.cells; rw [Hid.out HEN] at y2; dsimp only at z0 z1 z2 z3 z4 z5; have HM1 : Hid (Mn w0 w D f x x.fl Z F F v q w1.heap.size ((m1, m2, m3), m4, m5, m6) (w1.alloc (.cells #[.int .i64 m1, .int .i64 m2, .int .i64 m3, .int .i64 m4, .int .i64 m5, .int .i64 m6] 39))) := hM1; clear hb1 hb2 hM1 CFI HMN)
 try simp only [HQ.out]
 go_quiet (fail)
 go_wp2_with (first | (go_at_call 60; refine (Hid.out HLN _ ((Hid.out HM1).on (below_drewN _ _ _))).mono ?_; rintro e w2 ⟨rfl, rfl⟩) | (go_at_call 61; refine (Hid.out HHL _ ((Hid.out HM1).on (below_drewN _ _ _))).mono ?_; rintro e w3 ⟨a3, c3, rfl, hM3⟩; obtain ⟨z0, z1, z2, z3, z4, z5, lb1, lq1, lnb, _, _⟩ := hM3.reads; obtain ⟨_, _, y2, _, _, _, y6, y7, y8, _⟩ := hM3.wm.cells; dsimp only at z0 z1 z2 z3 z4 z5; have HM3 : Hid (Mn w0 w D f x x.fl Z F F v q w1.heap.size ((m1, m2, m3), m4, m5, m6) w3) := hM3; clear hM3 HM1) | (go_at_call 62; refine (mpop (Hid.out HM3)).mono ?_; rintro e w4 ⟨u4, F4, rfl, hM4⟩; have HM4 : Hid (Mn w0 w D f (qX x x.nd.q.tail) x.fl Z F F4 v q w1.heap.size ((m1, m2, m3), m4, m5, m6) w4) := hM4; clear hM4 HM3))
 obtain ⟨b, hb⟩ : ∃ b, w1.heap.size = b := ⟨_, rfl⟩
 rw [hb] at HM4
 try rw [hb] at z0 z1 z2 z3 z4 z5 lb1
 try simp only [hb]
 clear hb
 clear z0 z1 z2 z3 z4 z5 lb1 y2 y6 y7 y8 HHL HLN lq1 lnb
 obtain ⟨x4, hx4⟩ : ∃ x4 : X, qX x x.nd.q.tail = x4 := ⟨_, rfl⟩
 rw [hx4] at HM4
 have HX4 : Hid (qX x x.nd.q.tail = x4) := hx4
 have hs4 : x4.nd.s = x.nd.s := by rw [← hx4]
 have hn4 : x4.nd.n = x.nd.n := by rw [← hx4]
 clear hx4
 obtain ⟨y0, y1, y2, y3, y4, y5, y6, y7, y8, _⟩ := HM4.out.wm.cells
 obtain ⟨z0, z1, z2, z3, z4, z5, lb1, lq1, lnb, _, _⟩ := HM4.out.reads
 dsimp only at z0 z1 z2 z3 z4 z5
 rw [hs4] at y4
 rw [hn4] at y5
 obtain ⟨xs0, hxs0⟩ : ∃ s, x.nd.s = s := ⟨_, rfl⟩
 obtain ⟨xn0, hxn0⟩ : ∃ n, x.nd.n = n := ⟨_, rfl⟩
 rw [hxs0] at y4 HP
 rw [hxn0] at y5 hn0 hn1 HL
 have HFE : Hid (Calls Tryz.prog 64 #[.pointer (some ⟨Z.nb, 0, none⟩)] w4.drew fun e w' => e = .returned (.agg #[.int .i64 FD.kd, .int .i64 FD.lk, .int .i64 FD.st, .slice FD.ra FD.rs.length FD.rc, .slice FD.pa FD.ps.length FD.pc, .slice FD.sa FD.ss.length FD.sc, .slice FD.ia FD.is.length FD.ic]) ∧ Below w4.heap.size w4 w') := by
  have := nfed (HM4.out.on (below_drew w4)).wm hfn
  rw [HFD.out] at this
  exact this.mono fun e w' ⟨h1, h2⟩ => ⟨h1, ⟨h2.os, h2.tape, h2.output, h2.size, h2.block⟩⟩
 have HST : Hid (∀ w5, Below w4.heap.size w4 w5 → Calls Tryz.prog 63 #[.slice FD.ra FD.rs.length FD.rc, .int .i64 xs0, .int .i64 m5] w5 fun en w' => ∃ a' c', en = .returned (.tuple #[.int .i64 s1, .slice a' os.length c']) ∧ RdO w' a' os ∧ Mn w0 w D f x4 x.fl Z F F4 v q b ((m1, m2, m3), m4, m5, m6) w') := fun w5 hb => by
  have := mstep (HM4.out.on hb) hfn xs0 m5
  rw [HP.out, HFD.out] at this
  exact this
 have HKP : Hid (∀ w5, Below w4.heap.size w4 w5 → w5.cell? ⟨Z.nb, 4, none⟩ = some (.int .i64 xs0) ∧ w5.cell? ⟨b, 4, none⟩ = some (.int .i64 m5)) := fun w5 hb => by
  have h1 := (HM4.out.on hb).wm.cells.2.2.2.2.1
  rw [hs4, hxs0] at h1
  exact ⟨h1, (HM4.out.on hb).reads.2.2.2.2.1⟩
 go_region_held3 (fun w' => w'.cell? ⟨Z.nb, 4, none⟩ = some (.int .i64 xs0) ∧ w'.cell? ⟨b, 4, none⟩ = some (.int .i64 m5)) (first | (go_keep; done) | exact Hid.out KEEP2 | exact Hid.out KEEP) (first
  | (go_at_call 64; refine (Hid.out HFE).mono ?_; rintro en w5 ⟨rfl, b5⟩; have HB5 : Hid (Below w4.heap.size w4 w5) := b5; have KEEP : Hid (w5.cell? ⟨Z.nb, 4, none⟩ = some (.int .i64 xs0) ∧ w5.cell? ⟨b, 4, none⟩ = some (.int .i64 m5)) := Hid.out HKP _ b5; clear b5 HFE)
  | (go_at_call 63; refine (Hid.out HST _ (Hid.out HB5)).mono ?_; rintro en w6 ⟨a1, c1, rfl, hro, hM5⟩; have HRO : Hid (RdO w6 a1 os) := hro; have HM5 : Hid (Mn w0 w D f x4 x.fl Z F F4 v q b ((m1, m2, m3), m4, m5, m6) w6) := hM5; have k1 := hM5.wm.cells.2.2.2.2.1; rw [hs4, hxs0] at k1; have KEEP2 : Hid (w6.cell? ⟨Z.nb, 4, none⟩ = some (.int .i64 xs0) ∧ w6.cell? ⟨b, 4, none⟩ = some (.int .i64 m5)) := And.intro k1 hM5.reads.2.2.2.2.1; clear hro hM5 k1 HST))
 clear KEEP KEEP2 y0 y1 y2 y3 y4 y5 y6 y7 y8 z0 z1 z2 z3 z4 z5 lb1 lq1 lnb HM4 HKP HB5
 obtain ⟨y0, y1, y2, y3, y4, y5, y6, y7, y8, _⟩ := HM5.out.wm.cells
 obtain ⟨z0, z1, z2, z3, z4, z5, lb1, lq1, lnb, _, _⟩ := HM5.out.reads
 dsimp only at z0 z1 z2 z3 z4 z5
 rw [hs4, hxs0] at y4
 rw [hn4, hxn0] at y5
 have HSP : Hid (Calls Tryz.prog 65 #[.agg #[.slice D.pa D.ps.length D.pc, .slice D.fa D.fs.length D.fc, .int .i64 D.en], .int .i64 f, .int .i64 xn0, .int .i64 m1, .int .i64 m6, .slice a1 os.length c1] w6.drew fun en w' => ∃ va vc, en = .returned (.slice va L.length vc) ∧ Ro B.cM 39 F4 w' (.slice va L.length vc) L ∧ Mn w0 w D f x4 x.fl Z F F4 v q b ((m1, m2, m3), m4, m5, m6) w') := by
  have := mspread (HM5.out.on (below_drew w6)) xn0 m1 m6 (HRO.out.below (below_drew w6)) hos hn0 (by omega) (cp := c1)
  rw [HL.out] at this
  exact this
 go_wp2
 have HNS : Hid ((x4.nd.s = x.nd.s ∧ x4.nd.n = x.nd.n) ∧ x.nd.s = xs0 ∧ x.nd.n = xn0) := ⟨⟨hs4, hn4⟩, hxs0, hxn0⟩
 have HBD : Hid (os.length ≤ 20 ∧ L.length ≤ 24 ∧ 0 ≤ xn0 ∧ xn0 ≤ 900000 ∧ x.nd.g.length ≤ 192) := ⟨hos, hl24, hn0, hn1, (by rw [HGL.out.1]; exact HGL.out.2)⟩
 clear hs4 hn4 hxs0 hxn0 hos hl24 hn0 hn1 he' he2 hp1 hg1 hfd HRO HP HL
 go_region_held3 (fun w' => w'.cell? ⟨Z.nb, 0, none⟩ = some (.slice D.pa D.ps.length D.pc) ∧ w'.cell? ⟨Z.nb, 1, none⟩ = some (.slice D.fa D.fs.length D.fc) ∧ w'.cell? ⟨Z.nb, 2, none⟩ = some (.int .i64 D.en) ∧ w'.cell? ⟨Z.nb, 3, none⟩ = some (.int .i64 f) ∧ w'.cell? ⟨Z.nb, 5, none⟩ = some (.int .i64 xn0) ∧ w'.cell? ⟨b, 0, none⟩ = some (.int .i64 m1) ∧ w'.cell? ⟨b, 5, none⟩ = some (.int .i64 m6)) (first | (go_keep; done) | exact Hid.out KEEP) (first
  | (go_at_call 65; refine (Hid.out HSP).mono ?_; rintro en w7 ⟨va, vc, rfl, hrm, hM7⟩; have HRM : Hid (Ro B.cM 39 F4 w7 (.slice va L.length vc) L) := hrm; have HM7 : Hid (Mn w0 w D f x4 x.fl Z F F4 v q b ((m1, m2, m3), m4, m5, m6) w7) := hM7; obtain ⟨p0, p1, p2, p3, p4, p5, _⟩ := hM7.wm.cells; obtain ⟨r0, _, _, _, _, r5, _⟩ := hM7.reads; rw [(Hid.out HNS).1.2, (Hid.out HNS).2.2] at p5; have KEEP : Hid (w7.cell? ⟨Z.nb, 0, none⟩ = some (.slice D.pa D.ps.length D.pc) ∧ w7.cell? ⟨Z.nb, 1, none⟩ = some (.slice D.fa D.fs.length D.fc) ∧ w7.cell? ⟨Z.nb, 2, none⟩ = some (.int .i64 D.en) ∧ w7.cell? ⟨Z.nb, 3, none⟩ = some (.int .i64 f) ∧ w7.cell? ⟨Z.nb, 5, none⟩ = some (.int .i64 xn0) ∧ w7.cell? ⟨b, 0, none⟩ = some (.int .i64 m1) ∧ w7.cell? ⟨b, 5, none⟩ = some (.int .i64 m6)) := And.intro p0 (And.intro p1 (And.intro p2 (And.intro p3 (And.intro p5 (And.intro r0 r5))))); clear hrm hM7 HSP p0 p1 p2 p3 p4 p5 r0 r5))
 clear KEEP y0 y1 y2 y3 y4 y5 y6 y7 y8 z0 z1 z2 z3 z4 z5 lb1 lq1 lnb HM5
 obtain ⟨y0, y1, y2, y3, y4, y5, y6, y7, y8, _⟩ := HM7.out.wm.cells
 obtain ⟨z0, z1, z2, z3, z4, z5, lb1, lq1, lnb, _, _⟩ := HM7.out.reads
 dsimp only at z0 z1 z2 z3 z4 z5
 rw [HNS.out.1.1, HNS.out.2.1] at y4
 rw [HNS.out.1.2, HNS.out.2.2] at y5
 obtain ⟨pe, hpe⟩ : ∃ pe : En, pe = ⟨((m1, m2, m3), m4, m5, m6), xs0, xn0, s1, L⟩ := ⟨_, rfl⟩
 obtain ⟨x5, hx5⟩ : ∃ x5 : X, { x4 with nd := { x4.nd with p := x4.nd.p ++ [pe] } } = x5 := ⟨_, rfl⟩
 have HX5 : Hid ({ x4 with nd := { x4.nd with p := x4.nd.p ++ [pe] } } = x5) := hx5
 have HSN5 : Hid (x5.nd.s = xs0 ∧ x5.nd.n = xn0) := by
  rw [← hx5]
  exact ⟨HNS.out.1.1.trans HNS.out.2.1, HNS.out.1.2.trans HNS.out.2.2⟩
 have HPS : Hid (Calls Tryz.prog 66 #[.pointer (some ⟨Z.pb, 0, none⟩), .agg #[.int .i64 m1, .int .i64 m2, .int .i64 m3, .int .i64 m4, .int .i64 m5, .int .i64 m6, .int .i64 xs0, .int .i64 xn0, .int .i64 s1, .slice va L.length vc]] w7.drew fun e w' => ∃ u F2, e = .returned u ∧ Mn w0 w D f x5 x.fl Z F F2 v q b ((m1, m2, m3), m4, m5, m6) w' ∧ Ro B.cM 39 F2 w' (.slice va L.length vc) L) := by
  have hfl : x4.fl = x.fl := by rw [← HX4.out]
  have hp4 : x4.nd.p = x.nd.p := by rw [← HX4.out]
  have h0 := HPU.out.1
  rw [HNS.out.2.1, HNS.out.2.2, ← hpe, ← hfl, ← hp4] at h0
  have hLp : pe.os = L := by rw [hpe]
  have hr : Ro B.cM 39 F4 w7.drew (.slice va pe.os.length vc) pe.os := by rw [hLp]; exact HRM.out.on (below_drew w7)
  have := mpush (HM7.out.on (below_drew w7)) pe hr (by rw [hLp]; have := HBD.out.2.1; omega) h0
  rw [hx5, hLp] at this
  have hev : A.ev ⟨pe, va, vc⟩ = .agg #[.int .i64 m1, .int .i64 m2, .int .i64 m3, .int .i64 m4, .int .i64 m5, .int .i64 m6, .int .i64 xs0, .int .i64 xn0, .int .i64 s1, .slice va L.length vc] := by rw [hpe]
  rw [hev] at this
  exact this
 have HPE : Hid (pe = ⟨((m1, m2, m3), m4, m5, m6), xs0, xn0, s1, L⟩) := hpe
 clear hx5 hpe
 go_wp2
 go_region_held3 (fun w' => w'.cell? ⟨Z.nb, 4, none⟩ = some (.int .i64 xs0) ∧ w'.cell? ⟨Z.nb, 5, none⟩ = some (.int .i64 xn0) ∧ w'.cell? ⟨Z.nb, 7, none⟩ = some (.pointer (some ⟨Z.pb, 0, none⟩)) ∧ w'.cell? ⟨b, 0, none⟩ = some (.int .i64 m1) ∧ w'.cell? ⟨b, 1, none⟩ = some (.int .i64 m2) ∧ w'.cell? ⟨b, 2, none⟩ = some (.int .i64 m3) ∧ w'.cell? ⟨b, 3, none⟩ = some (.int .i64 m4) ∧ w'.cell? ⟨b, 4, none⟩ = some (.int .i64 m5) ∧ w'.cell? ⟨b, 5, none⟩ = some (.int .i64 m6)) (first | (go_keep; done) | exact Hid.out KEEP) (first
  | (go_at_call 66; refine (Hid.out HPS).mono ?_; rintro en w8 ⟨u8, F5, rfl, hM8, hrm⟩; have HRM8 : Hid (Ro B.cM 39 F5 w8 (.slice va L.length vc) L) := hrm; have HM8 : Hid (Mn w0 w D f x5 x.fl Z F F5 v q b ((m1, m2, m3), m4, m5, m6) w8) := hM8; obtain ⟨_, _, _, _, p4, p5, _, p7, _⟩ := hM8.wm.cells; obtain ⟨r0, r1, r2, r3, r4, r5, _⟩ := hM8.reads; rw [(Hid.out HSN5).1] at p4; rw [(Hid.out HSN5).2] at p5; have KEEP : Hid (w8.cell? ⟨Z.nb, 4, none⟩ = some (.int .i64 xs0) ∧ w8.cell? ⟨Z.nb, 5, none⟩ = some (.int .i64 xn0) ∧ w8.cell? ⟨Z.nb, 7, none⟩ = some (.pointer (some ⟨Z.pb, 0, none⟩)) ∧ w8.cell? ⟨b, 0, none⟩ = some (.int .i64 m1) ∧ w8.cell? ⟨b, 1, none⟩ = some (.int .i64 m2) ∧ w8.cell? ⟨b, 2, none⟩ = some (.int .i64 m3) ∧ w8.cell? ⟨b, 3, none⟩ = some (.int .i64 m4) ∧ w8.cell? ⟨b, 4, none⟩ = some (.int .i64 m5) ∧ w8.cell? ⟨b, 5, none⟩ = some (.int .i64 m6)) := And.intro p4 (And.intro p5 (And.intro p7 (And.intro r0 (And.intro r1 (And.intro r2 (And.intro r3 (And.intro r4 r5))))))); clear hrm hM8 HPS p4 p5 p7 r0 r1 r2 r3 r4 r5))
 clear KEEP y0 y1 y2 y3 y4 y5 y6 y7 y8 z0 z1 z2 z3 z4 z5 lb1 lq1 lnb HM7 HRM
 obtain ⟨n2, hn2⟩ : ∃ n2, xn0 + (os.length : Int) = n2 := ⟨_, rfl⟩
 have hnb : 0 ≤ n2 ∧ n2 ≤ 900020 := by have := HBD.out.1; have := HBD.out.2.2.1; have := HBD.out.2.2.2.1; omega
 have hwr : IntKind.i64.wrap n2 = n2 := by rw [IntKind.wrap_i64]; omega
 obtain ⟨W9, hW9⟩ : ∃ W9, w8.setCell ⟨Z.nb, 4, none⟩ (.int .i64 s1) = W9 := ⟨_, rfl⟩
 have h9 := HM8.out.own (i := 4) (u := .int .i64 s1) (s := s1) (n := x5.nd.n) rfl HRM8.out
 obtain ⟨x6, hx6⟩ : ∃ x6 : X, { x5 with nd := { x5.nd with s := s1, n := x5.nd.n } } = x6 := ⟨_, rfl⟩
 rw [hW9, hx6] at h9
 obtain ⟨W10, hW10⟩ : ∃ W10, W9.setCell ⟨Z.nb, 5, none⟩ (.int .i64 n2) = W10 := ⟨_, rfl⟩
 have h10 := h9.1.own (i := 5) (u := .int .i64 n2) (s := x6.nd.s) (n := n2) rfl h9.2
 obtain ⟨x7, hx7⟩ : ∃ x7 : X, { x6 with nd := { x6.nd with s := x6.nd.s, n := n2 } } = x7 := ⟨_, rfl⟩
 rw [hW10, hx7] at h10
 have hg7 : x7.nd.g = x.nd.g := by rw [← hx7, ← hx6, ← HX5.out, ← HX4.out]
 have hX8 : gX x7 (x7.nd.g ++ hol (fe D f).op (m1, m2, m3) L) = xs := by
  rw [HXS.out, ← hx7, ← hx6, ← HX5.out, ← HX4.out, HPE.out, ← hn2, ← HNS.out.2.1, ← HNS.out.2.2]
 have HH0 : Hid (Calls Tryz.prog 67 #[.pointer (some ⟨Z.nb, 0, none⟩), .agg #[.int .i64 m1, .int .i64 m2, .int .i64 m3], .slice va L.length vc] W10 fun e w' => ∃ F2, e = .returned (.tuple #[]) ∧ Mn w0 w D f xs x.fl Z F F2 v q b ((m1, m2, m3), m4, m5, m6) w' ∧ Ro B.cM 39 F2 w' (.slice va L.length vc) L) := by
  have := mhold h10.1 HCK.out (m1, m2, m3) h10.2 HPU.out.2 (by rw [hg7]; have := HBD.out.2.1; have := HBD.out.2.2.2.2; omega) HLD.out
  rw [hX8] at this
  exact this
 have y4 := HM8.out.wm.cells.2.2.2.2.1
 have f8 := HM8.out.wm.froz 4
 have lnb8 := HM8.out.wm.nlt
 have y5 := h9.1.wm.cells.2.2.2.2.2.1
 have hn6 : x6.nd.n = xn0 := by rw [← hx6]; exact HSN5.out.2
 rw [hn6] at y5
 have f9 := h9.1.wm.froz 5
 have lnb9 := h9.1.wm.nlt
 have lnb10 := h10.1.wm.nlt
 obtain ⟨z0, z1, z2, z3, z4, z5, lb1, lq1, _, _, _⟩ := h10.1.reads
 dsimp only at z0 z1 z2 z3 z4 z5
 have HIT : Hid (∀ F6 W', Mn w0 w D f xs x.fl Z F F6 v q b ((m1, m2, m3), m4, m5, m6) W' → Ro B.cM 39 F6 W' (.slice va L.length vc) L → (Calls Tryz.prog 68 #[.pointer (some ⟨Z.nb, 0, none⟩), .int .i64 0, .slice va L.length vc] W'.drew fun e w' => ∃ a' n' c', e = .returned (.slice a' n' c') ∧ WM w0 D f xs x.fl Z F6 v (set7 w' q ⟨⟨m1, m2, m3, m4, m5, m6⟩, s1⟩) ∧ Mw (tot F) (tot F6) w (set7 w' q ⟨⟨m1, m2, m3, m4, m5, m6⟩, s1⟩) ∧ B.OwR G.cI 41 (set7 w' q ⟨⟨m1, m2, m3, m4, m5, m6⟩, s1⟩) (.slice a' n' c') (itm 0 (L.filter (fe D f).op)) ∧ (∀ k, (Value.slice a' n' c').ownBlock = some k → w.heap.size ≤ k ∧ ¬ tot F6 k) ∧ (set7 w' q ⟨⟨m1, m2, m3, m4, m5, m6⟩, s1⟩).heap[q]? = some (.cells (dcs ⟨⟨m1, m2, m3, m4, m5, m6⟩, s1⟩) 49 (0, 0)) ∧ w'.heap[q]? = some (.cells (dcs zeroD) 49 (0, 0)) ∧ Mn w0 w D f xs x.fl Z F F6 v q b ((m1, m2, m3), m4, m5, m6) w')) := fun F6 W' g1 g2 => by
  have g1' := g1.on (below_drew W')
  obtain ⟨r1, r2⟩ := (g2.on (below_drew W')).rd
  refine (nitems g1'.wm 0 r1 r2 (by have := HBD.out.2.1; omega) HLD.out).mono fun e w' ⟨a', n', c', he, hg⟩ => ?_
  obtain ⟨k1, k2, k3, k4, k5⟩ := g1'.fin (by rw [HQ.out]; exact Nat.le_refl _) HW0.out hg ⟨⟨m1, m2, m3, m4, m5, m6⟩, s1⟩
  exact ⟨a', n', c', he, k1, k2, k3, k4, k5, (g1'.on hg.2.2).bq, g1'.on hg.2.2⟩
 clear h9 h10 hx6 hx7 hg7 hX8 hn6 HM8 HRM8 hnb
 go_wp2_with (go_at_call 67; refine (Hid.out HH0).mono ?_; rintro e w11 ⟨F6, rfl, hM11, hr11⟩; have HM11 : Hid (Mn w0 w D f xs x.fl Z F F6 v q b ((m1, m2, m3), m4, m5, m6) w11) := hM11; have HR11 : Hid (Ro B.cM 39 F6 w11 (.slice va L.length vc) L) := hr11; clear hM11 hr11 HH0)
 clear y4 f8 lnb8 y5 f9 lnb9 lnb10 z0 z1 z2 z3 z4 z5 lb1 lq1 hW9 hW10
 obtain ⟨z0, z1, z2, z3, z4, z5, lb1, lq1, lnb, _, _⟩ := HM11.out.reads
 dsimp only at z0 z1 z2 z3 z4 z5
 obtain ⟨t0, t1, t2, t3, t4, t5, t6, tf⟩ := dn_cells HM11.out.bq
 dsimp only [zeroD] at t0 t1 t2 t3 t4 t5 t6
 have HIT1 := HIT.out F6 w11 HM11.out HR11.out
 go_region_with (go_at_call 68; refine HIT1.mono ?_; rintro e w12 ⟨a', n', c', rfl, k1, k2, k3, k4, k5, k6, hM12⟩; have HK : Hid (WM w0 D f xs x.fl Z F6 v (set7 w12 q ⟨⟨m1, m2, m3, m4, m5, m6⟩, s1⟩) ∧ Mw (tot F) (tot F6) w (set7 w12 q ⟨⟨m1, m2, m3, m4, m5, m6⟩, s1⟩) ∧ B.OwR G.cI 41 (set7 w12 q ⟨⟨m1, m2, m3, m4, m5, m6⟩, s1⟩) (.slice a' n' c') (itm 0 (L.filter (fe D f).op)) ∧ (∀ k, (Value.slice a' n' c').ownBlock = some k → w.heap.size ≤ k ∧ ¬ tot F6 k) ∧ (set7 w12 q ⟨⟨m1, m2, m3, m4, m5, m6⟩, s1⟩).heap[q]? = some (.cells (dcs ⟨⟨m1, m2, m3, m4, m5, m6⟩, s1⟩) 49 (0, 0))) := And.intro k1 (And.intro k2 (And.intro k3 (And.intro k4 k5))); obtain ⟨t0, t1, t2, t3, t4, t5, t6, tf⟩ := dn_cells k6; dsimp only [zeroD] at t0 t1 t2 t3 t4 t5 t6; obtain ⟨z0, z1, z2, z3, z4, z5, lb1, lq1, lnb, _, _⟩ := hM12.reads; dsimp only at z0 z1 z2 z3 z4 z5; clear k1 k2 k3 k4 k5 k6 hM12 HIT1)
 all_goals
  go_wp2_with fail
  generalize hwf : World.setCell _ _ _ = WF
  have hWF : WF = set7 w12 q ⟨⟨m1, m2, m3, m4, m5, m6⟩, s1⟩ := hwf.symm
  obtain ⟨k1, k2, k3, k4, k5⟩ := HK.out
  rw [← hWF] at k1 k2 k3 k5
  obtain ⟨u0, u1, u2, u3, u4, u5, u6, _⟩ := dn_cells k5
  dsimp only at u0 u1 u2 u3 u4 u5 u6
  exact bodyPost_ret (v := .tuple #[dv ⟨⟨m1, m2, m3, m4, m5, m6⟩, s1⟩, .slice a' n' c', .int .i64 0]) (by simp [results, Tryz.results16, go_sem, u0, u1, u2, u3, u4, u5, u6]) rfl (HEND.out _ _ _ _ _ k1 k2 k3 k4)
theorem nstep {w0 : World} {D : Wd} {f : Nat} {x : X} {Z : Ad} {F : Nat → Nat → Prop} {v : Value} {w : World} (h : WM w0 D f x x.fl Z F v w) (hC : CfOk (cf D f)) {N : Nat} (hi : Inv (cf D f) N x) (hN : N ≤ 300000) :
  Calls Tryz.prog 16 #[.pointer (some ⟨Z.nb, 0, none⟩)] w (SPo w0 D f Z F v w x) := by
 by_cases hE : stepE (cf D f) x = 0
 ·have := hi.sn hC
  exact nstep_go h hC hE this.1 (by omega) (step_push hC hi hE)
 ·exact nstep_idle h hE
end Go.Proofs.YtiaopafkfadmkaaGreat.V
namespace Go.Proofs.YtiaopafkfadmkaaGreat.V
open Go.RowKit Go.Shelf
theorem PN.bel {w0 : World} {C : Cf} {N : Nat} {x : X} {Z : Ad} {T : Nat → Prop} {W : World} (h : PN w0 C N x Z T W) : Below w0.heap.size w0 W := by
 obtain ⟨D, f, F, v, _, _, _, hw, _⟩ := h
 exact hw.sep.bel
theorem PN.lt {w0 : World} {C : Cf} {N : Nat} {x : X} {Z : Ad} {T : Nat → Prop} {W : World} (h : PN w0 C N x Z T W) : ∀ k, T k → k < W.heap.size := by
 obtain ⟨D, f, F, v, _, _, _, hw, rfl⟩ := h
 exact hw.lt
theorem PN.lo {w0 : World} {C : Cf} {N : Nat} {x : X} {Z : Ad} {T : Nat → Prop} {W : World} (h : PN w0 C N x Z T W) : ∀ k, T k → w0.heap.size ≤ k := by
 obtain ⟨D, f, F, v, _, _, _, hw, rfl⟩ := h
 exact fun k ⟨i, g⟩ => hw.sep.lo i k g
theorem PN.below {w0 : World} {C : Cf} {N : Nat} {x : X} {Z : Ad} {T : Nat → Prop} {W W' : World} (h : PN w0 C N x Z T W) (hb : Below W.heap.size W W') : PN w0 C N x Z T W' := by
 obtain ⟨D, f, F, v, h1, h2, h3, hw, h4⟩ := h
 exact ⟨D, f, F, v, h1, h2, h3, hw.below hb, h4⟩
theorem PN.keep {w0 : World} {C : Cf} {N : Nat} {x : X} {Z : Ad} {T S : Nat → Prop} {W W' : World} (h : PN w0 C N x Z T W) (hf : Fr S W W') (hS : ∀ k, T k → ¬ S k) (h0 : ∀ k, S k → w0.heap.size ≤ k) : PN w0 C N x Z T W' := by
 obtain ⟨D, f, F, v, h1, h2, h3, hw, rfl⟩ := h
 exact ⟨D, f, F, v, h1, h2, h3, hw.keep hf hS h0, rfl⟩
theorem PN.mono {w0 : World} {C : Cf} {N N' : Nat} {x : X} {Z : Ad} {T : Nat → Prop} {W : World} (h : PN w0 C N x Z T W) (hN : N ≤ N') : PN w0 C N' x Z T W := by
 obtain ⟨D, f, F, v, h1, h2, h3, hw, h4⟩ := h
 exact ⟨D, f, F, v, h1, h2, h3.mono hN, hw, h4⟩
theorem op_hear {w0 : World} {C : Cf} {N : Nat} {x : X} {Z : Ad} {T : Nat → Prop} {W : World} (h : PN w0 C N x Z T W) (fr k co : Int) (m : Mg) (hfr : (Lit.int .i64 fr).wf = true) (hm : B.mwf m) :
  Calls Tryz.prog 13 #[.pointer (some ⟨Z.nb, 0, none⟩), .int .i64 fr, .agg #[.int .i64 k, .int .i64 m.1.1, .int .i64 m.1.2.1, .int .i64 m.1.2.2, .int .i64 m.2.1, .int .i64 m.2.2.1, .int .i64 m.2.2.2, .int .i64 co]] W fun e w' => ∃ T' a n c, e = .returned (.tuple #[.slice a n c, .int .i64 (hearE C x fr k m)]) ∧ PN w0 C (N + 1) (hearX C x fr k m) Z T' w' ∧ Mw T T' W w' ∧ B.OwR G.cI 41 w' (.slice a n c) (itm 1 (hearI C x fr k m)) ∧ ∀ b, (Value.slice a n c).ownBlock = some b → W.heap.size ≤ b ∧ ¬ T' b := by
 obtain ⟨D, f, F, v, rfl, h2, h3, hw, rfl⟩ := h
 exact (nhear hw h2 h3 fr k co m hfr hm).mono fun e w' ⟨F', a, n, c, he, g1, g2, g3, g4⟩ => ⟨tot F', a, n, c, he, ⟨D, f, F', v, rfl, h2, hear_inv h2 h3 fr k hm, g1, rfl⟩, g2, g3, g4⟩
theorem op_step {w0 : World} {C : Cf} {N : Nat} {x : X} {Z : Ad} {T : Nat → Prop} {W : World} (h : PN w0 C N x Z T W) (hN : N ≤ 300000) :
  Calls Tryz.prog 16 #[.pointer (some ⟨Z.nb, 0, none⟩)] W fun e w' => ∃ T' a n c, e = .returned (.tuple #[dv (stepD C x), .slice a n c, .int .i64 (stepE C x)]) ∧ PN w0 C N (stepX C x) Z T' w' ∧ Mw T T' W w' ∧ B.OwR G.cI 41 w' (.slice a n c) (itm 0 (stepI C x)) ∧ ∀ b, (Value.slice a n c).ownBlock = some b → W.heap.size ≤ b ∧ ¬ T' b := by
 obtain ⟨D, f, F, v, rfl, h2, h3, hw, rfl⟩ := h
 exact (nstep hw h2 h3 hN).mono fun e w' ⟨F', a, n, c, he, g1, g2, g3, g4⟩ => ⟨tot F', a, n, c, he, ⟨D, f, F', v, rfl, h2, step_inv h2 h3, g1, rfl⟩, g2, g3, g4⟩
theorem op_state {w0 : World} {C : Cf} {N : Nat} {x : X} {Z : Ad} {T : Nat → Prop} {W : World} (h : PN w0 C N x Z T W) :
  Calls Tryz.prog 22 #[.pointer (some ⟨Z.nb, 0, none⟩)] W fun e w' => e = .returned (.int .i64 x.nd.s) ∧ W = w' := by
 obtain ⟨D, f, F, v, rfl, h2, h3, hw, rfl⟩ := h
 exact nstate hw
theorem op_floor {w0 : World} {C : Cf} {N : Nat} {x : X} {Z : Ad} {T : Nat → Prop} {W : World} (h : PN w0 C N x Z T W) :
  Calls Tryz.prog 23 #[.pointer (some ⟨Z.nb, 0, none⟩)] W fun e w' => e = .returned (.int .i64 x.fl) ∧ W = w' := by
 obtain ⟨D, f, F, v, rfl, h2, h3, hw, rfl⟩ := h
 exact nfloor hw
theorem op_waiting {w0 : World} {C : Cf} {N : Nat} {x : X} {Z : Ad} {T : Nat → Prop} {W : World} (h : PN w0 C N x Z T W) :
  Calls Tryz.prog 31 #[.pointer (some ⟨Z.nb, 0, none⟩)] W fun e w' => ∃ a c, e = .returned (.slice a x.nd.q.length c) ∧ B.OwR B.cM 39 w' (.slice a x.nd.q.length c) x.nd.q ∧ (∀ k, (Value.slice a x.nd.q.length c).ownBlock = some k → W.heap.size ≤ k) ∧ Below W.heap.size W w' := by
 obtain ⟨D, f, F, v, rfl, h2, h3, hw, rfl⟩ := h
 exact nwaiting hw
end Go.Proofs.YtiaopafkfadmkaaGreat.V
