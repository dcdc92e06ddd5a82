/- Joined: the texts that follow, each with its own sentence. -/
import Derived.Test.YtiaopafkfadmkaaGreatZVe
set_option linter.unusedVariables false
set_option maxRecDepth 100000
namespace Go.Proofs.YtiaopafkfadmkaaGreat.V
open Go.RowKit Go.Shelf
theorem anti_und {x : W.Nd} (h : W.SrtM (x.p.map A.P.m ++ x.q)) {k : Kg} (hq : Q.hasK x.q k = false) : undN k x = W.antiP k x := by
 have e1 : (undN k x).q = (W.antiP k x).q := undQ_anti h hq
 show ({ W.undo k x with q := (undN k x).q } : W.Nd) = { W.undo k x with q := (W.antiP k x).q }
 rw [e1]
set_option maxHeartbeats 2000000 in
theorem ntakeBack {w0 : World} {D : Wd} {f : Nat} {x : X} {Z : Ad} {F : Nat → Nat → Prop} {v : Value} {w : World} {N : Nat} (h : WM w0 D f x x.fl Z F v w) (hC : CfOk (cf D f)) (hI : Inv (cf D f) N x) (k : Kg) (hm : B.kwf k) :
  Calls Tryz.prog 149 #[.pointer (some ⟨Z.nb, 0, none⟩), B.kv k] w (if Q.hasK x.nd.q k = true then HPo w0 D f Z F v w { x with nd := W.antiQ k x.nd } [] .nilIface else if hasP x.nd.p k = false then HPo w0 D f Z F v w x [] (eV 4) else if 64 < x.nd.q.length + beh x.nd.p k then HPo w0 D f Z F v w x [] (eV 2) else HPo w0 D f Z F v w { x with nd := W.antiP k x.nd } (itm 1 (W.antis (fe D f) k x.nd)) .nilIface) := by
 have mixed : Tryz.prog.follows .mixedOrders = true := by kernel_rfl
 have hpl := h.pa.cap
 have hql := hI.ql
 obtain ⟨k1, k2, k3⟩ := k
 obtain ⟨W0, hW0⟩ : ∃ W0, W0 = w.alloc (.cells #[.int .i64 k1, .int .i64 k2, .int .i64 k3] 37) := ⟨_, rfl⟩
 have hb0 : Below w.heap.size w W0 := by rw [hW0]; exact B.al _ _
 have bx : W0.heap[w.heap.size]? = some (.cells #[.int .i64 k1, .int .i64 k2, .int .i64 k3] 37 (0, 0)) := by rw [hW0]; exact G.newB _ _
 obtain ⟨q, hq⟩ : ∃ q, w.heap.size = q := ⟨_, rfl⟩
 have nq : ¬ tot F q := fun g => by have := h.lt _ g; omega
 rw [hq] at bx
 have lq : q < W0.heap.size := (Array.getElem?_eq_some_iff.1 bx).1
 have HB0 : Hid (Below w.heap.size w W0) := hb0
 have hwm0 := h.below hb0
 obtain ⟨xd, hxd⟩ : ∃ xd : X, { x with nd := { x.nd with q := Q.del x.nd.q (k1, k2, k3) } } = xd := ⟨_, rfl⟩
 have HQX : Hid (∀ W F', Mw (tot F) (tot F') W0 W → q < W.heap.size ∧ ¬ tot F' q ∧ W.heap[q]? = some (.cells #[.int .i64 k1, .int .i64 k2, .int .i64 k3] 37 (0, 0))) := fun W F' hm => by
  obtain ⟨g1, g2, g3⟩ := hm.stay lq nq
  exact ⟨g3, g2, g1.trans bx⟩
 obtain ⟨fm, hfm⟩ : ∃ fm, Q.fnd x.nd.q (k1, k2, k3) = fm := ⟨_, rfl⟩
 obtain ⟨hb, hhb⟩ : ∃ hb, Q.hasK x.nd.q (k1, k2, k3) = hb := ⟨_, rfl⟩
 have HRM : Hid (∀ W, Below W0.heap.size W0 W → Calls Tryz.prog 180 #[.pointer (some ⟨Z.qb, 0, none⟩), .agg #[.int .i64 k1, .int .i64 k2, .int .i64 k3]] W fun e w' => ∃ F', e = .returned (.tuple #[.agg #[.int .i64 fm.1.1, .int .i64 fm.1.2.1, .int .i64 fm.1.2.2, .int .i64 fm.2.1, .int .i64 fm.2.2.1, .int .i64 fm.2.2.2], .bool hb]) ∧ (WM w0 D f xd x.fl Z F' v w' ∧ Mw (tot F) (tot F') W0 w') ∧ w'.cell? ⟨Z.nb, 6, none⟩ = some (.pointer (some ⟨Z.qb, 0, none⟩)) ∧ w'.cell? ⟨q, 0, none⟩ = some (.int .i64 k1) ∧ w'.cell? ⟨q, 1, none⟩ = some (.int .i64 k2) ∧ w'.cell? ⟨q, 2, none⟩ = some (.int .i64 k3)) := fun W hW => by
  refine (Q.qremove_any (hwm0.below hW).qu (k1, k2, k3) hm).mono fun e w' ⟨he, G2, g1, g2⟩ => ?_
  rw [hfm, hhb] at he
  obtain ⟨F', r1, r2, _⟩ := (hwm0.below hW).queue g1 g2
  rw [hxd] at r1
  have r3 := (B.Mw.below hW).trans r2
  obtain ⟨_, _, bq⟩ := HQX.out w' F' r3
  exact ⟨F', he, ⟨r1, r3⟩, r1.cells.2.2.2.2.2.2.1, cellB bq 0, cellB bq 1, cellB bq 2⟩
 have n6 := hwm0.cells.2.2.2.2.2.2.1
 have c0 : W0.cell? ⟨q, 0, none⟩ = some (.int .i64 k1) := cellB bx 0
 have c1 : W0.cell? ⟨q, 1, none⟩ = some (.int .i64 k2) := cellB bx 1
 have c2 : W0.cell? ⟨q, 2, none⟩ = some (.int .i64 k3) := cellB bx 2
 obtain ⟨⟨f1, f2, f3⟩, f4, f5, f6⟩ := fm
 dsimp only [B.kv] at HRM ⊢
 obtain ⟨WZ, hWZ⟩ : ∃ WZ, WZ = W0.alloc (.cells #[.int .i64 0, .int .i64 0, .int .i64 0, .int .i64 0, .int .i64 0, .int .i64 0] 39) := ⟨_, rfl⟩
 have hbz : Below W0.heap.size W0 WZ := by rw [hWZ]; exact B.al _ _
 have HBZ : Hid (Below W0.heap.size W0 WZ.drew) := hbz.drew
 have bz : WZ.heap[W0.heap.size]? = some (.cells #[.int .i64 0, .int .i64 0, .int .i64 0, .int .i64 0, .int .i64 0, .int .i64 0] 39 (0, 0)) := by rw [hWZ]; exact G.newB _ _
 obtain ⟨zb, hzb⟩ : ∃ zb, W0.heap.size = zb := ⟨_, rfl⟩
 have nz : ¬ tot F zb := fun g => by have := hwm0.lt _ g; omega
 rw [hzb] at bz
 have HZX : Hid (∀ W F', Mw (tot F) (tot F') WZ W → zb < W.heap.size ∧ ¬ tot F' zb ∧ W.heap[zb]? = some (.cells #[.int .i64 0, .int .i64 0, .int .i64 0, .int .i64 0, .int .i64 0, .int .i64 0] 39 (0, 0))) := fun W F' hm => by
  obtain ⟨g1, g2, g3⟩ := hm.stay (Array.getElem?_eq_some_iff.1 bz).1 nz
  exact ⟨g3, g2, g1.trans bz⟩
 have HRZ : Hid (Calls Tryz.prog 180 #[.pointer (some ⟨Z.qb, 0, none⟩), .agg #[.int .i64 k1, .int .i64 k2, .int .i64 k3]] WZ.drew fun e w' => ∃ F', e = .returned (.tuple #[.agg #[.int .i64 f1, .int .i64 f2, .int .i64 f3, .int .i64 f4, .int .i64 f5, .int .i64 f6], .bool hb]) ∧ (WM w0 D f xd x.fl Z F' v w' ∧ Mw (tot F) (tot F') W0 w') ∧ (w'.cell? ⟨Z.nb, 6, none⟩ = some (.pointer (some ⟨Z.qb, 0, none⟩)) ∧ w'.cell? ⟨q, 0, none⟩ = some (.int .i64 k1) ∧ w'.cell? ⟨q, 1, none⟩ = some (.int .i64 k2) ∧ w'.cell? ⟨q, 2, none⟩ = some (.int .i64 k3)) ∧ zb < w'.heap.size ∧ ¬ tot F' zb ∧ w'.heap[zb]? = some (.cells #[.int .i64 0, .int .i64 0, .int .i64 0, .int .i64 0, .int .i64 0, .int .i64 0] 39 (0, 0))) := by
  refine (Q.qremove_any (hwm0.below HBZ.out).qu (k1, k2, k3) hm).mono fun e w' ⟨he, G2, g1, g2⟩ => ?_
  rw [hfm, hhb] at he
  obtain ⟨F', r1, r2, _⟩ := (hwm0.below HBZ.out).queue g1 g2
  rw [hxd] at r1
  have r3 := (B.Mw.below HBZ.out).trans r2
  have r4 : Mw (tot F) (tot F') WZ w' := (B.Mw.below (below_drew WZ)).trans r2
  obtain ⟨_, _, bq⟩ := HQX.out w' F' r3
  exact ⟨F', he, ⟨r1, r3⟩, ⟨r1.cells.2.2.2.2.2.2.1, cellB bq 0, cellB bq 1, cellB bq 2⟩, HZX.out w' F' r4⟩
 have lnb := hwm0.nlt
 have HHB : Hid (Q.hasK x.nd.q (k1, k2, k3) = hb) := hhb
 have HXD : Hid (({ x with nd := { x.nd with q := Q.del x.nd.q (k1, k2, k3) } } : X) = xd) := hxd
 rw [hhb]
 obtain ⟨P, hP⟩ : ∃ P, (if hb = true then HPo w0 D f Z F v w { x with nd := W.antiQ (k1, k2, k3) x.nd } [] .nilIface else if hasP x.nd.p (k1, k2, k3) = false then HPo w0 D f Z F v w x [] (eV 4) else if 64 < x.nd.q.length + beh x.nd.p (k1, k2, k3) then HPo w0 D f Z F v w x [] (eV 2) else HPo w0 D f Z F v w { x with nd := W.antiP (k1, k2, k3) x.nd } (itm 1 (W.antis (fe D f) (k1, k2, k3) x.nd)) .nilIface) = P := ⟨_, rfl⟩
 rw [hP]
 have HP : Hid ((if hb = true then HPo w0 D f Z F v w { x with nd := W.antiQ (k1, k2, k3) x.nd } [] .nilIface else if hasP x.nd.p (k1, k2, k3) = false then HPo w0 D f Z F v w x [] (eV 4) else if 64 < x.nd.q.length + beh x.nd.p (k1, k2, k3) then HPo w0 D f Z F v w x [] (eV 2) else HPo w0 D f Z F v w { x with nd := W.antiP (k1, k2, k3) x.nd } (itm 1 (W.antis (fe D f) (k1, k2, k3) x.nd)) .nilIface) = P) := hP
 clear hP
 have HH0 : Hid (w0.heap.size ≤ W0.heap.size) := Nat.le_trans h.sep.bel.size hb0.size
 have HHH : Hid (WM w0 D f x x.fl Z F v w) := h
 have HII : Hid (Inv (cf D f) N x) := hI
 have HCC : Hid (CfOk (cf D f)) := hC
 have HY6 : Hid (WZ.cell? ⟨Z.nb, 6, none⟩ = some (.pointer (some ⟨Z.qb, 0, none⟩)) ∧ WZ.cell? ⟨q, 0, none⟩ = some (.int .i64 k1) ∧ WZ.cell? ⟨q, 1, none⟩ = some (.int .i64 k2) ∧ WZ.cell? ⟨q, 2, none⟩ = some (.int .i64 k3)) := by
  have g := (hbz.block q lq).trans bx
  exact ⟨(hwm0.below hbz).cells.2.2.2.2.2.2.1, cellB g 0, cellB g 1, cellB g 2⟩
 clear h bx nq hfm hhb hxd hwm0 hm hI hC bz hbz nz
 go_enter Tryz.func149, Tryz.ntmps149
 go_wp2_with fail
 rw [← hW0]
 try simp only [hq]
 clear hW0
 have hWZ' := hWZ.symm
 have nzn : ¬ zb = Z.nb := by omega
 have nzn2 : ¬ Z.nb = zb := by omega
 have nzq : ¬ zb = q := by omega
 have nzq2 : ¬ q = zb := by omega
 have l0 : W0.heap.size < WZ.heap.size := by rw [hWZ]; simp
 have y6 : WZ.cell? ⟨Z.nb, 6, none⟩ = some (.pointer (some ⟨Z.qb, 0, none⟩)) := HY6.out.1
 have y0 : WZ.cell? ⟨q, 0, none⟩ = some (.int .i64 k1) := HY6.out.2.1
 have y1 : WZ.cell? ⟨q, 1, none⟩ = some (.int .i64 k2) := HY6.out.2.2.1
 have y2 : WZ.cell? ⟨q, 2, none⟩ = some (.int .i64 k3) := HY6.out.2.2.2
 clear hWZ
 go_region_held3 (fun w' => w'.cell? ⟨Z.nb, 6, none⟩ = some (.pointer (some ⟨Z.qb, 0, none⟩)) ∧ w'.cell? ⟨q, 0, none⟩ = some (.int .i64 k1) ∧ w'.cell? ⟨q, 1, none⟩ = some (.int .i64 k2) ∧ w'.cell? ⟨q, 2, none⟩ = some (.int .i64 k3)) (first | (go_keep; done) | exact Hid.out KEEP6 | exact Hid.out KEEPA _ | exact Hid.out KEEP) (first
  | (go_at_call 180; refine (Hid.out HRM W0.drew (below_drew W0)).mono ?_; rintro e w1 ⟨F1, rfl, hw1, hk1⟩; have KEEP : Hid _ := hk1; have HW1 : Hid _ := hw1; obtain ⟨k6', k0', k1', k2'⟩ := hk1; have KEEPA : Hid (∀ o, (w1.alloc o).cell? ⟨Z.nb, 6, none⟩ = some (.pointer (some ⟨Z.qb, 0, none⟩)) ∧ (w1.alloc o).cell? ⟨q, 0, none⟩ = some (.int .i64 k1) ∧ (w1.alloc o).cell? ⟨q, 1, none⟩ = some (.int .i64 k2) ∧ (w1.alloc o).cell? ⟨q, 2, none⟩ = some (.int .i64 k3)) := (fun o => And.intro (((B.al w1 o).cell (p := ⟨Z.nb, 6, none⟩) (B.clt k6')).trans k6') (And.intro (((B.al w1 o).cell (p := ⟨q, 0, none⟩) (B.clt k0')).trans k0') (And.intro (((B.al w1 o).cell (p := ⟨q, 1, none⟩) (B.clt k1')).trans k1') (((B.al w1 o).cell (p := ⟨q, 2, none⟩) (B.clt k2')).trans k2')))); clear hw1)
  | (go_at_call 180; refine (Hid.out HRZ).mono ?_; rintro e w1 ⟨F1, rfl, hw1, hk1, lz1, hz1, bz1⟩; have KEEP : Hid _ := hk1; have HW1 : Hid _ := hw1; have HZ1 : Hid _ := And.intro hz1 bz1; obtain ⟨k6', k0', k1', k2'⟩ := hk1; have zf : ∀ j, w1.frozen? ⟨zb, j, none⟩ = false := (fun j => by simp [World.frozen?, bz1]); have z0 := cellB bz1 0; have z1 := cellB bz1 1; have z2 := cellB bz1 2; have z3 := cellB bz1 3; have z4 := cellB bz1 4; have z5 := cellB bz1 5; simp only [List.getElem?_toArray, List.getElem?_cons_zero, List.getElem?_cons_succ] at z0 z1 z2 z3 z4 z5; clear hw1 hz1 bz1; have hf6 : Fr (fun k => k = zb) w1 (((((((w1.setCell ⟨zb, 0, none⟩ (.int .i64 f1)).setCell ⟨zb, 1, none⟩ (.int .i64 f2)).setCell ⟨zb, 2, none⟩ (.int .i64 f3)).setCell ⟨zb, 3, none⟩ (.int .i64 f4)).setCell ⟨zb, 4, none⟩ (.int .i64 f5)).setCell ⟨zb, 5, none⟩ (.int .i64 f6))) := ((((((frB _ _ _ _).then (frB _ _ _ _)).then (frB _ _ _ _)).then (frB _ _ _ _)).then (frB _ _ _ _)).then (frB _ _ _ _)); have KEEP6 : Hid _ := And.intro ((hf6.cell (p := ⟨Z.nb, 6, none⟩) (B.clt k6') nzn2).trans k6') (And.intro ((hf6.cell (p := ⟨q, 0, none⟩) (B.clt k0') nzq2).trans k0') (And.intro ((hf6.cell (p := ⟨q, 1, none⟩) (B.clt k1') nzq2).trans k1') ((hf6.cell (p := ⟨q, 2, none⟩) (B.clt k2') nzq2).trans k2'))); have HF6 : Hid (Fr (fun k => k = zb) w1 (((((((w1.setCell ⟨zb, 0, none⟩ (.int .i64 f1)).setCell ⟨zb, 1, none⟩ (.int .i64 f2)).setCell ⟨zb, 2, none⟩ (.int .i64 f3)).setCell ⟨zb, 3, none⟩ (.int .i64 f4)).setCell ⟨zb, 4, none⟩ (.int .i64 f5)).setCell ⟨zb, 5, none⟩ (.int .i64 f6)))) := hf6; clear hf6))
 ·generalize hwc : World.alloc _ _ = wc
  have HXW : Hid (WM w0 D f xd x.fl Z F1 v wc) := by rw [← hwc]; exact HW1.out.1.below (B.al _ _)
  have HXM : Hid (Mw (tot F) (tot F1) W0 wc) := by rw [← hwc]; exact HW1.out.2.trans (B.Mw.below (B.al _ _))
  clear n6 c0 c1 c2 hwc y6 y0 y1 y2 k6' k0' k1' k2'
  by_cases hbt : hb = true
  ·rw [hbt]
   go_wp2
   rw [← HP.out, if_pos hbt]
   refine ⟨F1, none, 0, 0, rfl, ?_, (B.Mw.below HB0.out).trans HXM.out, B.OwR.nil _ _ _, fun b e => by simp [Value.ownBlock] at e⟩
   have e : ({ x with nd := W.antiQ (k1, k2, k3) x.nd } : X) = xd := HXD.out
   have e2 : xd.fl = x.fl := by rw [← HXD.out]
   rw [e, e2]
   exact HXW.out
  ·have hbf : hb = false := by simpa using hbt
   have hhb0 : Q.hasK x.nd.q (k1, k2, k3) = false := by rw [HHB.out]; exact hbf
   have hxx : xd = x := by
    rw [← HXD.out, Q.del_none hhb0]
   rw [hxx] at HXW
   have HHB0 : Hid (Q.hasK x.nd.q (k1, k2, k3) = false) := hhb0
   clear hxx hhb0 hbt
   rw [hbf]
   obtain ⟨lq1, nq1, bq1⟩ := HQX.out wc F1 HXM.out
   have d0 : wc.cell? ⟨q, 0, none⟩ = some (.int .i64 k1) := cellB bq1 0
   have d1 : wc.cell? ⟨q, 1, none⟩ = some (.int .i64 k2) := cellB bq1 1
   have d2 : wc.cell? ⟨q, 2, none⟩ = some (.int .i64 k3) := cellB bq1 2
   have HNO : Hid (∀ W ev, Below wc.heap.size wc W → HPo w0 D f Z F v w x [] ev (.returned (.tuple #[.slice none 0 0, ev])) W) := fun W ev hW => ⟨F1, none, 0, 0, rfl, HXW.out.below hW, ((B.Mw.below HB0.out).trans HXM.out).trans (B.Mw.below hW), B.OwR.nil _ _ _, fun b e => by simp [Value.ownBlock] at e⟩
   have HCL : Hid (∀ W, Below wc.heap.size wc W → q < W.heap.size ∧ W.cell? ⟨Z.nb, 6, none⟩ = some (.pointer (some ⟨Z.qb, 0, none⟩)) ∧ W.cell? ⟨q, 0, none⟩ = some (.int .i64 k1) ∧ W.cell? ⟨q, 1, none⟩ = some (.int .i64 k2) ∧ W.cell? ⟨q, 2, none⟩ = some (.int .i64 k3)) := fun W hW => by
    have g := (hW.block q lq1).trans bq1
    exact ⟨Nat.lt_of_lt_of_le lq1 hW.size, (HXW.out.below hW).cells.2.2.2.2.2.2.1, cellB g 0, cellB g 1, cellB g 2⟩
   have CT := nwasTaken HXW.out hpl (k1, k2, k3)
   by_cases hhp : hasP x.nd.p (k1, k2, k3) = false
   ·rw [hhp] at CT
    have HHP : Hid (hasP x.nd.p (k1, k2, k3) = false) := hhp
    clear hhp bq1 nq1
    go_wp2_with (go_at_call 181; refine CT.mono ?_; rintro e w2 ⟨rfl, hb2⟩; have HB2 : Hid _ := hb2; clear hb2 CT)
    rw [← HP.out, if_neg (by rw [hbf]; decide), if_pos HHP.out]
    exact HNO.out _ _ HB2.out
   ·have hhp2 : hasP x.nd.p (k1, k2, k3) = true := by simpa using hhp
    rw [hhp2] at CT
    have HHP : Hid (¬ hasP x.nd.p (k1, k2, k3) = false) := hhp
    clear hhp2
    have HLN : Hid (∀ W, Below wc.heap.size wc W → Calls Tryz.prog 109 #[.pointer (some ⟨Z.qb, 0, none⟩)] W.drew fun e w' => e = .returned (.int .i64 x.nd.q.length) ∧ Below W.heap.size W w') := fun W hW => (Q.qlen_any ((HXW.out.below hW).below (below_drew W)).qu).mono fun e w' ⟨h1, h2⟩ => ⟨h1, by rw [h2]; exact below_drew W⟩
    have HBE : Hid (∀ W, Below wc.heap.size wc W → Calls Tryz.prog 182 #[.pointer (some ⟨Z.nb, 0, none⟩), .agg #[.int .i64 k1, .int .i64 k2, .int .i64 k3]] W fun e w' => e = .returned (.int .i64 (beh x.nd.p (k1, k2, k3))) ∧ Below W.heap.size W w') := fun W hW => nbehind (HXW.out.below hW) hpl (k1, k2, k3)
    have hbl := beh_le x.nd.p (k1, k2, k3)
    obtain ⟨nb', hnb'⟩ : ∃ t, beh x.nd.p (k1, k2, k3) = t := ⟨_, rfl⟩
    obtain ⟨nq', hnq'⟩ : ∃ t, x.nd.q.length = t := ⟨_, rfl⟩
    rw [hnb'] at HBE hbl
    rw [hnq'] at HLN hql
    have HNN : Hid (x.nd.q.length = nq' ∧ beh x.nd.p (k1, k2, k3) = nb') := ⟨hnq', hnb'⟩
    have hb64 : nb' ≤ 64 := by omega
    have HKB : Hid (∀ W, Below wc.heap.size wc W → W.cell? ⟨Z.nb, 6, none⟩ = some (.pointer (some ⟨Z.qb, 0, none⟩)) ∧ W.cell? ⟨q, 0, none⟩ = some (.int .i64 k1) ∧ W.cell? ⟨q, 1, none⟩ = some (.int .i64 k2) ∧ W.cell? ⟨q, 2, none⟩ = some (.int .i64 k3)) := fun W hW => (HCL.out W hW).2
    obtain ⟨s0, hs0⟩ : ∃ s0 : Int, (nq' : Int) + (nb' : Int) = s0 := ⟨_, rfl⟩
    have ws0 : IntKind.i64.wrap s0 = s0 := by rw [IntKind.wrap_i64]; omega
    by_cases hfull : 64 < nq' + nb'
    ·have hfull' : (64 : Int) < s0 := by omega
     clear hhp bq1 nq1 hnb' hnq'
     go_wp2_with (go_at_call 181; refine CT.mono ?_; rintro e w2 ⟨rfl, hb2⟩; obtain ⟨lq2, x6, x0, x1, x2⟩ := Hid.out HCL _ hb2; have HB2 : Hid _ := hb2; clear hb2 CT)
     clear d0 d1 d2
     go_region_held3 (fun w' => w'.cell? ⟨Z.nb, 6, none⟩ = some (.pointer (some ⟨Z.qb, 0, none⟩)) ∧ w'.cell? ⟨q, 0, none⟩ = some (.int .i64 k1) ∧ w'.cell? ⟨q, 1, none⟩ = some (.int .i64 k2) ∧ w'.cell? ⟨q, 2, none⟩ = some (.int .i64 k3)) (first | (go_keep; done) | exact Hid.out KEEP2 | exact Hid.out KEEP) (first
      | (go_at_call 109; refine (Hid.out HLN _ (Hid.out HB2)).mono ?_; rintro e w3 ⟨rfl, hb3⟩; have hb3' := (Hid.out HB2).trans (hb3.mono (Hid.out HB2).size); have KEEP : Hid _ := Hid.out HKB _ hb3'; have HB3 : Hid _ := hb3'; clear hb3 hb3')
      | (go_at_call 182; refine (Hid.out HBE _ (Hid.out HB3)).mono ?_; rintro e w4 ⟨rfl, hb4⟩; have hb4' := (Hid.out HB3).trans (hb4.mono (Hid.out HB3).size); have KEEP2 : Hid _ := Hid.out HKB _ hb4'; have HB4 : Hid _ := hb4'; clear hb4 hb4'))
     go_wp2
     rw [← HP.out, if_neg (by rw [hbf]; decide), if_neg HHP.out, if_pos (by rw [HNN.out.1, HNN.out.2]; exact hfull)]
     exact HNO.out _ _ HB4.out
    ·have hfull' : ¬ (64 : Int) < s0 := by omega
     obtain ⟨L, hL⟩ : ∃ L, itm 1 (W.antis (fe D f) (k1, k2, k3) x.nd) = L := ⟨_, rfl⟩
     have hau := anti_und HII.out.srt HHB0.out
     have HUN : Hid (∀ W', Below wc.heap.size wc W' → Calls Tryz.prog 183 #[.pointer (some ⟨Z.nb, 0, none⟩), .agg #[.int .i64 k1, .int .i64 k2, .int .i64 k3]] W' fun e w' => ∃ F' a' n' c', e = .returned (.slice a' n' c') ∧ WM w0 D f { x with nd := W.antiP (k1, k2, k3) x.nd } x.fl Z F' v w' ∧ Mw (tot F) (tot F') w w' ∧ B.OwR G.cI 41 w' (.slice a' n' c') L ∧ ∀ b, (Value.slice a' n' c').ownBlock = some b → w.heap.size ≤ b ∧ ¬ tot F' b) := fun W' hW => by
      rw [← hL, ← hau]
      have hall := ((B.Mw.below HB0.out).trans HXM.out).trans (B.Mw.below hW)
      refine (nundo (HXW.out.below hW) (k1, k2, k3) HII.out.srt (inv_undo HCC.out HII.out) hpl (by omega)).mono fun e w' ⟨F', a', n', c', h1, h2, h3, h4, h5⟩ => ⟨F', a', n', c', h1, h2, hall.trans h3, h4, fun b g => ⟨Nat.le_trans hall.fr.size (h5 b g).1, (h5 b g).2⟩⟩
     have HLL : Hid (itm 1 (W.antis (fe D f) (k1, k2, k3) x.nd) = L) := hL
     clear hhp bq1 nq1 hnb' hnq' hL hau
     go_wp2_with (go_at_call 181; refine CT.mono ?_; rintro e w2 ⟨rfl, hb2⟩; obtain ⟨lq2, x6, x0, x1, x2⟩ := Hid.out HCL _ hb2; have HB2 : Hid _ := hb2; clear hb2 CT)
     clear d0 d1 d2
     go_region_held3 (fun w' => w'.cell? ⟨Z.nb, 6, none⟩ = some (.pointer (some ⟨Z.qb, 0, none⟩)) ∧ w'.cell? ⟨q, 0, none⟩ = some (.int .i64 k1) ∧ w'.cell? ⟨q, 1, none⟩ = some (.int .i64 k2) ∧ w'.cell? ⟨q, 2, none⟩ = some (.int .i64 k3)) (first | (go_keep; done) | exact Hid.out KEEP2 | exact Hid.out KEEP) (first
      | (go_at_call 109; refine (Hid.out HLN _ (Hid.out HB2)).mono ?_; rintro e w3 ⟨rfl, hb3⟩; have hb3' := (Hid.out HB2).trans (hb3.mono (Hid.out HB2).size); have KEEP : Hid _ := Hid.out HKB _ hb3'; have HB3 : Hid _ := hb3'; clear hb3 hb3')
      | (go_at_call 182; refine (Hid.out HBE _ (Hid.out HB3)).mono ?_; rintro e w4 ⟨rfl, hb4⟩; have hb4' := (Hid.out HB3).trans (hb4.mono (Hid.out HB3).size); have KEEP2 : Hid _ := Hid.out HKB _ hb4'; have HB4 : Hid _ := hb4'; clear hb4 hb4'))
     obtain ⟨y6, y0, y1, y2⟩ := KEEP2.out
     have lq4 := (HCL.out _ HB4.out).1
     clear x0 x1 x2 x6 KEEP
     go_wp2_with (go_at_call 183; refine (Hid.out HUN _ (Hid.out HB4)).mono ?_; rintro e w5 ⟨F5, a5, n5, c5, rfl, h5⟩; have HW5 : Hid _ := h5; clear h5 HUN)
     rw [← HP.out, if_neg (by rw [hbf]; decide), if_neg HHP.out, if_neg (by rw [HNN.out.1, HNN.out.2]; exact hfull), HLL.out]
     exact ⟨F5, a5, n5, c5, rfl, HW5.out⟩
 ·generalize hwc : World.setCell _ _ _ = wc
  have HXW : Hid (WM w0 D f xd x.fl Z F1 v wc) := by rw [← hwc]; exact HW1.out.1.keep HF6.out (fun k g e => HZ1.out.1 (e ▸ g)) (fun k e => by have := HH0.out; omega)
  have HXM : Hid (Mw (tot F) (tot F1) W0 wc) := by rw [← hwc]; exact ⟨HW1.out.2.fr.trans HF6.out (fun k hk e => by omega), HW1.out.2.new⟩
  clear n6 c0 c1 c2 hwc y6 y0 y1 y2 z0 z1 z2 z3 z4 z5 zf k6' k0' k1' k2'
  by_cases hbt : hb = true
  ·rw [hbt]
   go_wp2
   rw [← HP.out, if_pos hbt]
   refine ⟨F1, none, 0, 0, rfl, ?_, (B.Mw.below HB0.out).trans HXM.out, B.OwR.nil _ _ _, fun b e => by simp [Value.ownBlock] at e⟩
   have e : ({ x with nd := W.antiQ (k1, k2, k3) x.nd } : X) = xd := HXD.out
   have e2 : xd.fl = x.fl := by rw [← HXD.out]
   rw [e, e2]
   exact HXW.out
  ·have hbf : hb = false := by simpa using hbt
   have hhb0 : Q.hasK x.nd.q (k1, k2, k3) = false := by rw [HHB.out]; exact hbf
   have hxx : xd = x := by
    rw [← HXD.out, Q.del_none hhb0]
   rw [hxx] at HXW
   have HHB0 : Hid (Q.hasK x.nd.q (k1, k2, k3) = false) := hhb0
   clear hxx hhb0 hbt
   rw [hbf]
   obtain ⟨lq1, nq1, bq1⟩ := HQX.out wc F1 HXM.out
   have d0 : wc.cell? ⟨q, 0, none⟩ = some (.int .i64 k1) := cellB bq1 0
   have d1 : wc.cell? ⟨q, 1, none⟩ = some (.int .i64 k2) := cellB bq1 1
   have d2 : wc.cell? ⟨q, 2, none⟩ = some (.int .i64 k3) := cellB bq1 2
   have HNO : Hid (∀ W ev, Below wc.heap.size wc W → HPo w0 D f Z F v w x [] ev (.returned (.tuple #[.slice none 0 0, ev])) W) := fun W ev hW => ⟨F1, none, 0, 0, rfl, HXW.out.below hW, ((B.Mw.below HB0.out).trans HXM.out).trans (B.Mw.below hW), B.OwR.nil _ _ _, fun b e => by simp [Value.ownBlock] at e⟩
   have HCL : Hid (∀ W, Below wc.heap.size wc W → q < W.heap.size ∧ W.cell? ⟨Z.nb, 6, none⟩ = some (.pointer (some ⟨Z.qb, 0, none⟩)) ∧ W.cell? ⟨q, 0, none⟩ = some (.int .i64 k1) ∧ W.cell? ⟨q, 1, none⟩ = some (.int .i64 k2) ∧ W.cell? ⟨q, 2, none⟩ = some (.int .i64 k3)) := fun W hW => by
    have g := (hW.block q lq1).trans bq1
    exact ⟨Nat.lt_of_lt_of_le lq1 hW.size, (HXW.out.below hW).cells.2.2.2.2.2.2.1, cellB g 0, cellB g 1, cellB g 2⟩
   have CT := nwasTaken HXW.out hpl (k1, k2, k3)
   by_cases hhp : hasP x.nd.p (k1, k2, k3) = false
   ·rw [hhp] at CT
    have HHP : Hid (hasP x.nd.p (k1, k2, k3) = false) := hhp
    clear hhp bq1 nq1
    go_wp2_with (go_at_call 181; refine CT.mono ?_; rintro e w2 ⟨rfl, hb2⟩; have HB2 : Hid _ := hb2; clear hb2 CT)
    rw [← HP.out, if_neg (by rw [hbf]; decide), if_pos HHP.out]
    exact HNO.out _ _ HB2.out
   ·have hhp2 : hasP x.nd.p (k1, k2, k3) = true := by simpa using hhp
    rw [hhp2] at CT
    have HHP : Hid (¬ hasP x.nd.p (k1, k2, k3) = false) := hhp
    clear hhp2
    have HLN : Hid (∀ W, Below wc.heap.size wc W → Calls Tryz.prog 109 #[.pointer (some ⟨Z.qb, 0, none⟩)] W.drew fun e w' => e = .returned (.int .i64 x.nd.q.length) ∧ Below W.heap.size W w') := fun W hW => (Q.qlen_any ((HXW.out.below hW).below (below_drew W)).qu).mono fun e w' ⟨h1, h2⟩ => ⟨h1, by rw [h2]; exact below_drew W⟩
    have HBE : Hid (∀ W, Below wc.heap.size wc W → Calls Tryz.prog 182 #[.pointer (some ⟨Z.nb, 0, none⟩), .agg #[.int .i64 k1, .int .i64 k2, .int .i64 k3]] W fun e w' => e = .returned (.int .i64 (beh x.nd.p (k1, k2, k3))) ∧ Below W.heap.size W w') := fun W hW => nbehind (HXW.out.below hW) hpl (k1, k2, k3)
    have hbl := beh_le x.nd.p (k1, k2, k3)
    obtain ⟨nb', hnb'⟩ : ∃ t, beh x.nd.p (k1, k2, k3) = t := ⟨_, rfl⟩
    obtain ⟨nq', hnq'⟩ : ∃ t, x.nd.q.length = t := ⟨_, rfl⟩
    rw [hnb'] at HBE hbl
    rw [hnq'] at HLN hql
    have HNN : Hid (x.nd.q.length = nq' ∧ beh x.nd.p (k1, k2, k3) = nb') := ⟨hnq', hnb'⟩
    have hb64 : nb' ≤ 64 := by omega
    have HKB : Hid (∀ W, Below wc.heap.size wc W → W.cell? ⟨Z.nb, 6, none⟩ = some (.pointer (some ⟨Z.qb, 0, none⟩)) ∧ W.cell? ⟨q, 0, none⟩ = some (.int .i64 k1) ∧ W.cell? ⟨q, 1, none⟩ = some (.int .i64 k2) ∧ W.cell? ⟨q, 2, none⟩ = some (.int .i64 k3)) := fun W hW => (HCL.out W hW).2
    obtain ⟨s0, hs0⟩ : ∃ s0 : Int, (nq' : Int) + (nb' : Int) = s0 := ⟨_, rfl⟩
    have ws0 : IntKind.i64.wrap s0 = s0 := by rw [IntKind.wrap_i64]; omega
    by_cases hfull : 64 < nq' + nb'
    ·have hfull' : (64 : Int) < s0 := by omega
     clear hhp bq1 nq1 hnb' hnq'
     go_wp2_with (go_at_call 181; refine CT.mono ?_; rintro e w2 ⟨rfl, hb2⟩; obtain ⟨lq2, x6, x0, x1, x2⟩ := Hid.out HCL _ hb2; have HB2 : Hid _ := hb2; clear hb2 CT)
     clear d0 d1 d2
     go_region_held3 (fun w' => w'.cell? ⟨Z.nb, 6, none⟩ = some (.pointer (some ⟨Z.qb, 0, none⟩)) ∧ w'.cell? ⟨q, 0, none⟩ = some (.int .i64 k1) ∧ w'.cell? ⟨q, 1, none⟩ = some (.int .i64 k2) ∧ w'.cell? ⟨q, 2, none⟩ = some (.int .i64 k3)) (first | (go_keep; done) | exact Hid.out KEEP2 | exact Hid.out KEEP) (first
      | (go_at_call 109; refine (Hid.out HLN _ (Hid.out HB2)).mono ?_; rintro e w3 ⟨rfl, hb3⟩; have hb3' := (Hid.out HB2).trans (hb3.mono (Hid.out HB2).size); have KEEP : Hid _ := Hid.out HKB _ hb3'; have HB3 : Hid _ := hb3'; clear hb3 hb3')
      | (go_at_call 182; refine (Hid.out HBE _ (Hid.out HB3)).mono ?_; rintro e w4 ⟨rfl, hb4⟩; have hb4' := (Hid.out HB3).trans (hb4.mono (Hid.out HB3).size); have KEEP2 : Hid _ := Hid.out HKB _ hb4'; have HB4 : Hid _ := hb4'; clear hb4 hb4'))
     go_wp2
     rw [← HP.out, if_neg (by rw [hbf]; decide), if_neg HHP.out, if_pos (by rw [HNN.out.1, HNN.out.2]; exact hfull)]
     exact HNO.out _ _ HB4.out
    ·have hfull' : ¬ (64 : Int) < s0 := by omega
     obtain ⟨L, hL⟩ : ∃ L, itm 1 (W.antis (fe D f) (k1, k2, k3) x.nd) = L := ⟨_, rfl⟩
     have hau := anti_und HII.out.srt HHB0.out
     have HUN : Hid (∀ W', Below wc.heap.size wc W' → Calls Tryz.prog 183 #[.pointer (some ⟨Z.nb, 0, none⟩), .agg #[.int .i64 k1, .int .i64 k2, .int .i64 k3]] W' fun e w' => ∃ F' a' n' c', e = .returned (.slice a' n' c') ∧ WM w0 D f { x with nd := W.antiP (k1, k2, k3) x.nd } x.fl Z F' v w' ∧ Mw (tot F) (tot F') w w' ∧ B.OwR G.cI 41 w' (.slice a' n' c') L ∧ ∀ b, (Value.slice a' n' c').ownBlock = some b → w.heap.size ≤ b ∧ ¬ tot F' b) := fun W' hW => by
      rw [← hL, ← hau]
      have hall := ((B.Mw.below HB0.out).trans HXM.out).trans (B.Mw.below hW)
      refine (nundo (HXW.out.below hW) (k1, k2, k3) HII.out.srt (inv_undo HCC.out HII.out) hpl (by omega)).mono fun e w' ⟨F', a', n', c', h1, h2, h3, h4, h5⟩ => ⟨F', a', n', c', h1, h2, hall.trans h3, h4, fun b g => ⟨Nat.le_trans hall.fr.size (h5 b g).1, (h5 b g).2⟩⟩
     have HLL : Hid (itm 1 (W.antis (fe D f) (k1, k2, k3) x.nd) = L) := hL
     clear hhp bq1 nq1 hnb' hnq' hL hau
     go_wp2_with (go_at_call 181; refine CT.mono ?_; rintro e w2 ⟨rfl, hb2⟩; obtain ⟨lq2, x6, x0, x1, x2⟩ := Hid.out HCL _ hb2; have HB2 : Hid _ := hb2; clear hb2 CT)
     clear d0 d1 d2
     go_region_held3 (fun w' => w'.cell? ⟨Z.nb, 6, none⟩ = some (.pointer (some ⟨Z.qb, 0, none⟩)) ∧ w'.cell? ⟨q, 0, none⟩ = some (.int .i64 k1) ∧ w'.cell? ⟨q, 1, none⟩ = some (.int .i64 k2) ∧ w'.cell? ⟨q, 2, none⟩ = some (.int .i64 k3)) (first | (go_keep; done) | exact Hid.out KEEP2 | exact Hid.out KEEP) (first
      | (go_at_call 109; refine (Hid.out HLN _ (Hid.out HB2)).mono ?_; rintro e w3 ⟨rfl, hb3⟩; have hb3' := (Hid.out HB2).trans (hb3.mono (Hid.out HB2).size); have KEEP : Hid _ := Hid.out HKB _ hb3'; have HB3 : Hid _ := hb3'; clear hb3 hb3')
      | (go_at_call 182; refine (Hid.out HBE _ (Hid.out HB3)).mono ?_; rintro e w4 ⟨rfl, hb4⟩; have hb4' := (Hid.out HB3).trans (hb4.mono (Hid.out HB3).size); have KEEP2 : Hid _ := Hid.out HKB _ hb4'; have HB4 : Hid _ := hb4'; clear hb4 hb4'))
     obtain ⟨y6, y0, y1, y2⟩ := KEEP2.out
     have lq4 := (HCL.out _ HB4.out).1
     clear x0 x1 x2 x6 KEEP
     go_wp2_with (go_at_call 183; refine (Hid.out HUN _ (Hid.out HB4)).mono ?_; rintro e w5 ⟨F5, a5, n5, c5, rfl, h5⟩; have HW5 : Hid _ := h5; clear h5 HUN)
     rw [← HP.out, if_neg (by rw [hbf]; decide), if_neg HHP.out, if_neg (by rw [HNN.out.1, HNN.out.2]; exact hfull), HLL.out]
     exact ⟨F5, a5, n5, c5, rfl, HW5.out⟩
end Go.Proofs.YtiaopafkfadmkaaGreat.V
