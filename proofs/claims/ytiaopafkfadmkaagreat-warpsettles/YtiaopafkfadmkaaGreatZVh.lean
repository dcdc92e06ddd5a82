/- Joined: the texts that follow, each with its own sentence. -/
import Derived.Test.YtiaopafkfadmkaaGreatZVf
import Derived.Test.YtiaopafkfadmkaaGreatZVg
set_option linter.unusedVariables false
set_option maxRecDepth 100000
namespace Go.Proofs.YtiaopafkfadmkaaGreat.V
open Go.RowKit Go.Shelf
open Go.Proofs.YtiaopafkfadmkaaGreat.C (MapC)
theorem look1 {w : World} {b m : Nat} {P : Int → Bool} {c : Int → Int} {M : DataW Unit} (h : MapC w b m P c M) {j : Int} (hj : (Lit.int .i64 j).wf = true) :
  (Instr.lookup 96 (.map (some b)) (.int .i64 j) false).run Tryz.prog w = .ok (.int .i64 (if P j = true then c j else 0)) w := by
 obtain ⟨v, ps, hrun, hv⟩ := World.ownsMap.lookup (H := Unit) h.own Go.Proofs.YtiaopafkfadmkaaGreat.C.keyed3 Tryz.underlying96 (Go.Proofs.YtiaopafkfadmkaaGreat.C.zero3 _) (plainElem_int (H := Unit) Tryz.underlying3 (a := 0) (by decide)) (Go.Proofs.YtiaopafkfadmkaaGreat.C.keyI hj)
 obtain ⟨x, rfl, hc, _⟩ := plainElem_int_inv Tryz.underlying3 hv
 have e := congrArg Prod.fst hc
 simp only at e
 cases hp : P j
 ·rw [Maps.atKey_of_not_has (by rw [h.has j]; exact hp)] at e
  have e2 : (0 : Int) = x := by simpa using e
  subst e2
  exact hrun
 ·rw [h.val j hp] at e
  have e2 : c j = x := by simpa using e
  subst e2
  exact hrun
theorem isC_in {C : Cf} {j : Int} (h0 : 0 ≤ j) (h1 : j < C.n) : isC C j = decide (C.kd j = 0) := by
 unfold isC
 rw [decide_eq_decide]
 exact ⟨fun g => g.2.2, fun g => ⟨h0, h1, g⟩⟩
theorem upC_same {P : Int → Bool} {j : Int} (h : P j = true) : (fun i => P i || i == j) = P := by
 funext i
 by_cases e : i = j
 ·subst e; simp [h]
 ·simp [e]
set_option maxHeartbeats 2000000 in
theorem nhearBound {w0 : World} {D : Wd} {f : Nat} {x : X} {gf : Int} {Z : Ad} {F : Nat → Nat → Prop} {v : Value} {w : World} (h : WM w0 D f x gf Z F v w) (hC : CfOk (cf D f)) (hck : ∀ j, isC (cf D f) j = true → okT (x.c j) = true) (fr T : Int) (h0 : 0 ≤ fr) (h1 : fr < (D.fs.length : Int)) (hfr : (Lit.int .i64 fr).wf = true) :
  Calls Tryz.prog 101 #[.pointer (some ⟨Z.nb, 0, none⟩), .int .i64 fr, .int .i64 T] w (if kdD D fr = 0 ∧ okT T = true then (if T < x.c fr then (fun e w' => e = .returned (eV 110) ∧ w' = w) else (fun e w' => e = .returned .nilIface ∧ WM w0 D f { x with c := upC x.c fr T } gf Z F v w' ∧ Mw (tot F) (tot F) w w')) else (fun e w' => e = .returned (eV 1) ∧ w' = w)) := by
 have CK := nkind h fr h0 h1
 have n9 := h.cells.2.2.2.2.2.2.2.2.2.1
 obtain ⟨M, hM⟩ := h.ck.2
 have lk := look1 hM hfr
 have hci : isC (cf D f) fr = decide (kdD D fr = 0) := isC_in (C := cf D f) h0 h1
 have CV := Go.Proofs.YtiaopafkfadmkaaGreat.C.valid_any T
 have hov : Go.Proofs.YtiaopafkfadmkaaGreat.C.okT T = okT T := rfl
 obtain ⟨kd, hkd⟩ : ∃ kd, kdD D fr = kd := ⟨_, rfl⟩
 rw [hkd] at CK hci
 rw [hkd]
 by_cases hk : kd = 0
 ·subst hk
  have hci2 : isC (cf D f) fr = true := by rw [hci]; decide
  rw [hci2, if_pos rfl] at lk
  cases ho : okT T
  ·rw [if_neg (by simp)]
   rw [hov, ho] at CV
   clear h hM lk hci hci2
   go_enter Tryz.func101, Tryz.ntmps101
   go_wp2_with (first
    | (go_at_call 102; refine CK.mono ?_; rintro e w1 ⟨rfl, rfl⟩)
    | (go_at_call 148; refine (CV _).mono ?_; rintro e w2 ⟨rfl, rfl⟩))
   go_ret
   exact ⟨rfl, rfl⟩
  ·rw [if_pos ⟨rfl, rfl⟩]
   rw [hov, ho] at CV
   obtain ⟨ct, hct⟩ : ∃ ct, x.c fr = ct := ⟨_, rfl⟩
   rw [hct] at lk
   rw [hct]
   by_cases hlt : T < ct
   ·rw [if_pos hlt]
    clear h hM hci hci2
    go_enter Tryz.func101, Tryz.ntmps101
    go_wp2_with (first
     | (go_at_call 102; refine CK.mono ?_; rintro e w1 ⟨rfl, rfl⟩)
     | (go_at_call 148; refine (CV _).mono ?_; rintro e w2 ⟨rfl, rfl⟩))
    go_ret
    exact ⟨rfl, rfl⟩
   ·rw [if_neg hlt]
    have hTw : (Lit.int .i64 T).wf = true := by
     unfold okT at ho
     rw [decide_eq_true_iff] at ho
     exact WalkArith.wf_i64 (by omega)
    obtain ⟨W2, M2, st, hM2, hf2, hs2⟩ := hM.store (by decide) hfr hTw
    rw [hci2, if_pos rfl, upC_same hci2] at hM2
    have hup : Go.Proofs.YtiaopafkfadmkaaGreat.C.upC x.c fr T = upC x.c fr T := rfl
    rw [hup] at hM2
    obtain ⟨r1, r2⟩ := h.clock ⟨M2, hM2⟩ hf2
    have HR : Hid (WM w0 D f { x with c := upC x.c fr T } gf Z F v W2 ∧ Mw (tot F) (tot F) w W2) := ⟨r1, r2⟩
    clear h hM hci hci2 hM2 hf2 hs2 r1 r2 hup
    go_enter Tryz.func101, Tryz.ntmps101
    go_wp2_with (first
     | (go_at_call 102; refine CK.mono ?_; rintro e w1 ⟨rfl, rfl⟩)
     | (go_at_call 148; refine (CV _).mono ?_; rintro e w2 ⟨rfl, rfl⟩))
    go_ret
    exact ⟨rfl, HR.out⟩
 ·rw [if_neg (fun g => hk g.1)]
  have hk2 : (kd != 0) = true := by simpa using hk
  clear h hM lk hci
  go_enter Tryz.func101, Tryz.ntmps101
  go_wp2_with (go_at_call 102; refine CK.mono ?_; rintro e w1 ⟨rfl, rfl⟩)
  go_ret
  exact ⟨rfl, rfl⟩
def LWp (w0 : World) (D : Wd) (f : Nat) (Z : Ad) (F : Nat → Nat → Prop) (v : Value) (w : World) (x : X) (m : Mg) : Ending → World → Prop :=
 if Q.hasK x.nd.q m.1 = true ∨ hasP x.nd.p m.1 = true then HPo w0 D f Z F v w x [] (eV 3) else if 64 < x.nd.q.length + beh x.nd.p m.1 + 1 then HPo w0 D f Z F v w x [] (eV 2) else HPo w0 D f Z F v w { x with nd := W.plain m x.nd } (itm 1 (W.antis (fe D f) m.1 x.nd)) .nilIface
def TBp (w0 : World) (D : Wd) (f : Nat) (Z : Ad) (F : Nat → Nat → Prop) (v : Value) (w : World) (x : X) (k : Kg) : Ending → World → Prop :=
 if Q.hasK x.nd.q k = true then HPo w0 D f Z F v w { x with nd := W.antiQ k x.nd } [] .nilIface else if hasP x.nd.p k = false then HPo w0 D f Z F v w x [] (eV 4) else if 64 < x.nd.q.length + beh x.nd.p k then HPo w0 D f Z F v w x [] (eV 2) else HPo w0 D f Z F v w { x with nd := W.antiP k x.nd } (itm 1 (W.antis (fe D f) k x.nd)) .nilIface
def HMs (w0 : World) (D : Wd) (f : Nat) (Z : Ad) (F : Nat → Nat → Prop) (v : Value) (w : World) (x : X) (fr k : Int) (m : Mg) : Ending → World → Prop :=
 if hrL (cf D f) x fr m.1.1 = true then HPo w0 D f Z F v w x [] (eV 110) else if k = 1 then TBp w0 D f Z F v w x m.1 else LWp w0 D f Z F v w x m
theorem HPo.after {w0 : World} {D : Wd} {f : Nat} {Z : Ad} {F : Nat → Nat → Prop} {v : Value} {w W w' : World} {x : X} {L : List G.It} {ev : Value} {e : Ending} (hb : Below w.heap.size w W) (h : HPo w0 D f Z F v W x L ev e w') : HPo w0 D f Z F v w x L ev e w' := by
 obtain ⟨F', a', n', c', h1, h2, h3, h4, h5⟩ := h
 exact ⟨F', a', n', c', h1, h2, (B.Mw.below hb).trans h3, h4, fun b g => ⟨Nat.le_trans hb.size (h5 b g).1, (h5 b g).2⟩⟩
theorem LWp.after {w0 : World} {D : Wd} {f : Nat} {Z : Ad} {F : Nat → Nat → Prop} {v : Value} {w W w' : World} {x : X} {m : Mg} {e : Ending} (hb : Below w.heap.size w W) (h : LWp w0 D f Z F v W x m e w') : LWp w0 D f Z F v w x m e w' := by
 unfold LWp at h ⊢
 split at h
 ·rename_i g; rw [if_pos g]; exact h.after hb
 ·rename_i g; rw [if_neg g]
  split at h
  ·rename_i g2; rw [if_pos g2]; exact HPo.after hb h
  ·rename_i g2; rw [if_neg g2]; exact HPo.after hb h
theorem TBp.after {w0 : World} {D : Wd} {f : Nat} {Z : Ad} {F : Nat → Nat → Prop} {v : Value} {w W w' : World} {x : X} {k : Kg} {e : Ending} (hb : Below w.heap.size w W) (h : TBp w0 D f Z F v W x k e w') : TBp w0 D f Z F v w x k e w' := by
 unfold TBp at h ⊢
 split at h
 ·rename_i g; rw [if_pos g]; exact h.after hb
 ·rename_i g; rw [if_neg g]
  split at h
  ·rename_i g2; rw [if_pos g2]; exact HPo.after hb h
  ·rename_i g2; rw [if_neg g2]
   split at h
   ·rename_i g3; rw [if_pos g3]; exact HPo.after hb h
   ·rename_i g3; rw [if_neg g3]; exact HPo.after hb h
def Pr2 (e : Ending) : Prop := ∃ a n c ev, e = .returned (.tuple #[.slice a n c, ev])
theorem HPo.pr {w0 : World} {D : Wd} {f : Nat} {Z : Ad} {F : Nat → Nat → Prop} {v : Value} {w w' : World} {x : X} {L : List G.It} {ev : Value} {e : Ending} (h : HPo w0 D f Z F v w x L ev e w') : Pr2 e := by
 obtain ⟨F', a', n', c', h1, _⟩ := h
 exact ⟨a', n', c', ev, h1⟩
theorem LWp.pr {w0 : World} {D : Wd} {f : Nat} {Z : Ad} {F : Nat → Nat → Prop} {v : Value} {w w' : World} {x : X} {m : Mg} {e : Ending} (h : LWp w0 D f Z F v w x m e w') : Pr2 e := by
 unfold LWp at h
 split at h
 ·exact h.pr
 ·split at h
  ·exact HPo.pr h
  ·exact HPo.pr h
theorem TBp.pr {w0 : World} {D : Wd} {f : Nat} {Z : Ad} {F : Nat → Nat → Prop} {v : Value} {w w' : World} {x : X} {k : Kg} {e : Ending} (h : TBp w0 D f Z F v w x k e w') : Pr2 e := by
 unfold TBp at h
 split at h
 ·exact h.pr
 ·split at h
  ·exact HPo.pr h
  ·split at h
   ·exact HPo.pr h
   ·exact HPo.pr h
theorem HMs.pr {w0 : World} {D : Wd} {f : Nat} {Z : Ad} {F : Nat → Nat → Prop} {v : Value} {w w' : World} {x : X} {fr k : Int} {m : Mg} {e : Ending} (h : HMs w0 D f Z F v w x fr k m e w') : Pr2 e := by
 unfold HMs at h
 split at h
 ·exact h.pr
 ·split at h
  ·exact TBp.pr h
  ·exact LWp.pr h
theorem HMs.after {w0 : World} {D : Wd} {f : Nat} {Z : Ad} {F : Nat → Nat → Prop} {v : Value} {w W w' : World} {x : X} {fr k : Int} {m : Mg} {e : Ending} (hb : Below w.heap.size w W) (h : HMs w0 D f Z F v W x fr k m e w') : HMs w0 D f Z F v w x fr k m e w' := by
 unfold HMs at h ⊢
 split at h
 ·rename_i g; rw [if_pos g]; exact h.after hb
 ·rename_i g; rw [if_neg g]
  split at h
  ·rename_i g2; rw [if_pos g2]; exact TBp.after hb h
  ·rename_i g2; rw [if_neg g2]; exact LWp.after hb h
end Go.Proofs.YtiaopafkfadmkaaGreat.V
namespace Go.Proofs.YtiaopafkfadmkaaGreat.V
open Go.RowKit Go.Shelf
open Go.Proofs.YtiaopafkfadmkaaGreat.C (MapC)
set_option maxHeartbeats 1000000 in
theorem nhearMsg {w0 : World} {D : Wd} {f : Nat} {x : X} {Z : Ad} {F : Nat → Nat → Prop} {v : Value} {w : World} {N : Nat} (h : WM w0 D f x x.fl Z F v w) (hC : CfOk (cf D f)) (hI : Inv (cf D f) N x) (fr k co : Int) (m : Mg) (hk : k = 0 ∨ k = 1) (h0 : 0 ≤ fr) (h1 : fr < (D.fs.length : Int)) (hfr : (Lit.int .i64 fr).wf = true) (hm : B.mwf m) :
  Calls Tryz.prog 103 #[.pointer (some ⟨Z.nb, 0, none⟩), .int .i64 fr, .agg #[.int .i64 k, .int .i64 m.1.1, .int .i64 m.1.2.1, .int .i64 m.1.2.2, .int .i64 m.2.1, .int .i64 m.2.2.1, .int .i64 m.2.2.2, .int .i64 co]] w (HMs w0 D f Z F v w x fr k m) := by
 have mixed : Tryz.prog.follows .mixedOrders = true := by kernel_rfl
 have hci : isC (cf D f) fr = decide (kdD D fr = 0) := isC_in (C := cf D f) h0 h1
 obtain ⟨⟨k1, k2, k3⟩, m4, m5, m6⟩ := m
 obtain ⟨W0, hW0⟩ : ∃ W0, W0 = w.alloc (.cells #[.int .i64 k, .int .i64 k1, .int .i64 k2, .int .i64 k3, .int .i64 m4, .int .i64 m5, .int .i64 m6, .int .i64 co] 41) := ⟨_, rfl⟩
 have hb0 : Below w.heap.size w W0 := by rw [hW0]; exact B.al _ _
 have bx : W0.heap[w.heap.size]? = some (.cells #[.int .i64 k, .int .i64 k1, .int .i64 k2, .int .i64 k3, .int .i64 m4, .int .i64 m5, .int .i64 m6, .int .i64 co] 41 (0, 0)) := by rw [hW0]; exact G.newB _ _
 obtain ⟨q, hq⟩ : ∃ q, w.heap.size = q := ⟨_, rfl⟩
 rw [hq] at bx
 have lq : q < W0.heap.size := (Array.getElem?_eq_some_iff.1 bx).1
 have HB0 : Hid (Below w.heap.size w W0) := hb0
 have HH : Hid (WM w0 D f x x.fl Z F v w) := h
 have hwm0 := h.below hb0
 have n9 := hwm0.cells.2.2.2.2.2.2.2.2.2.1
 obtain ⟨M, hM⟩ := hwm0.ck.2
 have lk := hM.look hfr
 obtain ⟨fl, hfl⟩ : ∃ fl, x.fl = fl := ⟨_, rfl⟩
 have HCF : Aside (∀ n, Calls Tryz.prog 23 #[.pointer (some ⟨Z.nb, 0, none⟩)] (W0.drewN n) fun e w' => e = .returned (.int .i64 fl) ∧ w' = W0.drewN n) := fun n => (nfloor (hwm0.below (B.Fr.below ((B.Fr.refl (fun _ => False) W0).drewN n) (Nat.le_refl _) (fun _ g => g.elim)))).mono fun e w' ⟨g1, g2⟩ => ⟨by rw [g1, hfl], g2.symm⟩
 have HDN : Hid (∀ n, Below W0.heap.size W0 (W0.drewN n)) := fun n => B.Fr.below ((B.Fr.refl (fun _ => False) W0).drewN n) (Nat.le_refl _) (fun _ g => g.elim)
 have HCL : Hid (∀ W, Below W0.heap.size W0 W → q < W.heap.size ∧ W.cell? ⟨q, 0, none⟩ = some (.int .i64 k) ∧ W.cell? ⟨q, 1, none⟩ = some (.int .i64 k1) ∧ W.cell? ⟨q, 2, none⟩ = some (.int .i64 k2) ∧ W.cell? ⟨q, 3, none⟩ = some (.int .i64 k3) ∧ W.cell? ⟨q, 4, none⟩ = some (.int .i64 m4) ∧ W.cell? ⟨q, 5, none⟩ = some (.int .i64 m5) ∧ W.cell? ⟨q, 6, none⟩ = some (.int .i64 m6)) := fun W hW => by
  have g := (hW.block q lq).trans bx
  exact ⟨Nat.lt_of_lt_of_le lq hW.size, cellB g 0, cellB g 1, cellB g 2, cellB g 3, cellB g 4, cellB g 5, cellB g 6⟩
 obtain ⟨_, c0, c1, c2, c3, c4, c5, c6⟩ := HCL.out W0 (Below.refl _ _)
 obtain ⟨kd, hkd⟩ : ∃ kd, kdD D fr = kd := ⟨_, rfl⟩
 obtain ⟨ct, hct⟩ : ∃ ct, (if isC (cf D f) fr = true then x.c fr else 0) = ct := ⟨_, rfl⟩
 obtain ⟨cb, hcb⟩ : ∃ cb, isC (cf D f) fr = cb := ⟨_, rfl⟩
 have hL : hrL (cf D f) x fr k1 = decide (k1 < fl ∨ (cb = true ∧ k1 < ct)) := by
  unfold hrL
  rw [hfl, decide_eq_decide]
  show (k1 < fl ∨ (kdD D fr = 0 ∧ k1 < x.c fr)) ↔ _
  rw [← hct, ← hcb, hci]
  by_cases g : kdD D fr = 0
  ·simp [g]
  ·simp [g]
 rw [hct, hcb] at lk
 have HTB : Hid (∀ W, Below W0.heap.size W0 W → Calls Tryz.prog 149 #[.pointer (some ⟨Z.nb, 0, none⟩), .agg #[.int .i64 k1, .int .i64 k2, .int .i64 k3]] W fun e w' => ∃ a n c ev, e = .returned (.tuple #[.slice a n c, ev]) ∧ TBp w0 D f Z F v w x (k1, k2, k3) (.returned (.tuple #[.slice a n c, ev])) w') := fun W hW => by
  have hb := hb0.trans (hW.mono hb0.size)
  refine (show Calls _ _ _ W (TBp w0 D f Z F v W x (k1, k2, k3)) from ntakeBack (hwm0.below hW) hC hI (k1, k2, k3) hm.1).mono fun e w' g => ?_
  obtain ⟨a, n, c, ev, rfl⟩ := g.pr
  exact ⟨a, n, c, ev, rfl, g.after hb⟩
 have HLW : Hid (∀ W, Below W0.heap.size W0 W → Calls Tryz.prog 150 #[.pointer (some ⟨Z.nb, 0, none⟩), .agg #[.int .i64 k1, .int .i64 k2, .int .i64 k3, .int .i64 m4, .int .i64 m5, .int .i64 m6]] W fun e w' => ∃ a n c ev, e = .returned (.tuple #[.slice a n c, ev]) ∧ LWp w0 D f Z F v w x ((k1, k2, k3), m4, m5, m6) (.returned (.tuple #[.slice a n c, ev])) w') := fun W hW => by
  have hb := hb0.trans (hW.mono hb0.size)
  refine (show Calls _ _ _ W (LWp w0 D f Z F v W x ((k1, k2, k3), m4, m5, m6)) from nletWait (hwm0.below hW) hC hI ((k1, k2, k3), m4, m5, m6) hm).mono fun e w' g => ?_
  obtain ⟨a, n, c, ev, rfl⟩ := g.pr
  exact ⟨a, n, c, ev, rfl, g.after hb⟩
 have HKB : Hid (∀ W, Below W0.heap.size W0 W → W.cell? ⟨q, 1, none⟩ = some (.int .i64 k1)) := fun W hW => (HCL.out W hW).2.2.1
 unfold HMs
 dsimp only
 rw [hL]
 rw [hW0] at lk n9
 clear h hI hC hm hwm0 hM hfl hkd hct hcb hL hci bx hb0
 cases hd : decide (k1 < fl ∨ (cb = true ∧ k1 < ct))
 case true =>
  rw [if_pos rfl]
  rw [decide_eq_true_iff] at hd
  by_cases a1 : k1 < fl
  ·clear hd
   go_enter Tryz.func103, Tryz.ntmps103
   go_wp2_with fail
   rw [← hW0] at lk n9 ⊢
   try simp only [hq]
   clear hW0 hq
   go_quiet (first | (go_at_call 23; refine Calls.quiet_of_same (HCF.out _)))
   go_wp2
   go_ret2
   exact HPo.no HH.out (HB0.out.trans ((HDN.out _).mono HB0.out.size))
  ·have a2 : cb = true ∧ k1 < ct := by rcases hd with g | g; exact absurd g a1; exact g
   obtain ⟨rfl, a3⟩ := a2
   clear hd
   go_enter Tryz.func103, Tryz.ntmps103
   go_wp2_with fail
   rw [← hW0] at lk n9 ⊢
   try simp only [hq]
   clear hW0 hq
   go_quiet (first | (go_at_call 23; refine Calls.quiet_of_same (HCF.out _)))
   go_wp2
   go_ret2
   exact HPo.no HH.out (HB0.out.trans ((HDN.out _).mono HB0.out.size))
 case false =>
  rw [if_neg (by decide)]
  rw [decide_eq_false_iff_not, not_or] at hd
  obtain ⟨a1, a2⟩ := hd
  have hsp : cb = false ∨ (cb = true ∧ ¬ k1 < ct) := by
   cases cb
   ·exact Or.inl rfl
   ·exact Or.inr ⟨rfl, fun g => a2 ⟨rfl, g⟩⟩
  clear a2
  have a1d : decide (k1 < fl) = false := decide_eq_false a1
  rcases hk with rfl | rfl
  ·rw [if_neg (by decide)]
   rcases hsp with rfl | ⟨rfl, a3⟩
   ·clear a1
    go_enter Tryz.func103, Tryz.ntmps103
    go_wp2_with fail
    rw [← hW0] at lk n9 ⊢
    try simp only [hq]
    clear hW0 hq
    go_quiet (first | (go_at_call 23; refine Calls.quiet_of_same (HCF.out _)))
    go_wp2_with (go_at_call 150; refine (Hid.out HLW _ (Hid.out HDN _)).mono ?_; rintro e w2 ⟨a, n, c, ev, rfl, hp⟩; have HP : Hid _ := hp; clear hp)
    go_ret2
    exact HP.out
   ·have a3d : decide (k1 < ct) = false := decide_eq_false a3
    clear a1 a3
    go_enter Tryz.func103, Tryz.ntmps103
    go_wp2_with fail
    rw [← hW0] at lk n9 ⊢
    try simp only [hq]
    clear hW0 hq
    go_quiet (first | (go_at_call 23; refine Calls.quiet_of_same (HCF.out _)))
    go_wp2_with (go_at_call 150; refine (Hid.out HLW _ (Hid.out HDN _)).mono ?_; rintro e w2 ⟨a, n, c, ev, rfl, hp⟩; have HP : Hid _ := hp; clear hp)
    go_ret2
    exact HP.out
  ·rw [if_pos rfl]
   rcases hsp with rfl | ⟨rfl, a3⟩
   ·clear a1
    go_enter Tryz.func103, Tryz.ntmps103
    go_wp2_with fail
    rw [← hW0] at lk n9 ⊢
    try simp only [hq]
    clear hW0 hq
    go_quiet (first | (go_at_call 23; refine Calls.quiet_of_same (HCF.out _)))
    go_wp2_with (go_at_call 149; refine (Hid.out HTB _ (Hid.out HDN _)).mono ?_; rintro e w2 ⟨a, n, c, ev, rfl, hp⟩; have HP : Hid _ := hp; clear hp)
    go_ret2
    exact HP.out
   ·have a3d : decide (k1 < ct) = false := decide_eq_false a3
    clear a1 a3
    go_enter Tryz.func103, Tryz.ntmps103
    go_wp2_with fail
    rw [← hW0] at lk n9 ⊢
    try simp only [hq]
    clear hW0 hq
    go_quiet (first | (go_at_call 23; refine Calls.quiet_of_same (HCF.out _)))
    go_wp2_with (go_at_call 149; refine (Hid.out HTB _ (Hid.out HDN _)).mono ?_; rintro e w2 ⟨a, n, c, ev, rfl, hp⟩; have HP : Hid _ := hp; clear hp)
    go_ret2
    exact HP.out
end Go.Proofs.YtiaopafkfadmkaaGreat.V
namespace Go.Proofs.YtiaopafkfadmkaaGreat.V
open Go.RowKit Go.Shelf
def erV (E : Int) : Value := if E = 0 then .nilIface else eV E
def HDp (w0 : World) (D : Wd) (f : Nat) (Z : Ad) (F : Nat → Nat → Prop) (v : Value) (w : World) (x : X) (fr k : Int) (m : Mg) : Ending → World → Prop :=
 HPo w0 D f Z F v w (hearX (cf D f) x fr k m) (itm 1 (hearI (cf D f) x fr k m)) (erV (hearE (cf D f) x fr k m))
theorem HMs.hd {w0 : World} {D : Wd} {f : Nat} {Z : Ad} {F : Nat → Nat → Prop} {v : Value} {w : World} {x : X} {fr k : Int} {m : Mg} (hA : hrA (cf D f) fr = false) (hk : k = 0 ∨ (k = 1 ∧ ¬ kdD D fr = 0)) : HMs w0 D f Z F v w x fr k m = HDp w0 D f Z F v w x fr k m := by
 unfold HMs HDp
 by_cases hL : hrL (cf D f) x fr m.1.1 = true
 ·rw [if_pos hL]
  have hE : hearE (cf D f) x fr k m = 110 := by
   unfold hearE
   rw [hA, if_neg (by decide)]
   rcases hk with rfl | ⟨rfl, h1⟩
   ·rw [if_neg (by decide), if_neg (by decide), if_pos rfl, if_pos hL]
   ·rw [if_neg (by decide), if_pos rfl, if_neg (show ¬ (cf D f).kd fr = 0 from h1), if_pos hL]
  have hX : hearX (cf D f) x fr k m = x := by unfold hearX; rw [if_neg (by rw [hE]; decide)]
  have hI : hearI (cf D f) x fr k m = [] := by unfold hearI; rw [if_neg (by rw [hE]; decide)]
  rw [hX, hI, hE]
  rfl
 ·rw [if_neg hL]
  rcases hk with rfl | ⟨rfl, h1⟩
  ·rw [if_neg (by decide)]
   unfold LWp
   by_cases g1 : Q.hasK x.nd.q m.1 = true ∨ hasP x.nd.p m.1 = true
   ·rw [if_pos g1]
    have hE : hearE (cf D f) x fr 0 m = 3 := by
     unfold hearE
     rw [hA, if_neg (by decide), if_neg (by decide), if_neg (by decide), if_pos rfl, if_neg hL, if_pos g1]
    have hX : hearX (cf D f) x fr 0 m = x := by unfold hearX; rw [if_neg (by rw [hE]; decide)]
    have hI : hearI (cf D f) x fr 0 m = [] := by unfold hearI; rw [if_neg (by rw [hE]; decide)]
    rw [hX, hI, hE]
    rfl
   ·rw [if_neg g1]
    by_cases g2 : 64 < x.nd.q.length + beh x.nd.p m.1 + 1
    ·rw [if_pos g2]
     have hE : hearE (cf D f) x fr 0 m = 2 := by
      unfold hearE
      rw [hA, if_neg (by decide), if_neg (by decide), if_neg (by decide), if_pos rfl, if_neg hL, if_neg g1, if_pos g2]
     have hX : hearX (cf D f) x fr 0 m = x := by unfold hearX; rw [if_neg (by rw [hE]; decide)]
     have hI : hearI (cf D f) x fr 0 m = [] := by unfold hearI; rw [if_neg (by rw [hE]; decide)]
     rw [hX, hI, hE]
     rfl
    ·rw [if_neg g2]
     have hE : hearE (cf D f) x fr 0 m = 0 := by
      unfold hearE
      rw [hA, if_neg (by decide), if_neg (by decide), if_neg (by decide), if_pos rfl, if_neg hL, if_neg g1, if_neg g2]
     have hX : hearX (cf D f) x fr 0 m = { x with nd := W.plain m x.nd } := by unfold hearX; rw [if_pos hE, if_neg (by decide), if_neg (by decide)]
     have hI : hearI (cf D f) x fr 0 m = W.antis (cf D f).F m.1 x.nd := by
      unfold hearI
      rw [if_pos hE, if_neg (by decide), if_neg (fun g => by have := g.1; cases this)]
     rw [hX, hI, hE]
     rfl
  ·rw [if_pos rfl]
   unfold TBp
   have kne : ¬ (cf D f).kd fr = 0 := h1
   by_cases g1 : Q.hasK x.nd.q m.1 = true
   ·rw [if_pos g1]
    have hE : hearE (cf D f) x fr 1 m = 0 := by
     unfold hearE
     rw [hA, if_neg (by decide), if_neg (by decide), if_pos rfl, if_neg kne, if_neg hL, if_pos g1]
    have hX : hearX (cf D f) x fr 1 m = { x with nd := W.antiQ m.1 x.nd } := by unfold hearX; rw [if_pos hE, if_neg (by decide), if_pos rfl, if_pos g1]
    have hI : hearI (cf D f) x fr 1 m = [] := by
     unfold hearI
     rw [if_pos hE, if_neg (by decide), if_pos ⟨rfl, g1⟩]
    rw [hX, hI, hE]
    rfl
   ·rw [if_neg g1]
    by_cases g2 : hasP x.nd.p m.1 = false
    ·rw [if_pos g2]
     have hE : hearE (cf D f) x fr 1 m = 4 := by
      unfold hearE
      rw [hA, if_neg (by decide), if_neg (by decide), if_pos rfl, if_neg kne, if_neg hL, if_neg g1, if_pos g2]
     have hX : hearX (cf D f) x fr 1 m = x := by unfold hearX; rw [if_neg (by rw [hE]; decide)]
     have hI : hearI (cf D f) x fr 1 m = [] := by unfold hearI; rw [if_neg (by rw [hE]; decide)]
     rw [hX, hI, hE]
     rfl
    ·rw [if_neg g2]
     by_cases g3 : 64 < x.nd.q.length + beh x.nd.p m.1
     ·rw [if_pos g3]
      have hE : hearE (cf D f) x fr 1 m = 2 := by
       unfold hearE
       rw [hA, if_neg (by decide), if_neg (by decide), if_pos rfl, if_neg kne, if_neg hL, if_neg g1, if_neg g2, if_pos g3]
      have hX : hearX (cf D f) x fr 1 m = x := by unfold hearX; rw [if_neg (by rw [hE]; decide)]
      have hI : hearI (cf D f) x fr 1 m = [] := by unfold hearI; rw [if_neg (by rw [hE]; decide)]
      rw [hX, hI, hE]
      rfl
     ·rw [if_neg g3]
      have hE : hearE (cf D f) x fr 1 m = 0 := by
       unfold hearE
       rw [hA, if_neg (by decide), if_neg (by decide), if_pos rfl, if_neg kne, if_neg hL, if_neg g1, if_neg g2, if_neg g3]
      have hX : hearX (cf D f) x fr 1 m = { x with nd := W.antiP m.1 x.nd } := by unfold hearX; rw [if_pos hE, if_neg (by decide), if_pos rfl, if_neg g1]
      have hI : hearI (cf D f) x fr 1 m = W.antis (cf D f).F m.1 x.nd := by
       unfold hearI
       rw [if_pos hE, if_neg (by decide), if_neg (fun g => g1 g.2)]
      rw [hX, hI, hE]
      rfl
theorem HDp.no {w0 : World} {D : Wd} {f : Nat} {Z : Ad} {F : Nat → Nat → Prop} {v : Value} {w w' : World} {x : X} {fr k : Int} {m : Mg} {E : Int} (hE : hearE (cf D f) x fr k m = E) (h0 : E ≠ 0) (h : WM w0 D f x x.fl Z F v w) (hb : Below w.heap.size w w') : HDp w0 D f Z F v w x fr k m (.returned (.tuple #[.slice none 0 0, eV E])) w' := by
 unfold HDp
 have hX : hearX (cf D f) x fr k m = x := by unfold hearX; rw [if_neg (by rw [hE]; exact h0)]
 have hI : hearI (cf D f) x fr k m = [] := by unfold hearI; rw [if_neg (by rw [hE]; exact h0)]
 rw [hX, hI, hE]
 unfold erV
 rw [if_neg h0]
 exact HPo.no h hb
set_option maxHeartbeats 2000000 in
theorem nheard {w0 : World} {D : Wd} {f : Nat} {x : X} {Z : Ad} {F : Nat → Nat → Prop} {v : Value} {w : World} {N : Nat} (h : WM w0 D f x x.fl Z F v w) (hC : CfOk (cf D f)) (hI : Inv (cf D f) N x) (fr k co : Int) (m : Mg) (hfr : (Lit.int .i64 fr).wf = true) (hm : B.mwf m) :
  Calls Tryz.prog 51 #[.pointer (some ⟨Z.nb, 0, none⟩), .int .i64 fr, .agg #[.int .i64 k, .int .i64 m.1.1, .int .i64 m.1.2.1, .int .i64 m.1.2.2, .int .i64 m.2.1, .int .i64 m.2.2.1, .int .i64 m.2.2.2, .int .i64 co]] w (HDp w0 D f Z F v w x fr k m) := by
 have hfn : f < D.fs.length := hC.fn
 have hn8 : D.fs.length ≤ 8 := hC.n8
 obtain ⟨⟨k1, k2, k3⟩, m4, m5, m6⟩ := m
 obtain ⟨W0, hW0⟩ : ∃ W0, W0 = w.alloc (.cells #[.int .i64 k, .int .i64 k1, .int .i64 k2, .int .i64 k3, .int .i64 m4, .int .i64 m5, .int .i64 m6, .int .i64 co] 41) := ⟨_, rfl⟩
 have hb0 : Below w.heap.size w W0 := by rw [hW0]; exact B.al _ _
 have bx : W0.heap[w.heap.size]? = some (.cells #[.int .i64 k, .int .i64 k1, .int .i64 k2, .int .i64 k3, .int .i64 m4, .int .i64 m5, .int .i64 m6, .int .i64 co] 41 (0, 0)) := by rw [hW0]; exact G.newB _ _
 obtain ⟨q, hq⟩ : ∃ q, w.heap.size = q := ⟨_, rfl⟩
 rw [hq] at bx
 have lq : q < W0.heap.size := (Array.getElem?_eq_some_iff.1 bx).1
 have HB0 : Hid (Below w.heap.size w W0) := hb0
 have HH : Hid (WM w0 D f x x.fl Z F v w) := h
 have hwm0 := h.below hb0
 have n1 := hwm0.cells.2.1
 have n3 := hwm0.cells.2.2.2.1
 have c0 : W0.cell? ⟨q, 0, none⟩ = some (.int .i64 k) := cellB bx 0
 have c1 : W0.cell? ⟨q, 1, none⟩ = some (.int .i64 k1) := cellB bx 1
 have c2 : W0.cell? ⟨q, 2, none⟩ = some (.int .i64 k2) := cellB bx 2
 have c3 : W0.cell? ⟨q, 3, none⟩ = some (.int .i64 k3) := cellB bx 3
 have c4 : W0.cell? ⟨q, 4, none⟩ = some (.int .i64 m4) := cellB bx 4
 have c5 : W0.cell? ⟨q, 5, none⟩ = some (.int .i64 m5) := cellB bx 5
 have c6 : W0.cell? ⟨q, 6, none⟩ = some (.int .i64 m6) := cellB bx 6
 have c7 : W0.cell? ⟨q, 7, none⟩ = some (.int .i64 co) := cellB bx 7
 dsimp only
 obtain ⟨nn, hnn⟩ : ∃ nn, D.fs.length = nn := ⟨_, rfl⟩
 by_cases hA : hrA (cf D f) fr = true
 ·have hE : hearE (cf D f) x fr k ((k1, k2, k3), m4, m5, m6) = 1 := by unfold hearE; rw [if_pos hA]
  have HNO : Hid (∀ w', Below w.heap.size w w' → HDp w0 D f Z F v w x fr k ((k1, k2, k3), m4, m5, m6) (.returned (.tuple #[.slice none 0 0, eV 1])) w') := fun w' hb => HDp.no hE (by decide) HH.out hb
  unfold hrA at hA
  rw [decide_eq_true_iff] at hA
  have hA2 : fr < 0 ∨ (nn : Int) ≤ fr ∨ fr = (f : Int) := by rw [← hnn]; exact hA
  rw [hnn] at n1
  obtain ⟨P, hP⟩ : ∃ P, HDp w0 D f Z F v w x fr k ((k1, k2, k3), m4, m5, m6) = P := ⟨_, rfl⟩
  rw [hP] at HNO ⊢
  rw [hW0] at n1 n3
  clear hA hE h hwm0 hI hC hP hnn bx c0 c1 c2 c3 c4 c5 c6 c7
  by_cases a1 : fr < 0
  ·have a1d : decide (fr < 0) = true := decide_eq_true a1
   go_enter Tryz.func51, Tryz.ntmps51
   go_wp2
   first | (go_ret2; exact HNO.out _ (by rw [← hW0]; exact HB0.out)) | exact HNO.out _ (by rw [← hW0]; exact HB0.out)
  ·have a1d : decide (fr < 0) = false := decide_eq_false a1
   by_cases a2 : (nn : Int) ≤ fr
   ·have a2d : decide ((nn : Int) ≤ fr) = true := decide_eq_true a2
    go_enter Tryz.func51, Tryz.ntmps51
    go_wp2
    first | (go_ret2; exact HNO.out _ (by rw [← hW0]; exact HB0.out)) | exact HNO.out _ (by rw [← hW0]; exact HB0.out)
   ·have a2d : decide ((nn : Int) ≤ fr) = false := decide_eq_false a2
    have a3 : fr = (f : Int) := by omega
    subst a3
    go_enter Tryz.func51, Tryz.ntmps51
    go_wp2
    first | (go_ret2; exact HNO.out _ (by rw [← hW0]; exact HB0.out)) | exact HNO.out _ (by rw [← hW0]; exact HB0.out)
 ·have hAf : hrA (cf D f) fr = false := by simpa using hA
  have hA2 : ¬ (fr < 0 ∨ (nn : Int) ≤ fr ∨ fr = (f : Int)) := by
   rw [← hnn]
   unfold hrA at hAf
   rw [decide_eq_false_iff_not] at hAf
   exact hAf
  have h0 : 0 ≤ fr := by omega
  have h1 : fr < (nn : Int) := by omega
  have a1d : decide (fr < 0) = false := decide_eq_false (by omega)
  have a2d : decide ((nn : Int) ≤ fr) = false := decide_eq_false (by omega)
  have a3 : ¬ fr = (f : Int) := by omega
  have a3d : (fr == (f : Int)) = false := by simpa using a3
  have h1' : fr < (D.fs.length : Int) := by omega
  have CK := nkind hwm0 fr h0 h1'
  have CB := nhearBound hwm0 hC hI.ck fr k1 h0 h1' hfr
  have HCM : Hid (k = 0 ∨ k = 1 → Calls Tryz.prog 103 #[.pointer (some ⟨Z.nb, 0, none⟩), .int .i64 fr, .agg #[.int .i64 k, .int .i64 k1, .int .i64 k2, .int .i64 k3, .int .i64 m4, .int .i64 m5, .int .i64 m6, .int .i64 co]] W0 fun e w' => ∃ a n c ev, e = .returned (.tuple #[.slice a n c, ev]) ∧ HMs w0 D f Z F v w x fr k ((k1, k2, k3), m4, m5, m6) (.returned (.tuple #[.slice a n c, ev])) w') := fun hk => by
   refine (nhearMsg hwm0 hC hI fr k co ((k1, k2, k3), m4, m5, m6) hk h0 h1' hfr hm).mono fun e w' g => ?_
   obtain ⟨a, n, c, ev, rfl⟩ := g.pr
   exact ⟨a, n, c, ev, rfl, g.after hb0⟩
  obtain ⟨P, hP⟩ : ∃ P, HDp w0 D f Z F v w x fr k ((k1, k2, k3), m4, m5, m6) = P := ⟨_, rfl⟩
  have HNO : Hid (∀ E w', hearE (cf D f) x fr k ((k1, k2, k3), m4, m5, m6) = E → E ≠ 0 → Below w.heap.size w w' → P (.returned (.tuple #[.slice none 0 0, eV E])) w') := fun E w' hE h00 hb => by
   rw [← hP]
   exact HDp.no hE h00 HH.out hb
  obtain ⟨kd, hkd⟩ : ∃ kd, kdD D fr = kd := ⟨_, rfl⟩
  have hcfk : (cf D f).kd fr = kd := hkd
  rw [hnn] at n1
  rw [hkd] at CK CB
  by_cases e2 : k = 2
  ·have hE0 : hearE (cf D f) x fr k ((k1, k2, k3), m4, m5, m6) = (if kd = 0 ∧ okT k1 = true then (if k1 < x.c fr then 110 else 0) else 1) := by
    unfold hearE
    rw [hAf, if_neg (by decide), if_pos e2, hcfk]
   have d2 : (k == 2) = true := by simpa using e2
   by_cases g1 : kd = 0 ∧ okT k1 = true
   ·rw [if_pos g1] at hE0 CB
    by_cases g2 : k1 < x.c fr
    ·rw [if_pos g2] at hE0 CB
     have HE : Hid (hearE (cf D f) x fr k ((k1, k2, k3), m4, m5, m6) = 110) := hE0
     rw [hP]
     rw [hW0] at CB n1 n3
     clear h hwm0 hI hC hP hnn bx hE0 CK hcfk g1 g2 hAf hA hA2 hkd e2 HCM
     rw [hW0] at c0 c1 c2 c3 c4 c5 c6 c7
     go_enter Tryz.func51, Tryz.ntmps51
     go_wp2_with (go_at_call 101; refine CB.mono ?_; rintro e w2 ⟨rfl, rfl⟩)
     exact HNO.out 110 _ HE.out (by decide) (by rw [← hW0]; exact HB0.out)
    ·rw [if_neg g2] at hE0 CB
     have hX : hearX (cf D f) x fr k ((k1, k2, k3), m4, m5, m6) = { x with c := upC x.c fr k1 } := by unfold hearX; rw [if_pos hE0, if_pos e2]
     have hI2 : hearI (cf D f) x fr k ((k1, k2, k3), m4, m5, m6) = [] := by unfold hearI; rw [if_pos hE0, if_pos e2]
     have HOK : Hid (∀ w', WM w0 D f { x with c := upC x.c fr k1 } x.fl Z F v w' → Mw (tot F) (tot F) W0 w' → P (.returned (.tuple #[.slice none 0 0, .nilIface])) w') := fun w' r1 r2 => by
      rw [← hP]
      unfold HDp
      rw [hX, hI2, hE0]
      exact ⟨F, none, 0, 0, rfl, r1, (B.Mw.below HB0.out).trans r2, B.OwR.nil _ _ _, fun b e => by simp [Value.ownBlock] at e⟩
     rw [hP]
     rw [hW0] at CB n1 n3
     clear h hwm0 hI hC hP hnn bx hE0 CK hcfk g1 g2 hAf hA hA2 hkd e2 HCM hX hI2
     rw [hW0] at c0 c1 c2 c3 c4 c5 c6 c7
     go_enter Tryz.func51, Tryz.ntmps51
     go_wp2_with (go_at_call 101; refine CB.mono ?_; rintro e w2 ⟨rfl, r1, r2⟩; rw [← hW0] at r2; have HR : Hid _ := And.intro r1 r2; clear r1 r2)
     exact HOK.out _ HR.out.1 HR.out.2
   ·rw [if_neg g1] at hE0 CB
    have HE : Hid (hearE (cf D f) x fr k ((k1, k2, k3), m4, m5, m6) = 1) := hE0
    rw [hP]
    rw [hW0] at CB n1 n3
    clear h hwm0 hI hC hP hnn bx hE0 CK hcfk g1 hAf hA hA2 hkd e2 HCM
    rw [hW0] at c0 c1 c2 c3 c4 c5 c6 c7
    go_enter Tryz.func51, Tryz.ntmps51
    go_wp2_with (go_at_call 101; refine CB.mono ?_; rintro e w2 ⟨rfl, rfl⟩)
    exact HNO.out 1 _ HE.out (by decide) (by rw [← hW0]; exact HB0.out)
  ·have d2 : (k == 2) = false := by simpa using e2
   by_cases e1 : k = 1
   ·have d1 : (k == 1) = true := by simpa using e1
    by_cases g1 : kd = 0
    ·have HE : Hid (hearE (cf D f) x fr k ((k1, k2, k3), m4, m5, m6) = 1) := by
      show _ = _
      unfold hearE
      rw [hAf, if_neg (by decide), if_neg e2, if_pos e1, hcfk, if_pos g1]
     have g1d : (kd == 0) = true := by simpa using g1
     rw [hP]
     rw [hW0] at CK n1 n3
     clear h hwm0 hI hC hP hnn bx CB hcfk g1 hAf hA hA2 hkd e2 e1 HCM
     rw [hW0] at c0 c1 c2 c3 c4 c5 c6 c7
     go_enter Tryz.func51, Tryz.ntmps51
     go_wp2_with (go_at_call 102; refine CK.mono ?_; rintro e w2 ⟨rfl, rfl⟩)
     exact HNO.out 1 _ HE.out (by decide) (by rw [← hW0]; exact HB0.out)
    ·have g1d : (kd == 0) = false := by simpa using g1
     have CM := HCM.out (Or.inr e1)
     rw [HMs.hd hAf (Or.inr ⟨e1, by rw [hkd]; exact g1⟩), hP] at CM
     rw [hP]
     rw [hW0] at CK CM n1 n3
     clear h hwm0 hI hC hP hnn bx CB hcfk g1 hAf hA hA2 hkd e2 e1 HCM
     rw [hW0] at c0 c1 c2 c3 c4 c5 c6 c7
     go_enter Tryz.func51, Tryz.ntmps51
     go_wp2_with (first
      | (go_at_call 102; refine CK.mono ?_; rintro e w2 ⟨rfl, rfl⟩)
      | (go_at_call 103; refine CM.mono ?_; rintro e w2 ⟨a, n, c, ev, rfl, hp⟩; have HP : Hid _ := hp; clear hp))
     exact HP.out
   ·have d1 : (k == 1) = false := by simpa using e1
    by_cases e0 : k = 0
    ·have d0 : (k == 0) = true := by simpa using e0
     have CM := HCM.out (Or.inl e0)
     rw [HMs.hd hAf (Or.inl e0), hP] at CM
     rw [hP]
     rw [hW0] at CM n1 n3
     clear h hwm0 hI hC hP hnn bx CB CK hcfk hAf hA hA2 hkd e2 e1 e0 HCM
     rw [hW0] at c0 c1 c2 c3 c4 c5 c6 c7
     go_enter Tryz.func51, Tryz.ntmps51
     go_wp2_with (go_at_call 103; refine CM.mono ?_; rintro e w2 ⟨a, n, c, ev, rfl, hp⟩; have HP : Hid _ := hp; clear hp)
     exact HP.out
    ·have d0 : (k == 0) = false := by simpa using e0
     have HE : Hid (hearE (cf D f) x fr k ((k1, k2, k3), m4, m5, m6) = 130) := by
      show _ = _
      unfold hearE
      rw [hAf, if_neg (by decide), if_neg e2, if_neg e1, if_neg e0]
     rw [hP]
     rw [hW0] at n1 n3
     clear h hwm0 hI hC hP hnn bx CB CK hcfk hAf hA hA2 hkd e2 e1 e0 HCM
     rw [hW0] at c0 c1 c2 c3 c4 c5 c6 c7
     go_enter Tryz.func51, Tryz.ntmps51
     go_wp2
     exact HNO.out 130 _ HE.out (by decide) (by rw [← hW0]; exact HB0.out)
def HRp (w0 : World) (D : Wd) (f : Nat) (Z : Ad) (F : Nat → Nat → Prop) (v : Value) (w : World) (x : X) (fr k : Int) (m : Mg) : Ending → World → Prop :=
 HPo w0 D f Z F v w (hearX (cf D f) x fr k m) (itm 1 (hearI (cf D f) x fr k m)) (.int .i64 (hearE (cf D f) x fr k m))
theorem hearE_in (C : Cf) (x : X) (fr k : Int) (m : Mg) : hearE C x fr k m = 0 ∨ (hearE C x fr k m = 1 ∨ hearE C x fr k m = 2 ∨ hearE C x fr k m = 3 ∨ hearE C x fr k m = 4 ∨ hearE C x fr k m = 110 ∨ hearE C x fr k m = 130) := by
 unfold hearE
 repeat' split
 all_goals simp
set_option maxHeartbeats 2000000 in
theorem nhear {w0 : World} {D : Wd} {f : Nat} {x : X} {Z : Ad} {F : Nat → Nat → Prop} {v : Value} {w : World} {N : Nat} (h : WM w0 D f x x.fl Z F v w) (hC : CfOk (cf D f)) (hI : Inv (cf D f) N x) (fr k co : Int) (m : Mg) (hfr : (Lit.int .i64 fr).wf = true) (hm : B.mwf m) :
  Calls Tryz.prog 13 #[.pointer (some ⟨Z.nb, 0, none⟩), .int .i64 fr, .agg #[.int .i64 k, .int .i64 m.1.1, .int .i64 m.1.2.1, .int .i64 m.1.2.2, .int .i64 m.2.1, .int .i64 m.2.2.1, .int .i64 m.2.2.2, .int .i64 co]] w (HRp w0 D f Z F v w x fr k m) := by
 obtain ⟨⟨k1, k2, k3⟩, m4, m5, m6⟩ := m
 obtain ⟨W0, hW0⟩ : ∃ W0, W0 = w.alloc (.cells #[.int .i64 k, .int .i64 k1, .int .i64 k2, .int .i64 k3, .int .i64 m4, .int .i64 m5, .int .i64 m6, .int .i64 co] 41) := ⟨_, rfl⟩
 have hb0 : Below w.heap.size w W0 := by rw [hW0]; exact B.al _ _
 have CH := nheard (h.below hb0) hC hI fr k co ((k1, k2, k3), m4, m5, m6) hfr hm
 have HB0 : Hid (Below w.heap.size w W0) := hb0
 unfold HRp
 have hin := hearE_in (cf D f) x fr k ((k1, k2, k3), m4, m5, m6)
 unfold HDp at CH
 obtain ⟨E, hE⟩ : ∃ E, hearE (cf D f) x fr k ((k1, k2, k3), m4, m5, m6) = E := ⟨_, rfl⟩
 obtain ⟨X', hX'⟩ : ∃ X', hearX (cf D f) x fr k ((k1, k2, k3), m4, m5, m6) = X' := ⟨_, rfl⟩
 have hI0 : ¬ E = 0 → hearI (cf D f) x fr k ((k1, k2, k3), m4, m5, m6) = [] := fun g => by unfold hearI; rw [if_neg (by rw [hE]; exact g)]
 obtain ⟨L, hL⟩ : ∃ L, hearI (cf D f) x fr k ((k1, k2, k3), m4, m5, m6) = L := ⟨_, rfl⟩
 rw [hE] at CH hin
 rw [hL] at hI0 CH
 rw [hX'] at CH
 rw [hE, hL, hX']
 clear hE hX' hL h hI hC hm hb0
 dsimp only at CH ⊢
 by_cases e0 : E = 0
 ·subst e0
  have e : erV 0 = .nilIface := rfl
  rw [e] at CH
  rw [hW0] at CH
  clear hin hI0 e
  go_enter Tryz.func13, Tryz.ntmps13
  go_wp2_with (go_at_call 51; refine CH.mono ?_; rintro e w2 ⟨F', a', n', c', rfl, hr⟩; have HR : Hid _ := hr; clear hr)
  go_ret2
  rw [← hW0] at HR
  obtain ⟨r1, r2, r3, r4⟩ := HR.out
  exact ⟨F', a', n', c', rfl, r1, (B.Mw.below HB0.out).trans r2, r3, fun b g => ⟨Nat.le_trans HB0.out.size (r4 b g).1, (r4 b g).2⟩⟩
 ·have hin2 : E = 1 ∨ E = 2 ∨ E = 3 ∨ E = 4 ∨ E = 110 ∨ E = 130 := hin.resolve_left e0
  have e : erV E = eV E := by unfold erV; rw [if_neg e0]
  rw [e] at CH
  have hn2 : ∀ W : World, (binOp .neq 104 (.iface 30 (.int .i64 E)) .nilIface).run Tryz.prog W = .ok (.bool true) W := fun W => by kernel_rfl
  have CN := num_any fr E hin2
  have HL0 : Hid (L = []) := hI0 e0
  rw [hW0] at CH
  clear hin hin2 hI0 e e0
  go_enter Tryz.func13, Tryz.ntmps13
  go_wp2_with (first
   | (go_at_call 51; refine CH.mono ?_; rintro e w2 ⟨F', a', n', c', rfl, hr⟩; have HR : Hid _ := hr; clear hr)
   | (go_at_call 52; refine (CN _).mono ?_; rintro e w3 ⟨rfl, hb3⟩; have HB3 : Hid _ := hb3; clear hb3))
  go_ret2
  rw [← hW0] at HR
  obtain ⟨r1, r2, r3, r4⟩ := HR.out
  rw [HL0.out]
  exact ⟨F', none, 0, 0, rfl, r1.below HB3.out, ((B.Mw.below HB0.out).trans r2).trans (B.Mw.below HB3.out), B.OwR.nil _ _ _, fun b e => by simp [Value.ownBlock] at e⟩
end Go.Proofs.YtiaopafkfadmkaaGreat.V
