/- Joined: the texts that follow, each with its own sentence. -/
import Derived.Test.YtiaopafkfadmkaaGreatZVh
import Derived.Test.YtiaopafkfadmkaaGreatZVj
set_option linter.unusedVariables false
set_option maxRecDepth 100000
namespace Go.Proofs.YtiaopafkfadmkaaGreat.V
open Go.RowKit Go.Shelf
open Go.Proofs.YtiaopafkfadmkaaGreat.C (MapC)
def isCk (D : Wd) (k : Nat) (j : Int) : Bool := decide (0 ≤ j ∧ j < (k : Int) ∧ kdD D j = 0)
theorem isCk_0 (D : Wd) (j : Int) : isCk D 0 j = false := by
 unfold isCk
 rw [decide_eq_false_iff_not]
 omega
theorem isCk_in (D : Wd) (k : Nat) (h : kdD D (k : Int) = 0) : (fun i => isCk D k i || i == (k : Int)) = isCk D (k + 1) := by
 funext i
 by_cases e : i = (k : Int)
 ·subst e
  simp [isCk, h]
  omega
 ·have : (i == (k : Int)) = false := by simpa using e
  rw [this, Bool.or_false]
  unfold isCk
  rw [decide_eq_decide]
  constructor
  ·rintro ⟨h1, h2, h3⟩; exact ⟨h1, by omega, h3⟩
  ·rintro ⟨h1, h2, h3⟩; exact ⟨h1, by omega, h3⟩
theorem isCk_out (D : Wd) (k : Nat) (h : ¬ kdD D (k : Int) = 0) : isCk D k = isCk D (k + 1) := by
 funext i
 unfold isCk
 rw [decide_eq_decide]
 constructor
 ·rintro ⟨h1, h2, h3⟩; exact ⟨h1, by omega, h3⟩
 ·rintro ⟨h1, h2, h3⟩
  refine ⟨h1, ?_, h3⟩
  by_cases g : i < (k : Int)
  ·exact g
  ·obtain rfl : i = (k : Int) := by omega
   exact absurd h3 h
theorem mapC_mono {w : World} {b m m' : Nat} {P : Int → Bool} {c : Int → Int} {M : DataW Unit} (h : MapC w b m P c M) (hm : m ≤ m') : MapC w b m' P c M := ⟨h.own.mono hm, h.has, h.val⟩
theorem mapC_below {w w' : World} {b m : Nat} {P : Int → Bool} {c : Int → Int} {M : DataW Unit} (h : MapC w b m P c M) (hb : Below w.heap.size w w') : MapC w' b m P c M := h.keep (toC (B.Fr.of_below (S := fun _ => False) hb)) (fun g => g)
theorem up0 (j : Int) : Go.Proofs.YtiaopafkfadmkaaGreat.C.upC (fun _ => 0) j 0 = fun _ => 0 := by funext i; simp [Go.Proofs.YtiaopafkfadmkaaGreat.C.upC]
set_option maxHeartbeats 2000000 in
theorem nclocks (w : World) (D : Wd) (h : Ww w D) (hn : D.fs.length ≤ 8) :
  Calls Tryz.prog 46 #[wv D] w fun e w' => ∃ mb, e = .returned (.map (some mb)) ∧ w.heap.size ≤ mb ∧ (∃ M, MapC w' mb 8 (isCk D D.fs.length) (fun _ => 0) M) ∧ Below w.heap.size w w' := by
 have HW : Hid (Ww w D) := h
 obtain ⟨n, hnn⟩ : ∃ n, D.fs.length = n := ⟨_, rfl⟩
 have HN : Hid (D.fs.length = n) := hnn
 rw [hnn] at hn
 dsimp only [wv]
 rw [hnn]
 obtain ⟨fa, hfa⟩ : ∃ fa, D.fa = fa := ⟨_, rfl⟩
 rw [hfa]
 have HFA : Hid (D.fa = fa) := hfa
 obtain ⟨q, hq⟩ : ∃ q, w.heap.size = q := ⟨_, rfl⟩
 have HQ : Hid (w.heap.size = q) := hq
 clear h hnn hfa
 have hmm := @run_makeMap Tryz.prog
 obtain ⟨W0, hW0⟩ : ∃ W0, W0 = (w.alloc (.cells #[.slice D.pa D.ps.length D.pc, .slice fa n D.fc, .int .i64 D.en] 25)).alloc (.map #[] 0) := ⟨_, rfl⟩
 have hb0 : Below w.heap.size w W0 := by rw [hW0]; exact B.Below.on (B.al _ _) (B.al _ _)
 have s1 : (w.alloc (.cells #[.slice D.pa D.ps.length D.pc, .slice fa n D.fc, .int .i64 D.en] 25)).heap.size = q + 1 := by simp [hq]
 have HM0 : Hid (∃ M, MapC W0 (q + 1) 0 (isCk D 0) (fun _ => 0) M) := by
  refine ⟨.map [], ?_, fun i => ?_, fun i hi => ?_⟩
  ·rw [hW0, ← s1]
   exact World.ownsMap_made _ _ _ _
  ·rw [isCk_0]
   simp [Maps.has]
  ·rw [isCk_0] at hi
   cases hi
 have HB0 : Hid (Below w.heap.size w W0) := hb0
 have y1 : W0.cell? ⟨q, 1, none⟩ = some (.slice fa n D.fc) := by rw [hW0, ← hq]; go_simp
 clear hb0
 go_enter Tryz.func46, Tryz.ntmps46
 go_wp2_with fail
 rw [← hW0]
 try simp only [hq]
 clear hW0 hmm hq s1
 go_loopw [10] (fun s10 wr => ∃ k : Nat, s10 = .int .i64 k ∧ k ≤ n ∧ Hid (∃ M, MapC wr (q + 1) k (isCk D k) (fun _ => 0) M) ∧ Hid (Below w.heap.size w wr)) (fun s10 _ => n - (intOf s10).toNat)
 case atStart => exact ⟨0, rfl, Nat.zero_le _, HM0, HB0⟩
 case round =>
  clear y1
  obtain ⟨k, rfl, hk, HM, HB⟩ := hrel
  by_cases hlt : k < n
  ·have hlt' : (k : Int) < (n : Int) := by omega
   have hkl : k < D.fs.length := by rw [HN.out]; exact hlt
   obtain ⟨g, hg⟩ : ∃ g, nthF D.fs k = g := ⟨_, rfl⟩
   have hkd : kdD D (k : Int) = g.kd := by unfold kdD; rw [Int.toNat_natCast, hg]
   obtain ⟨fb, off, hfa2, lfb, z0, z1, z2, z3, z4, z5, z6⟩ := (HW.out.below HB.out).f.cells hkl hg
   rw [HFA.out] at hfa2
   subst hfa2
   obtain ⟨W1, hW1⟩ : ∃ W1, W1 = wr.alloc (.cells #[.int .i64 g.kd, .int .i64 g.lk, .int .i64 g.st, .slice g.ra g.rs.length g.rc, .slice g.pa g.ps.length g.pc, .slice g.sa g.ss.length g.sc, .slice g.ia g.is.length g.ic] 77) := ⟨_, rfl⟩
   have hb1 : Below wr.heap.size wr W1 := by rw [hW1]; exact B.al _ _
   have HB1 : Hid (Below w.heap.size w W1) := HB.out.trans (hb1.mono HB.out.size)
   by_cases h0 : g.kd = 0
   ·have d0 : (g.kd == 0) = true := by simpa using h0
    obtain ⟨M, hM⟩ := HM.out
    have hM1 := mapC_below hM hb1
    obtain ⟨W2, M2, st, hM2, hf2, hs2⟩ := hM1.store (by omega) (j := (k : Int)) (t := 0) (WalkArith.wf_i64 (by omega)) (by decide)
    have hnk : isCk D k (k : Int) = false := by unfold isCk; rw [decide_eq_false_iff_not]; omega
    rw [hnk, isCk_in D k (by rw [hkd]; exact h0), up0] at hM2
    simp only [Bool.false_eq_true, if_false] at hM2
    have HM2 : Hid (∃ M, MapC W2 (q + 1) (k + 1) (isCk D (k + 1)) (fun _ => 0) M) := ⟨M2, hM2⟩
    have HB2 : Hid (Below w.heap.size w W2) := HB1.out.trans ((ofC hf2).below HB1.out.size (fun i e => by have := HQ.out; omega))
    rw [hW1] at st
    clear hM hM1 hM2 hf2 hs2 hnk hb1 hg hkd h0
    go_wp2_with fail
    go_roundw
    case rel => exact ⟨k + 1, by go_num, by omega, HM2, HB2⟩
    case measure => simp [intOf]; omega
   ·have d0 : (g.kd == 0) = false := by simpa using h0
    have HM2 : Hid (∃ M, MapC W1 (q + 1) (k + 1) (isCk D (k + 1)) (fun _ => 0) M) := by
     obtain ⟨M, hM⟩ := HM.out
     refine ⟨M, ?_⟩
     rw [← isCk_out D k (by rw [hkd]; exact h0)]
     exact mapC_mono (mapC_below hM hb1) (Nat.le_succ _)
    clear hb1 hg hkd h0
    go_wp2_with fail
    rw [← hW1]
    go_roundw
    case rel => exact ⟨k + 1, by go_num, by omega, HM2, HB1⟩
    case measure => simp [intOf]; omega
  ·obtain rfl : k = n := by omega
   go_wp2
   go_ret
   refine ⟨q + 1, rfl, by rw [HQ.out]; omega, ?_, HB.out⟩
   obtain ⟨M, hM⟩ := HM.out
   exact ⟨M, mapC_mono hM hn⟩
theorem boxf7 {w : World} {D : Wd} (h : Ww w D) {f : Nat} (hf : f < D.fs.length) {F : Fd} (hF : nthF D.fs f = F) : ∃ fb off, D.fa = some ⟨fb, off, none⟩ ∧ ∀ W, Below w.heap.size w W → W.cell? ⟨fb, off + f * 7, none⟩ = some (.int .i64 F.kd) ∧ W.cell? ⟨fb, off + f * 7 + 1, none⟩ = some (.int .i64 F.lk) ∧ W.cell? ⟨fb, off + f * 7 + 2, none⟩ = some (.int .i64 F.st) ∧ W.cell? ⟨fb, off + f * 7 + 3, none⟩ = some (.slice F.ra F.rs.length F.rc) ∧ W.cell? ⟨fb, off + f * 7 + 4, none⟩ = some (.slice F.pa F.ps.length F.pc) ∧ W.cell? ⟨fb, off + f * 7 + 5, none⟩ = some (.slice F.sa F.ss.length F.sc) ∧ W.cell? ⟨fb, off + f * 7 + 6, none⟩ = some (.slice F.ia F.is.length F.ic) := by
 obtain ⟨fb, off, hfa, _⟩ := h.f.cells hf hF
 refine ⟨fb, off, hfa, fun W hb => ?_⟩
 obtain ⟨fb2, off2, e, _, hc⟩ := (h.below hb).f.cells hf hF
 rw [hfa] at e
 cases e
 exact hc
theorem LikP.cf {f : Nat} {D' D : Wd} (h : LikP f D' D) : V.cf D' f = V.cf D f := by
 have hs : ∀ s c, stp (nthF D'.fs f).rs s c = stp (nthF D.fs f).rs s c := fun s c => stp_lik h.rl h.rs _ _
 have hk : kdD D' = kdD D := by
  funext j
  unfold kdD
  by_cases g : j.toNat < D.fs.length
  ·exact h.kd _ g
  ·unfold nthF
   rw [List.getD_eq_getElem?_getD, List.getD_eq_getElem?_getD, List.getElem?_eq_none (by rw [h.fl]; omega), List.getElem?_eq_none (by omega)]
 unfold V.cf fe
 simp only [hs, hk, h.spr, h.fl, h.en, h.lk]
end Go.Proofs.YtiaopafkfadmkaaGreat.V
namespace Go.Proofs.YtiaopafkfadmkaaGreat.V
open Go.RowKit Go.Shelf
open Go.Proofs.YtiaopafkfadmkaaGreat.C (MapC)
theorem spr_mem {D : Wd} {f : Nat} {q n b : Int} {os : List O} {m : M} (h : m ∈ spr D f q n b os) : 0 ≤ m.dst ∧ m.dst < (D.fs.length : Int) := by
 unfold spr sprF at h
 obtain ⟨i, _, h2⟩ := List.mem_flatMap.1 h
 unfold oneM at h2
 obtain ⟨t, ht, rfl⟩ := List.mem_map.1 h2
 have := rts_mem ht
 exact ⟨this.1, this.2.1⟩
theorem spr_lenK (D : Wd) (f : Nat) (q n b : Int) (os : List O) : (spr D f q n b os).length ≤ os.length * D.fs.length := by
 unfold spr
 have : ∀ k, (sprF D f q n b os k).length ≤ k * D.fs.length := by
  intro k
  induction k with
  | zero => simp [sprF]
  | succ k ih =>
   rw [sprF_succ, List.length_append, Nat.succ_mul]
   have := oneM_len D f q n b os k
   omega
 exact this _
theorem fed_kd {g : Fd} {m : Nat} (h : fedE g m = 0) : g.kd = 0 ∨ g.kd = 1 := by
 have h2 := fstE_zero (l := [unl (wi g.kd 0 1) 1, unl (wi g.lk 1 1048576) 80, unl (wi g.st 0 7) 70, chkE g.rs, unl (cls g.ps m && cls g.ss m) 81, rulsE g.ps g.lk m g.rs, unl (iniB g.ps g.is) 82]) h
 have := of_decide_eq_true (unl_zero (by decide) (h2 _ (by simp : unl (wi g.kd 0 1) 1 ∈ _)))
 omega
theorem wld_en {D : Wd} {N : Int} (h : wldE D = (N, 0)) : 0 ≤ D.en ∧ D.en ≤ 1099511627776 := by
 unfold wldE at h
 split at h
 ·rename_i e
  have e2 := fstE_zero (l := [chk D.ps, unl (wi D.en 0 1099511627776 && wi D.fs.length 1 8) 1]) e
  have h2 := unl_zero (by decide) (e2 _ (by simp : unl (wi D.en 0 1099511627776 && wi D.fs.length 1 8) 1 ∈ _))
  rw [Bool.and_eq_true] at h2
  exact of_decide_eq_true h2.1
 ·rename_i e
  exact absurd (congrArg Prod.snd h) e
theorem cfOk_of {D : Wd} {f : Nat} (h : wldE D = (-1, 0)) (hf : f < D.fs.length) (hk : (nthF D.fs f).kd = 1) : CfOk (cf D f) := by
 obtain ⟨_, h1, h8, hfe⟩ := wld_ok h
 have hmem : nthF D.fs f ∈ D.fs := by unfold nthF; simp [hf]
 have ok := fed_ok (hfe _ hmem)
 have hst : ∀ s c, (stp (nthF D.fs f).rs s c).2.length ≤ 3 := fun s c => by
  rcases stp_os (nthF D.fs f).rs s c with e | ⟨r, hr, e⟩
  ·rw [e]; simp
  ·rw [e]; exact ok.2.2 r hr
 refine ⟨h8, hf, fun j => ?_, ?_, ok.1, wld_en h, fun s n m => ?_, fun s n m => ?_, fun s n m o ho => ?_, rfl⟩
 ·show kdD D j = 0 ∨ kdD D j = 1
  unfold kdD
  by_cases g : j.toNat < D.fs.length
  ·exact fed_kd (hfe _ (by unfold nthF; simp [g]))
  ·left
   unfold nthF
   rw [List.getD_eq_getElem?_getD, List.getElem?_eq_none (by omega)]
   rfl
 ·show kdD D (f : Int) = 1
  unfold kdD
  rw [Int.toNat_natCast]
  exact hk
 ·show n ≤ n + ((stp (nthF D.fs f).rs s m.2.2.1).2.length : Int) ∧ n + ((stp (nthF D.fs f).rs s m.2.2.1).2.length : Int) ≤ n + 3
  have := hst s m.2.2.1
  omega
 ·show ((spr D f n m.1.1 m.2.2.2 (stp (nthF D.fs f).rs s m.2.2.1).2).map m6).length ≤ 24
  rw [List.length_map]
  have h3 := spr_lenK D f n m.1.1 m.2.2.2 (stp (nthF D.fs f).rs s m.2.2.1).2
  have h4 : (stp (nthF D.fs f).rs s m.2.2.1).2.length * D.fs.length ≤ 3 * 8 := Nat.mul_le_mul (hst s m.2.2.1) h8
  omega
 ·obtain ⟨y, hy, rfl⟩ := List.mem_map.1 (show o ∈ (spr D f n m.1.1 m.2.2.2 (stp (nthF D.fs f).rs s m.2.2.1).2).map m6 from ho)
  exact spr_mem hy
def PN (w0 : World) (C : Cf) (N : Nat) (x : X) (Z : Ad) (T : Nat → Prop) (W : World) : Prop := ∃ D f F v, cf D f = C ∧ CfOk C ∧ Inv C N x ∧ WM w0 D f x x.fl Z F v W ∧ T = tot F
set_option maxHeartbeats 4000000 in
theorem nnew_ok (w : World) (D : Wd) (f : Nat) (h : Ww w D) (hw : wldE D = (-1, 0)) (hf : f < D.fs.length) (hkd : (nthF D.fs f).kd = 1) :
  Calls Tryz.prog 11 #[wv D, .int .i64 (f : Int)] w fun en w' => ∃ Z T, en = .returned (.tuple #[.pointer (some ⟨Z.nb, 0, none⟩), .int .i64 0]) ∧ PN w (cf D f) 2 (x0 (nthF D.fs f).st (nthF D.fs f).is.length) Z T w' := by
 have hok := cfOk_of hw hf hkd
 have BX := BoxW.new h
 have CK := wcheck_any _ D BX.ok
 rw [hw] at CK
 obtain ⟨hn1, hn8⟩ := wld_n hw
 have hil : (nthF D.fs f).is.length ≤ 4 := fed_ok2 ((wld_ok hw).2.2.2 _ (by unfold nthF; simp [hf]))
 have HBX : Hid _ := BX
 have hb0 := B.al w (.cells (wcs D) 25)
 obtain ⟨F, hF⟩ : ∃ F, nthF D.fs f = F := ⟨_, rfl⟩
 obtain ⟨fb, off, hfa, hcs⟩ := boxf7 h hf hF
 rw [hF] at hkd hil ⊢
 have d1 : (F.kd != 1) = false := by simpa using hkd
 have hfI : (f : Int) < (D.fs.length : Int) := by omega
 have hfI2 : decide ((f : Int) < 0) = false := decide_eq_false (by omega)
 have hfI3 : decide ((D.fs.length : Int) ≤ (f : Int)) = false := decide_eq_false (by omega)
 have HK : Hid (∀ w2, Below (w.alloc (.cells (wcs D) 25)).heap.size (w.alloc (.cells (wcs D) 25)) w2 → Below w.heap.size w w2 ∧ w.heap.size < w2.heap.size ∧ w2.cell? ⟨w.heap.size, 0, none⟩ = some (.slice D.pa D.ps.length D.pc) ∧ w2.cell? ⟨w.heap.size, 1, none⟩ = some (.slice (some ⟨fb, off, none⟩) D.fs.length D.fc) ∧ w2.cell? ⟨w.heap.size, 2, none⟩ = some (.int .i64 D.en) ∧ w2.cell? ⟨fb, off + f * 7, none⟩ = some (.int .i64 F.kd) ∧ w2.cell? ⟨fb, off + f * 7 + 2, none⟩ = some (.int .i64 F.st) ∧ w2.cell? ⟨fb, off + f * 7 + 6, none⟩ = some (.slice F.ia F.is.length F.ic)) := fun w2 b2 => by
  have hb := HBX.out.below b2
  have hs : (w.alloc (.cells (wcs D) 25)).heap.size = w.heap.size + 1 := by simp
  have hbb := hb0.trans (b2.mono hb0.size)
  obtain ⟨y0, _, y2, _, _, _, y6⟩ := hcs w2 hbb
  exact ⟨hbb, by have := b2.size; omega, hb.c0, by rw [← hfa]; exact hb.c1, hb.c2, y0, y2, y6⟩
 have HKE : Hid (∀ w2, Below w.heap.size w w2 → Calls Tryz.prog 42 #[.agg #[.slice D.pa D.ps.length D.pc, .slice (some ⟨fb, off, none⟩) D.fs.length D.fc, .int .i64 D.en], .int .i64 (f : Int)] w2 fun e w' => ∃ D', e = .returned (.agg #[.slice D'.pa D'.ps.length D'.pc, .slice D'.fa D'.fs.length D'.fc, .int .i64 D'.en]) ∧ LikP f D' D ∧ Ww (mask (fun k => decide (k < w2.heap.size)) w') D' ∧ Below w2.heap.size w2 w') := fun w2 b2 => by
  have := kept_any w2 D f (h.below b2) hf
  dsimp only [wv] at this
  rw [hfa] at this
  exact this
 have HCO : Hid (∀ w2, Below w.heap.size w w2 → Calls Tryz.prog 46 #[.agg #[.slice D.pa D.ps.length D.pc, .slice (some ⟨fb, off, none⟩) D.fs.length D.fc, .int .i64 D.en]] w2 fun e w' => ∃ mb, e = .returned (.map (some mb)) ∧ w2.heap.size ≤ mb ∧ (∃ M, MapC w' mb 8 (isCk D D.fs.length) (fun _ => 0) M) ∧ Below w2.heap.size w2 w') := fun w2 b2 => by
  have := nclocks w2 D (h.below b2) hn8
  dsimp only [wv] at this
  rw [hfa] at this
  exact this
 have c1 := BX.c1
 have c0 := BX.c0
 have c2 := BX.c2
 have HOK : Hid (CfOk (cf D f)) := hok
 have HIL : Hid (F.is.length ≤ 4) := hil
 dsimp only [wcs] at HK c0 c1 c2
 dsimp only [wv, wcs] at CK ⊢
 rw [hfa] at CK c1 HK c0 c2 ⊢
 obtain ⟨W1, hW1⟩ : ∃ W1, W1 = w.alloc (.cells #[.slice D.pa D.ps.length D.pc, .slice (some ⟨fb, off, none⟩) D.fs.length D.fc, .int .i64 D.en] 25) := ⟨_, rfl⟩
 rw [← hW1] at HK
 clear BX HBX hcs hb0 hkd h hw hok hil
 go_enter Tryz.func11, Tryz.ntmps11
 go_wp2_with (go_at_call 41; refine CK.mono ?_; rintro en w2 ⟨rfl, b2⟩; rw [← hW1] at b2; obtain ⟨hbb, hlt2, k0, k1, k2, k3, k4, k5⟩ := Hid.out HK _ b2; have HB2 : Hid _ := b2; have HBB : Hid _ := hbb; clear b2 hbb CK)
 obtain ⟨q, hq⟩ : ∃ q, w.heap.size = q := ⟨_, rfl⟩
 have HKK : Hid (∀ w3, Below w2.heap.size w2 w3 → w3.cell? ⟨q, 0, none⟩ = some (.slice D.pa D.ps.length D.pc) ∧ w3.cell? ⟨q, 1, none⟩ = some (.slice (some ⟨fb, off, none⟩) D.fs.length D.fc) ∧ w3.cell? ⟨q, 2, none⟩ = some (.int .i64 D.en) ∧ w3.cell? ⟨fb, off + f * 7 + 2, none⟩ = some (.int .i64 F.st) ∧ w3.cell? ⟨fb, off + f * 7 + 6, none⟩ = some (.slice F.ia F.is.length F.ic)) := fun w3 b3 => by
  obtain ⟨_, _, e0, e1, e2, _, e4, e5⟩ := HK.out w3 (HB2.out.trans (b3.mono HB2.out.size))
  rw [hq] at e0 e1 e2
  exact ⟨e0, e1, e2, e4, e5⟩
 rw [hq] at k0 k1 k2 hlt2
 try simp only [hq]
 have HQQ : Hid (w.heap.size = q) := hq
 clear hq hW1 c0 c1 c2 HK
 go_region_held3 (fun w' => w'.cell? ⟨q, 0, none⟩ = some (.slice D.pa D.ps.length D.pc) ∧ w'.cell? ⟨q, 1, none⟩ = some (.slice (some ⟨fb, off, none⟩) D.fs.length D.fc) ∧ w'.cell? ⟨q, 2, none⟩ = some (.int .i64 D.en) ∧ w'.cell? ⟨fb, off + f * 7 + 2, none⟩ = some (.int .i64 F.st) ∧ w'.cell? ⟨fb, off + f * 7 + 6, none⟩ = some (.slice F.ia F.is.length F.ic)) (first | (go_keep; done) | exact Hid.out KEEP5 | exact Hid.out KEEP4 | exact Hid.out KEEP3 | exact Hid.out KEEP2 | exact Hid.out KEEP1) (first
  | (go_at_call 42; refine (Hid.out HKE _ ((Hid.out HBB).trans ((below_drew w2).mono (Hid.out HBB).size))).mono ?_; rintro en w3 ⟨D', rfl, hlik, hww, b3⟩; have hb3 := (below_drew w2).trans b3; have H3 : Hid _ := And.intro hlik (And.intro hww hb3); have KEEP1 : Hid _ := Hid.out HKK _ hb3; clear hlik hww b3 hb3)
  | (go_at_call 43; refine (Q.new_any 64 w3 (by unfold Q.i64; omega)).mono ?_; rintro en w4 ⟨qb, Gq, rfl, hq4, hg4, b4⟩; have hb4 := (Hid.out H3).2.2.trans (b4.mono (Hid.out H3).2.2.size); have H4 : Hid _ := And.intro hq4 (And.intro hg4 (And.intro b4 hb4)); have KEEP2 : Hid _ := Hid.out HKK _ hb4; clear hq4 hg4 b4 hb4)
  | (go_at_call 44; refine (A.new_any (X := fun k => k < w4.heap.size) w4 (fun k g => g)).mono ?_; rintro en w5 ⟨rfl, hp5, b5⟩; have hb5 := (Hid.out H4).2.2.2.trans (b5.mono (Hid.out H4).2.2.2.size); have H5 : Hid _ := And.intro hp5 (And.intro b5 hb5); have KEEP3 : Hid _ := Hid.out HKK _ hb5; clear hp5 b5 hb5)
  | (go_at_call 45; refine (G.new_any (X := fun _ => False) w5 (fun k g => g.elim)).mono ?_; rintro en w6 ⟨rfl, hg6, b6⟩; have hb6 := (Hid.out H5).2.2.trans (b6.mono (Hid.out H5).2.2.size); have H6 : Hid _ := And.intro hg6 (And.intro b6 hb6); have KEEP4 : Hid _ := Hid.out HKK _ hb6; clear hg6 b6 hb6)
  | (go_at_call 46; refine (Hid.out HCO _ ((Hid.out HBB).trans ((Hid.out H6).2.2.mono (Hid.out HBB).size))).mono ?_; rintro en w7 ⟨mb, rfl, hmb, hM7, b7⟩; have hb7 := (Hid.out H6).2.2.trans (b7.mono (Hid.out H6).2.2.size); have H7 : Hid _ := And.intro hmb (And.intro hM7 (And.intro b7 hb7)); have KEEP5 : Hid _ := Hid.out HKK _ hb7; clear hmb hM7 b7 hb7))
 go_wp2
 go_ret2
 obtain ⟨hlik, hww, hb3⟩ := H3.out
 obtain ⟨hq4, hg4, b4, hb4⟩ := H4.out
 obtain ⟨hp5, b5, hb5⟩ := H5.out
 obtain ⟨hg6, b6, hb6⟩ := H6.out
 obtain ⟨hmb, ⟨M, hM⟩, b7, hb7⟩ := H7.out
 have hcf := LikP.cf hlik
 have hlw : w.heap.size ≤ w2.heap.size := HBB.out.size
 have s3 := hb3.size
 have s4 := b4.size
 have s5 := b5.size
 have s6 := b6.size
 have s7 := b7.size
 obtain ⟨WF, hWF⟩ : ∃ WF, WF = w7.alloc (.cells (ncs D' f F.st F.is.length ⟨w7.heap.size, qb, w4.heap.size, w5.heap.size, mb⟩ (.slice none 0 0)) 99) := ⟨_, rfl⟩
 have b8 : Below w7.heap.size w7 WF := by rw [hWF]; exact B.al _ _
 have bx8 : WF.heap[w7.heap.size]? = some (.cells (ncs D' f F.st F.is.length ⟨w7.heap.size, qb, w4.heap.size, w5.heap.size, mb⟩ (.slice none 0 0)) 99 (0, 0)) := by rw [hWF]; exact G.newB _ _
 have sz8 : WF.heap.size = w7.heap.size + 1 := by rw [hWF]; simp
 obtain ⟨ix, hix⟩ : ∃ ix : Nat → Nat, ix = fun k => if k < w3.heap.size then 6 else if k < w4.heap.size then 1 else if k < w5.heap.size then 2 else if k < w6.heap.size then 3 else if k < w7.heap.size then 4 else 0 := ⟨_, rfl⟩
 obtain ⟨FF, hFF⟩ : ∃ FF : Nat → Nat → Prop, FF = fun i k => if i = 1 then Gq k else (w2.heap.size ≤ k ∧ k < WF.heap.size ∧ ix k = i) := ⟨_, rfl⟩
 have hG : ∀ k, Gq k → w3.heap.size ≤ k ∧ k < w4.heap.size := fun k g => ⟨hg4 k g, hq4.lt k g⟩
 have f1 : FF 1 = Gq := by rw [hFF]; rfl
 have fne : ∀ i k, i ≠ 1 → (FF i k ↔ (w2.heap.size ≤ k ∧ k < WF.heap.size ∧ ix k = i)) := fun i k hi => by rw [hFF]; simp [hi]
 have hin : ∀ i k, FF i k → w2.heap.size ≤ k ∧ k < WF.heap.size ∧ ix k = i := fun i k g => by
  by_cases e : i = 1
  ·subst e
   rw [f1] at g
   have := hG k g
   refine ⟨by omega, by omega, ?_⟩
   rw [hix]
   simp only
   rw [if_neg (by omega), if_pos (by omega)]
  ·exact (fne i k e).1 g
 have hsep : Sep w FF WF := ⟨fun i j k gi gj => (hin i k gi).2.2.symm.trans (hin j k gj).2.2, fun i k g => (hin i k g).2.1, fun i k g => by have := (hin i k g).1; omega, HBB.out.trans ((hb7.trans (b8.mono (by omega))).mono HBB.out.size)⟩
 have i0 : ix w7.heap.size = 0 := by rw [hix]; simp only; rw [if_neg (by omega), if_neg (by omega), if_neg (by omega), if_neg (by omega), if_neg (by omega)]
 have hwm : WM w D' f (x0 F.st F.is.length) (x0 F.st F.is.length).fl ⟨w7.heap.size, qb, w4.heap.size, w5.heap.size, mb⟩ FF (.slice none 0 0) WF := by
  refine ⟨hsep, ⟨(fne 0 _ (by decide)).2 ⟨by show w2.heap.size ≤ w7.heap.size; omega, by show w7.heap.size < WF.heap.size; omega, i0⟩, bx8⟩, ?_, ?_, ?_, ⟨?_, ?_⟩, ⟨B.OwR.nil _ _ _, fun k e => by simp [Value.ownBlock] at e⟩, ?_⟩
  ·rw [f1]
   exact (((hq4.below b5).below b6).below b7).below b8
  ·have hp8 : A.PP (fun k => k < w4.heap.size) WF 0 [] w4.heap.size (.slice none 0 0) := ((hp5.below b6).below b7).below b8
   have hp8' : PT (fun k => w4.heap.size ≤ k ∧ k < w5.heap.size) w5 0 [] w4.heap.size := by
    refine ⟨fun k g => g.2, .slice none 0 0, ?_⟩
    have e : (fun k => k < w5.heap.size ∧ ¬ (w4.heap.size ≤ k ∧ k < w5.heap.size)) = fun k => k < w4.heap.size := by
     funext k
     refine propext ⟨fun g => ?_, fun g => ⟨by omega, fun g2 => by omega⟩⟩
     rcases Nat.lt_or_ge k w4.heap.size with g3 | g3
     ·exact g3
     ·exact absurd ⟨g3, g.1⟩ g.2
    rw [e]
    exact hp5
   have e2 : FF 2 = fun k => w4.heap.size ≤ k ∧ k < w5.heap.size := by
    funext k
    refine propext ⟨fun g => ?_, fun g => (fne 2 k (by decide)).2 ⟨by omega, by omega, ?_⟩⟩
    ·have := (hin 2 k g).2.2
     rw [hix] at this
     simp only at this
     repeat' split at this
     all_goals first | (cases this; done) | omega
    ·rw [hix]
     simp only
     rw [if_neg (by omega), if_neg (by omega), if_pos (by omega)]
   rw [e2]
   exact ((hp8'.keep (B.Fr.of_below (S := fun _ => False) b6) (fun _ _ g => g)).keep (B.Fr.of_below (S := fun _ => False) b7) (fun _ _ g => g)).keep (B.Fr.of_below (S := fun _ => False) b8) (fun _ _ g => g)
  ·have hg8 : G.GQ (fun _ => False) WF 0 [] w5.heap.size (.slice none 0 0) := ((hg6.below b7).below b8)
   refine ⟨fun k g => (hin 3 k g).2.1, .slice none 0 0, hg8, fun k g => (fne 3 k (by decide)).2 ?_⟩
   have l6 : w5.heap.size < w6.heap.size := hg6.lt
   rcases g with g | g
   ·have g' : k = w5.heap.size := g
    clear g
    subst g'
    refine ⟨by omega, by omega, ?_⟩
    rw [hix]
    simp only
    rw [if_neg (by omega), if_neg (by omega), if_neg (by omega), if_pos (by omega)]
   ·simp [Value.ownBlock] at g
  ·have hl := hM.lt
   refine (fne 4 _ (by decide)).2 ⟨by show w2.heap.size ≤ mb; omega, by show mb < WF.heap.size; omega, ?_⟩
   show ix mb = 4
   rw [hix]
   simp only
   rw [if_neg (by omega), if_neg (by omega), if_neg (by omega), if_neg (by omega), if_pos (by omega)]
  ·refine ⟨M, ?_⟩
   have e3 : isC (cf D' f) = isCk D D.fs.length := by
    rw [hcf]
    rfl
   rw [e3]
   exact mapC_below hM b8
  ·refine ⟨fun k => decide (w2.heap.size ≤ k ∧ k < w3.heap.size), hww.sub (sub_mask (by show w3.heap.size ≤ WF.heap.size; omega) (fun k hk hS => ⟨?_, ?_⟩)), fun k g => (fne 6 k (by decide)).2 ?_⟩
   ·have hk2 : w2.heap.size ≤ k := Nat.not_lt.1 (of_decide_eq_false hS)
    show (!decide (w2.heap.size ≤ k ∧ k < w3.heap.size)) = false
    rw [decide_eq_true ⟨hk2, hk⟩]
    rfl
   ·exact (((b8.block k (by omega)).trans (b7.block k (by omega))).trans ((b6.block k (by omega)).trans ((b5.block k (by omega)).trans (b4.block k hk))))
   ·have := of_decide_eq_true g
    refine ⟨by omega, by omega, ?_⟩
    rw [hix]
    simp only
    rw [if_pos (by omega)]
 have hil := HIL.out
 refine ⟨⟨w7.heap.size, qb, w4.heap.size, w5.heap.size, mb⟩, tot FF, rfl, D', f, FF, .slice none 0 0, hcf, HOK.out, inv0 _ _ _ 2 (by omega) (by omega), ?_, rfl⟩
 rw [hWF] at hwm
 exact hwm
end Go.Proofs.YtiaopafkfadmkaaGreat.V
