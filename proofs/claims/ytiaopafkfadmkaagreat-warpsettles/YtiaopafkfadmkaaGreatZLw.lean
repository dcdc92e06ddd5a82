/- Joined: the texts that follow, each with its own sentence. -/
import Derived.Test.YtiaopafkfadmkaaGreatZLq
set_option linter.unusedVariables false
set_option maxRecDepth 100000
namespace Go.Proofs.YtiaopafkfadmkaaGreat.V
open Go.RowKit Go.Shelf
set_option maxHeartbeats 16000000 in
theorem settles_walk (w : World) (sa : Option Addr) (sc : Nat) (z : List Int) (ta : Option Addr) (tc : Nat) (y : List Int) (hz : InB w sa z) (hy : InB w ta y) (hzn : z.length ≤ maxLen) (hyn : y.length ≤ maxLen) :
  Calls Tryz.prog 4 #[.slice sa z.length sc, .slice ta y.length tc] w fun e w' => e = .returned (.bool true) ∧ Below w.heap.size w w' := by
 have mixed : Tryz.prog.follows .mixedOrders = true := by kernel_rfl
 have SH := shown_any w
 obtain ⟨zl, hzl⟩ : ∃ zl, z.length = zl := ⟨_, rfl⟩
 obtain ⟨yl, hyl⟩ : ∃ yl, y.length = yl := ⟨_, rfl⟩
 unfold maxLen at hzn hyn
 rw [hzl] at hzn ⊢
 rw [hyl] at hyn ⊢
 by_cases hlong : 30 < zl
 ·have hl' : decide ((30 : Int) < (zl : Int)) = true := decide_eq_true (by omega)
  clear hz hy
  go_enter Tryz.func4, Tryz.ntmps4
  go_wp2_with (go_at_call 10; refine SH.mono ?_; rintro e w1 ⟨rfl, hb⟩; have HB : Hid (Below w.heap.size w w1) := hb; clear hb SH)
  go_ret
  exact ⟨rfl, HB.out⟩
 have hl' : decide ((30 : Int) < (zl : Int)) = false := decide_eq_false (by omega)
 have hz30 : zl ≤ 30 := by omega
 have HZ : Hid (∀ i, i < zl → ∃ v b off, 0 ≤ v ∧ v ≤ 255 ∧ sa = some ⟨b, off, none⟩ ∧ ∀ W, Below w.heap.size w W → W.cell? ⟨b, off + i, none⟩ = some (.int .u8 v) ∧ b < W.heap.size) := fun i hi => InB.cell hz (by rw [hzl]; exact hi)
 have HY : Hid (∀ i, i < yl → ∃ v b off, 0 ≤ v ∧ v ≤ 255 ∧ ta = some ⟨b, off, none⟩ ∧ ∀ W, Below w.heap.size w W → W.cell? ⟨b, off + i, none⟩ = some (.int .u8 v) ∧ b < W.heap.size) := fun i hi => InB.cell hy (by rw [hyl]; exact hi)
 have HBO : Hid (∀ W, Below w.heap.size w W → Calls Tryz.prog 35 #[] W fun e w' => ∃ n, e = .returned (wv (boD n)) ∧ Ww w' (boD n) ∧ Below w.heap.size w w') := fun W hW => (bold_any W).mono fun e w' ⟨h1, h2, h3⟩ => ⟨_, h1, h2, hW.trans (h3.mono hW.size)⟩
 have HN : Hid (∀ n W, Ww W (boD n) → Calls Tryz.prog 11 #[.agg #[.slice (boD n).pa (boD n).ps.length (boD n).pc, .slice (boD n).fa (boD n).fs.length (boD n).fc, .int .i64 (boD n).en], .int .i64 0] W fun en w' => ∃ Z T, en = .returned (.tuple #[.pointer (some ⟨Z.nb, 0, none⟩), .int .i64 0]) ∧ PN W (Bo n) 2 (x0 0 0) Z T w') := fun n W h => bo_new W n h
 clear hz hy hzl hyl hlong
 go_enter Tryz.func4, Tryz.ntmps4
 go_wp2_with (first
  | (go_at_call 10; refine SH.mono ?_; rintro e w1 ⟨rfl, hb⟩; have HB : Hid (Below w.heap.size w w1) := hb; clear hb SH)
  | (go_at_call 35; refine (Hid.out HBO _ (Hid.out HB)).mono ?_; rintro e w2 ⟨n, rfl, hw2, hb2⟩; have HW2 : Hid (Ww w2 (boD n) ∧ Below w.heap.size w w2) := And.intro hw2 hb2; clear hw2 hb2 HBO HB)
  | (go_at_call 11; refine (Hid.out HN n _ ((Hid.out HW2).1.below (B.al w2 _))).mono ?_; rintro e w3 ⟨Z, T, rfl, hp⟩; have HP : Hid (PN (w2.alloc (.cells #[.slice (boD n).pa (boD n).ps.length (boD n).pc, .slice (boD n).fa (boD n).fs.length (boD n).fc, .int .i64 (boD n).en] 25)) (Bo n) 2 (x0 0 0) Z T w3) := hp; clear hp HN))
 obtain ⟨W2, hW2⟩ : ∃ W2, W2 = (w2.alloc (.cells #[.slice (boD n).pa (boD n).ps.length (boD n).pc, .slice (boD n).fa (boD n).fs.length (boD n).fc, .int .i64 (boD n).en] 25)) := ⟨_, rfl⟩
 rw [← hW2] at HP
 have HBW : Hid (∀ W, Below W2.heap.size W2 W → Below w.heap.size w W) := fun W hW => by
  have h1 : Below w.heap.size w W2 := by rw [hW2]; exact HW2.out.2.trans ((B.al w2 _).mono HW2.out.2.size)
  exact h1.trans (hW.mono h1.size)
 have HWB : Hid (∀ V, Below W2.heap.size W2 V → (V.cell? ⟨w2.heap.size, 0, none⟩ = some (.slice (boD n).pa (boD n).ps.length (boD n).pc) ∧ V.cell? ⟨w2.heap.size, 1, none⟩ = some (.slice (boD n).fa (boD n).fs.length (boD n).fc) ∧ V.cell? ⟨w2.heap.size, 2, none⟩ = some (.int .i64 (boD n).en)) ∧ w2.heap.size < V.heap.size ∧ Ww V (boD n)) := fun V hV => by
  have hb : W2.heap[w2.heap.size]? = some (.cells #[.slice (boD n).pa (boD n).ps.length (boD n).pc, .slice (boD n).fa (boD n).fs.length (boD n).fc, .int .i64 (boD n).en] 25 (0, 0)) := by rw [hW2]; exact (MapKept.heap_alloc _ _).1
  have b2 := (hV.block _ (Array.getElem?_eq_some_iff.1 hb).1).trans hb
  have hW : Ww W2 (boD n) := by rw [hW2]; exact HW2.out.1.below (B.al w2 _)
  exact ⟨⟨cellN b2 0, cellN b2 1, cellN b2 2⟩, (Array.getElem?_eq_some_iff.1 b2).1, hW.below hV⟩
 have H0 : Hid (S1 W2 Z 0 0 (some ⟨w3.heap.size, 0, none⟩) 0 0 (some ⟨w3.heap.size + 1, 0, none⟩) 0 0 ((w3.alloc (.cells #[] 39)).alloc (.cells #[] 39))) := S1.start HP.out
 clear hW2 HP HW2
 go_loopw [8, 9, 11] (fun s8 s9 s11 wr => ∃ (i : Nat) (a : Option Addr) (nn c : Nat) (a2 : Option Addr) (n2 c2 : Nat), s8 = .slice a nn c ∧ s9 = .slice a2 n2 c2 ∧ s11 = .int .i64 i ∧ i ≤ zl ∧ Hid (S1 W2 Z i 0 a nn c a2 n2 c2 wr)) (fun _ _ s11 _ => zl - (intOf s11).toNat)
 case atStart => exact ⟨0, _, 0, 0, _, 0, 0, rfl, rfl, rfl, Nat.zero_le _, H0⟩
 case round =>
  clear H0
  obtain ⟨i, a, nn, c, a2, n2, c2, rfl, rfl, rfl, hi, HS⟩ := hrel
  by_cases hlt : i < zl
  ·have hlt' : (i : Int) < (zl : Int) := by omega
   have hi30 : i < 30 := by omega
   obtain ⟨t, sb, so, ht0, ht1, rfl, hcs⟩ := HZ.out i hlt
   obtain ⟨d0, lsb⟩ := hcs wr (HBW.out _ HS.out.bel)
   obtain ⟨q, hq⟩ : ∃ q, wr.heap.size = q := ⟨_, rfl⟩
   have CI := (HS.out.on (B.al wr (.cells #[.int .i64 t, .int .i64 1, .int .i64 i, .int .i64 0, .int .i64 0, .int .i64 i] 39))).ins t hi30
   have bq : (wr.alloc (.cells #[.int .i64 t, .int .i64 1, .int .i64 i, .int .i64 0, .int .i64 0, .int .i64 i] 39)).heap[q]? = some (.cells #[.int .i64 t, .int .i64 1, .int .i64 i, .int .i64 0, .int .i64 0, .int .i64 i] 39 (0, 0)) := by rw [← hq]; exact (MapKept.heap_alloc _ _).1
   have HBX : Hid (∀ W, Below (wr.alloc (.cells #[.int .i64 t, .int .i64 1, .int .i64 i, .int .i64 0, .int .i64 0, .int .i64 i] 39)).heap.size (wr.alloc (.cells #[.int .i64 t, .int .i64 1, .int .i64 i, .int .i64 0, .int .i64 0, .int .i64 i] 39)) W → W.cell? ⟨q, 0, none⟩ = some (.int .i64 t) ∧ W.cell? ⟨q, 1, none⟩ = some (.int .i64 1) ∧ W.cell? ⟨q, 2, none⟩ = some (.int .i64 (i : Int)) ∧ W.cell? ⟨q, 3, none⟩ = some (.int .i64 0) ∧ W.cell? ⟨q, 4, none⟩ = some (.int .i64 0) ∧ W.cell? ⟨q, 5, none⟩ = some (.int .i64 (i : Int)) ∧ q < W.heap.size) := fun W hW => by
    have b2 := (hW.block q (Array.getElem?_eq_some_iff.1 bq).1).trans bq
    exact ⟨cellN b2 0, cellN b2 1, cellN b2 2, cellN b2 3, cellN b2 4, cellN b2 5, (Array.getElem?_eq_some_iff.1 b2).1⟩
   have HQ : Hid (wr.heap.size = q) := hq
   clear hq bq HS hcs
   by_cases hiy : i < yl
   ·have hiy' : (i : Int) < (yl : Int) := by omega
    obtain ⟨u, yb, yo, hu0, hu1, rfl, hyc⟩ := HY.out i hiy
    have hrem : u.tmod 4 = u % 4 := Int.tmod_eq_emod_of_nonneg hu0
    go_wp2_with (first
 | (go_at_call 36; refine CI.mono ?_; rintro e w4 ⟨a4, n4, c4, rfl, hsm, hb4⟩; obtain ⟨x0, x1, x2, x3, x4, x5, lq⟩ := Hid.out HBX _ hb4; have HSM : Hid (Sm1 W2 Z i t a nn c a4 n4 c4 w4) := hsm; try simp only [HQ.out]; clear hsm hb4 CI)
 | (go_at_call 13; refine ((Hid.out HSM).hear ht0 ht1 hi30).mono ?_; rintro e w5 ⟨a5, n5, c5, rfl, h5⟩; have HSH : Hid (Sh W2 Z (i + 1) 0 a nn c a4 n4 c4 a5 n5 c5 w5) := h5; clear h5 HSM x0 x1 x2 x3 x4 x5 lq)
 | (go_at_call 37; refine (Hid.out HSH).taken.mono ?_; rintro e w6 ⟨a6, n6, c6, rfl, h6⟩; have HS6 : Hid (S1 W2 Z (i + 1) 0 a6 n6 c6 a4 n4 c4 w6) := h6; have hyy := hyc w6 (Hid.out HBW _ h6.bel); have e0 := hyy.1; have lyb := hyy.2; clear h6 HSH hyy))
    clear hyc
    go_loopw [8, 16] (fun s8 s16 wq => ∃ (k : Nat) (a : Option Addr) (nn c : Nat), s8 = .slice a nn c ∧ s16 = .int .i64 k ∧ k ≤ 4 ∧ Hid (S1 W2 Z (i + 1) 0 a nn c a4 n4 c4 wq)) (fun _ s16 _ => 4 - (intOf s16).toNat)
    case atStart => exact ⟨0, _, _, _, rfl, rfl, Nat.zero_le _, HS6⟩
    case round =>
     clear HS6
     obtain ⟨k, a, nn, c, rfl, rfl, hk, HS7⟩ := hrel
     by_cases hks : (k : Int) < u % 4
     ·have CS := HS7.out.step (by omega)
      clear HS7
      go_wp2_with (first
       | (go_at_call 16; refine CS.mono ?_; rintro e w8 ⟨t0, t1, t2, t3, t4, t5, t6, a8, n8, c8, E8, rfl, h8⟩; have HSH8 : Hid (Sh W2 Z (i + 1) (0 + 1) a nn c a4 n4 c4 a8 n8 c8 w8) := h8; clear h8 CS)
       | (go_at_call 37; refine (Sh.taken (Sh.on (Hid.out HSH8) (B.al _ _))).mono ?_; rintro e w9 ⟨a9, n9, c9, rfl, h9⟩; have HS9 : Hid (S1 W2 Z (i + 1) 0 a9 n9 c9 a4 n4 c4 w9) := S1.any h9; clear h9 HSH8))
      go_roundw
      case rel => exact ⟨k + 1, a9, n9, c9, rfl, by go_num, by omega, HS9.out⟩
      case measure => simp [intOf]; omega
     ·go_wp2_with fail
      go_roundw
      case rel => exact ⟨i + 1, a, nn, c, a4, n4, c4, rfl, rfl, by go_num, by omega, HS7.out⟩
      case measure => simp [intOf]; omega
   ·have hiy' : ¬ (i : Int) < (yl : Int) := by omega
    go_wp2_with (first
 | (go_at_call 36; refine CI.mono ?_; rintro e w4 ⟨a4, n4, c4, rfl, hsm, hb4⟩; obtain ⟨x0, x1, x2, x3, x4, x5, lq⟩ := Hid.out HBX _ hb4; have HSM : Hid (Sm1 W2 Z i t a nn c a4 n4 c4 w4) := hsm; try simp only [HQ.out]; clear hsm hb4 CI)
 | (go_at_call 13; refine ((Hid.out HSM).hear ht0 ht1 hi30).mono ?_; rintro e w5 ⟨a5, n5, c5, rfl, h5⟩; have HSH : Hid (Sh W2 Z (i + 1) 0 a nn c a4 n4 c4 a5 n5 c5 w5) := h5; clear h5 HSM x0 x1 x2 x3 x4 x5 lq)
 | (go_at_call 37; refine (Hid.out HSH).taken.mono ?_; rintro e w6 ⟨a6, n6, c6, rfl, h6⟩; have HS6 : Hid (S1 W2 Z (i + 1) 0 a6 n6 c6 a4 n4 c4 w6) := h6; clear h6 HSH))
    go_loopw [8, 16] (fun s8 s16 wq => ∃ (k : Nat) (a : Option Addr) (nn c : Nat), s8 = .slice a nn c ∧ s16 = .int .i64 k ∧ k ≤ 4 ∧ Hid (S1 W2 Z (i + 1) 0 a nn c a4 n4 c4 wq)) (fun _ s16 _ => 4 - (intOf s16).toNat)
    case atStart => exact ⟨0, _, _, _, rfl, rfl, Nat.zero_le _, HS6⟩
    case round =>
     clear HS6
     obtain ⟨k, a, nn, c, rfl, rfl, hk, HS7⟩ := hrel
     by_cases hks : (k : Int) < 1
     ·have CS := HS7.out.step (by omega)
      clear HS7
      go_wp2_with (first
       | (go_at_call 16; refine CS.mono ?_; rintro e w8 ⟨t0, t1, t2, t3, t4, t5, t6, a8, n8, c8, E8, rfl, h8⟩; have HSH8 : Hid (Sh W2 Z (i + 1) (0 + 1) a nn c a4 n4 c4 a8 n8 c8 w8) := h8; clear h8 CS)
       | (go_at_call 37; refine (Sh.taken (Sh.on (Hid.out HSH8) (B.al _ _))).mono ?_; rintro e w9 ⟨a9, n9, c9, rfl, h9⟩; have HS9 : Hid (S1 W2 Z (i + 1) 0 a9 n9 c9 a4 n4 c4 w9) := S1.any h9; clear h9 HSH8))
      go_roundw
      case rel => exact ⟨k + 1, a9, n9, c9, rfl, by go_num, by omega, HS9.out⟩
      case measure => simp [intOf]; omega
     ·go_wp2_with fail
      go_roundw
      case rel => exact ⟨i + 1, a, nn, c, a4, n4, c4, rfl, rfl, by go_num, by omega, HS7.out⟩
      case measure => simp [intOf]; omega
  ·obtain rfl : i = zl := by omega
   go_wp2_with fail
   go_loopw [8, 20] (fun s8 s20 wq => ∃ (k : Nat) (a : Option Addr) (nn c : Nat), s8 = .slice a nn c ∧ s20 = .int .i64 k ∧ k ≤ i ∧ Hid (S1 W2 Z i k a nn c a2 n2 c2 wq)) (fun _ s20 _ => i - (intOf s20).toNat)
   case atStart => exact ⟨0, _, _, _, rfl, rfl, Nat.zero_le _, HS⟩
   case round =>
    clear HS
    obtain ⟨k, a1, n1, c1, rfl, rfl, hk, HS⟩ := hrel
    by_cases hks : k < i
    ·have hks' : (k : Int) < (i : Int) := by omega
     have CS := HS.out.step hz30
     clear HS
     go_wp2_with (first
      | (go_at_call 16; refine CS.mono ?_; rintro e w8 ⟨t0, t1, t2, t3, t4, t5, t6, a8, n8, c8, E8, rfl, h8⟩; have HSH8 : Hid (Sh W2 Z i (k + 1) a1 n1 c1 a2 n2 c2 a8 n8 c8 w8) := h8; clear h8 CS)
      | (go_at_call 37; refine (Sh.taken (Sh.on (Hid.out HSH8) (B.al _ _))).mono ?_; rintro e w9 ⟨a9, n9, c9, rfl, h9⟩; have HS9 : Hid (S1 W2 Z i (k + 1) a9 n9 c9 a2 n2 c2 w9) := h9; clear h9 HSH8))
     go_roundw
     case rel => exact ⟨k + 1, a9, n9, c9, rfl, by go_num, by omega, HS9.out⟩
     case measure => simp [intOf]; omega
    ·have hks' : ¬ (k : Int) < (i : Int) := by omega
     obtain ⟨al, hsi, hsrt, hn1, hn2, CB⟩ := HS.out.bound (by omega) hz30
     have HN1 : Hid (n1 = (setL al).length) := hn1
     have HN2 : Hid (n2 = al.length) := hn2
     have HSI : Hid (SI i al) := hsi
     have HSRT : Hid (W.SrtM al) := hsrt
     have HAL : Hid (al.length ≤ 30) := (show al.length ≤ 30 by rw [hsi.ln]; exact hz30)
     have hn2b : n2 ≤ 30 := by rw [hn2]; exact HAL.out
     obtain ⟨dl, hdl⟩ : ∃ dl, (setD al).length = dl := ⟨_, rfl⟩
     obtain ⟨ml, hml⟩ : ∃ ml, (setM al).length = ml := ⟨_, rfl⟩
     have HDL : Hid ((setD al).length = dl) := hdl
     have HML : Hid ((setM al).length = ml) := hml
     have HCM : Hid (∀ t V, S3 W2 Z al t a1 c1 a2 c2 V → Calls Tryz.prog 18 #[.pointer (some ⟨Z.nb, 0, none⟩), .int .i64 t] V fun e w' => ∃ a b c d, e = .returned (.tuple #[.slice a dl b, .slice c ml d, .int .i64 0]) ∧ S4 W2 Z al t a1 c1 a2 c2 ((a, b), (c, d)) w') := fun t V h => by
      have h9 := h.commit
      rw [hdl, hml] at h9
      exact h9
     clear HS hn1 hn2 hsi hsrt hdl hml
     go_wp2_with (first
      | (go_at_call 13; refine CB.mono ?_; rintro e v1 ⟨u1, rfl, h1⟩; have H1 : Hid (S2 W2 Z al a1 c1 a2 c2 v1) := h1; clear h1 CB)
      | (go_at_call 27; refine (Hid.out H1).local.mono ?_; rintro e v2 ⟨t2, rfl, ht2, h2⟩; have H2 : Hid (S3 W2 Z al t2 a1 c1 a2 c2 v2) := h2; clear h2 H1)
      | (go_at_call 18; refine (Hid.out HCM _ _ (Hid.out H2)).mono ?_; rintro e v4 ⟨da, db, oa, ob, rfl, h4⟩; have HS4 : Hid (S4 W2 Z al t2 a1 c1 a2 c2 ((da, db), (oa, ob)) v4) := h4; have hc4 := Hid.out HWB _ h4.bel; have y2 := hc4.1.2.2; have lbx := hc4.2.1; have QF : ∀ q, Calls Tryz.prog 23 #[.pointer (some ⟨Z.nb, 0, none⟩)] (v4.drewN q) fun e w' => e = .returned (.int .i64 t2) ∧ w' = v4.drewN q := (fun q => (h4.on (below_drewN _ _ _)).floor.mono fun e w' h => ⟨h.1, h.2.symm⟩); have hnt : ¬ t2 < (boD n).en := (fun g => (by have h200 : (boD n).en = 200 := rfl; omega)); clear h4 hc4 H2))
     go_quiet (first | (go_at_call 23; refine Calls.quiet_of_same (QF _)))
     generalize hwq : World.drewN _ _ = v5
     have HB45 : Hid (Below v4.heap.size v4 v5) := by rw [← hwq]; exact below_drewN _ _ _
     clear hwq QF y2 lbx
     go_wp2
     go_loopw [29, 30, 31, 32, 33] (fun s29 s30 s31 s32 s33 wq => ∃ (p : Nat) (st sn : Int) (a3 : Option Addr) (n3 c3 : Nat) (a4 : Option Addr) (n4 c4 : Nat), s29 = .int .i64 st ∧ s30 = .int .i64 sn ∧ s31 = .slice a3 n3 c3 ∧ s32 = .slice a4 n4 c4 ∧ s33 = .int .i64 p ∧ p ≤ n2 ∧ Hid (L4 al v4 p st sn a3 n3 c3 a4 n4 c4 wq)) (fun _ _ _ _ s33 _ => n2 - (intOf s33).toNat)
     case atStart => exact ⟨0, 0, 0, _, 0, 0, _, 0, 0, rfl, rfl, rfl, rfl, rfl, Nat.zero_le _, L4.start al HB45.out⟩
     case round =>
      clear HB45
      obtain ⟨p, st, sn, a3, n3, c3, a4, n4, c4, rfl, rfl, rfl, rfl, rfl, hp, HL⟩ := hrel
      have HBV : Hid (Below v4.heap.size v4 wr) := HL.out.t.bel
      obtain ⟨⟨y0, y1, y2⟩, lbx, hww⟩ := HWB.out wr (HS4.out.on HBV.out).bel
      by_cases hpp : p < Go.Proofs.YtiaopafkfadmkaaGreat.W.posT 200 al
      ·obtain ⟨t, j, s1, os, A, A2, Bl, L, X, hnth, hil, hlt2, hj30, hs1, hos, hol, hsn0, hsn1, hL, hA, hBl, hLl, hn3, hn4, hA2, hX, hT, hnx⟩ := HL.out.round HSI.out HSRT.out hz30 hpp n
       have hpn : p < n2 := by rw [HN2.out]; exact hil
       have hpn' : (p : Int) < (n2 : Int) := by omega
       have HR : Hid (∀ V, Below v4.heap.size v4 V → ∃ gb go, a2 = some ⟨gb, go, none⟩ ∧ gb < V.heap.size ∧ V.cell? ⟨gb, go + p * 6, none⟩ = some (.int .i64 t) ∧ V.cell? ⟨gb, go + p * 6 + 1, none⟩ = some (.int .i64 1) ∧ V.cell? ⟨gb, go + p * 6 + 2, none⟩ = some (.int .i64 (j : Int)) ∧ V.cell? ⟨gb, go + p * 6 + 3, none⟩ = some (.int .i64 0) ∧ V.cell? ⟨gb, go + p * 6 + 4, none⟩ = some (.int .i64 0) ∧ V.cell? ⟨gb, go + p * 6 + 5, none⟩ = some (.int .i64 (j : Int))) := fun V hV => row_msg (HS4.out.on hV).a hil hnth
       obtain ⟨gb, go, rfl, lgb, x0, _, _, _, _, _⟩ := HR.out wr HBV.out
       have HR2 : Hid (∀ V, Below v4.heap.size v4 V → gb < V.heap.size ∧ V.cell? ⟨gb, go + p * 6, none⟩ = some (.int .i64 t) ∧ V.cell? ⟨gb, go + p * 6 + 1, none⟩ = some (.int .i64 1) ∧ V.cell? ⟨gb, go + p * 6 + 2, none⟩ = some (.int .i64 (j : Int)) ∧ V.cell? ⟨gb, go + p * 6 + 3, none⟩ = some (.int .i64 0) ∧ V.cell? ⟨gb, go + p * 6 + 4, none⟩ = some (.int .i64 0) ∧ V.cell? ⟨gb, go + p * 6 + 5, none⟩ = some (.int .i64 (j : Int))) := fun V hV => by
        obtain ⟨gb', go', e, h⟩ := HR.out V hV
        simp at e
        obtain ⟨rfl, rfl⟩ := e
        exact h
       have hen : t < (boD n).en := (show t < 200 from hlt2)
       have HWV : Hid (∀ V, Below v4.heap.size v4 V → (V.cell? ⟨w2.heap.size, 0, none⟩ = some (.slice (boD n).pa (boD n).ps.length (boD n).pc) ∧ V.cell? ⟨w2.heap.size, 1, none⟩ = some (.slice (boD n).fa (boD n).fs.length (boD n).fc) ∧ V.cell? ⟨w2.heap.size, 2, none⟩ = some (.int .i64 (boD n).en)) ∧ w2.heap.size < V.heap.size ∧ Ww V (boD n)) := fun V hV => HWB.out V (HS4.out.on hV).bel
       have HT : Hid (T2 cD 49 B.cM 39 v4 wr (.slice a3 n3 c3) (.slice a4 n4 c4) A Bl) := hT
       have HNX : Hid (∀ a3' c3' a4' c4' V', T2 cD 49 B.cM 39 v4 V' (.slice a3' A2.length c3') (.slice a4' X.length c4') A2 X → L4 al v4 (p + 1) s1 (sn + (os.length : Int)) a3' A2.length c3' a4' X.length c4' V') := hnx
       have HX : Hid (Bl ++ L = X) := hX
       have HA2 : Hid (A ++ [⟨⟨t, 1, (j : Int), 0, 0, (j : Int)⟩, s1⟩] = A2) := hA2
       have HLN : Hid (A.length ≤ 100000 ∧ Bl.length ≤ 100000 ∧ L.length ≤ 100000) := ⟨by omega, by omega, by omega⟩
       have hws : IntKind.i64.wrap (sn + (os.length : Int)) = sn + (os.length : Int) := by rw [IntKind.wrap_i64]; omega
       have HCS : Hid (∀ V, Below v4.heap.size v4 V → Calls Tryz.prog 38 #[.slice (boF0 n).ra (boF0 n).rs.length (boF0 n).rc, .int .i64 st, .int .i64 0] V fun e w' => ∃ a c, e = .returned (.tuple #[.int .i64 s1, .slice a os.length c]) ∧ RdO w' a os ∧ Below V.heap.size V w') := fun V hV => by
        have h9 := rstep_at (HWV.out V hV).2.2 st
        rw [hs1, hos] at h9
        exact h9
       have HCP : Hid (∀ V a cp, Below v4.heap.size v4 V → RdO V a os → Calls Tryz.prog 39 #[.agg #[.slice (boD n).pa (boD n).ps.length (boD n).pc, .slice (boD n).fa (boD n).fs.length (boD n).fc, .int .i64 (boD n).en], .int .i64 0, .int .i64 sn, .int .i64 t, .int .i64 (j : Int), .slice a os.length cp] V fun e w' => ∃ va vc, e = .returned (.slice va L.length vc) ∧ B.OwR B.cM 39 w' (.slice va L.length vc) L ∧ (∀ k, (Value.slice va L.length vc).ownBlock = some k → V.heap.size ≤ k) ∧ Below V.heap.size V w') := fun V a cp hV hr => by
        have h9 := rspread_at (HWV.out V hV).2.2 sn t (j : Int) hr hol hsn0 (by omega) (cp := cp)
        rw [hL] at h9
        exact h9
       obtain ⟨fb, fo, hfa, _⟩ := rules_at hww
       have HFR : Hid (∀ V, Below v4.heap.size v4 V → fb < V.heap.size ∧ V.cell? ⟨fb, fo + 3, none⟩ = some (.slice (boF0 n).ra (boF0 n).rs.length (boF0 n).rc)) := fun V hV => by
        obtain ⟨fb', fo', e, h1, h2, _⟩ := rules_at (HWV.out V hV).2.2
        rw [hfa] at e
        simp at e
        obtain ⟨rfl, rfl⟩ := e
        exact ⟨h1, h2⟩
       have HFA : Hid ((boD n).fa = some ⟨fb, fo, none⟩) := hfa
       clear HL hnth hil hs1 hos hol hsn0 hsn1 hL hA hBl hLl hn3 hn4 hA2 hX hT hnx hlt2 hww hfa HR
       go_wp2_with fail
       go_quiet (fail)
       generalize hwq : World.drewN _ _ = v6
       have hb6 : Below wr.heap.size wr v6 := by rw [← hwq]; exact below_drewN _ _ _
       have HB6 : Hid (Below v4.heap.size v4 v6) := HBV.out.trans (hb6.mono HBV.out.size)
       have HT6 : Hid (T2 cD 49 B.cM 39 v4 v6 (.slice a3 n3 c3) (.slice a4 n4 c4) A Bl) := HT.out.on hb6
       clear hwq hb6 HT x0 lgb y0 y1 y2 lbx
       obtain ⟨⟨y0, y1, y2⟩, lbx, _⟩ := HWV.out v6 HB6.out
       rw [HFA.out] at y1
       obtain ⟨lfb, f3⟩ := HFR.out v6 HB6.out
       have hfl : (boD n).fs.length = 3 := rfl
       rw [hfl] at y1
       have CST := HCS.out v6 HB6.out
       go_wp2_with (go_at_call 38; refine CST.mono ?_; rintro e v7 ⟨a7, c7, rfl, hr7, hb7⟩; have HR7 : Hid (RdO v7 a7 os) := hr7; have HB7 : Hid (Below v4.heap.size v4 v7) := (Hid.out HB6).trans (hb7.mono (Hid.out HB6).size); have HT7 : Hid (T2 cD 49 B.cM 39 v4 v7 (.slice a3 n3 c3) (.slice a4 n4 c4) A Bl) := T2.on (Hid.out HT6) hb7; clear hr7 hb7 CST HT6 HB6 y0 y1 y2 lbx lfb f3)
       obtain ⟨⟨y0, y1, y2⟩, lbx, _⟩ := HWV.out v7 HB7.out
       obtain ⟨lgb, x0, x1, x2, x3, x4, x5⟩ := HR2.out v7 HB7.out
       have CSP : Hid (Calls Tryz.prog 39 #[.agg #[.slice (boD n).pa (boD n).ps.length (boD n).pc, .slice (boD n).fa (boD n).fs.length (boD n).fc, .int .i64 (boD n).en], .int .i64 0, .int .i64 sn, .int .i64 t, .int .i64 (j : Int), .slice a7 os.length c7] v7.drew fun e w' => ∃ va vc, e = .returned (.slice va L.length vc) ∧ B.OwR B.cM 39 w' (.slice va L.length vc) L ∧ (∀ k, (Value.slice va L.length vc).ownBlock = some k → v7.drew.heap.size ≤ k) ∧ Below v7.drew.heap.size v7.drew w') := HCP.out v7.drew a7 c7 (HB7.out.trans ((below_drew v7).mono HB7.out.size)) (HR7.out.below (below_drew v7))
       clear HCP HR7 HCS
       go_region_held3 (fun w' => w'.cell? ⟨w2.heap.size, 0, none⟩ = some (.slice (boD n).pa (boD n).ps.length (boD n).pc) ∧ w'.cell? ⟨w2.heap.size, 1, none⟩ = some (.slice (boD n).fa (boD n).fs.length (boD n).fc) ∧ w'.cell? ⟨w2.heap.size, 2, none⟩ = some (.int .i64 (boD n).en) ∧ w'.cell? ⟨gb, go + p * 6, none⟩ = some (.int .i64 t) ∧ w'.cell? ⟨gb, go + p * 6 + 5, none⟩ = some (.int .i64 (j : Int))) (first | (go_keep; done) | exact Hid.out KEEP) (first
        | (go_at_call 39; refine (Hid.out CSP).mono ?_; rintro e v8 ⟨va, vc, rfl, ho8, _, hb8⟩; have HO8 : Hid (B.OwR B.cM 39 v8 (.slice va L.length vc) L) := ho8; have hbd := (Hid.out HB7).trans ((below_drew v7).mono (Hid.out HB7).size); have HB8 : Hid (Below v4.heap.size v4 v8) := hbd.trans (hb8.mono hbd.size); have HT8 : Hid (T2 cD 49 B.cM 39 v4 v8 (.slice a3 n3 c3) (.slice a4 n4 c4) A Bl) := T2.on (T2.on (Hid.out HT7) (below_drew v7)) hb8; have k1 := (Hid.out HWV v8 (Hid.out HB8)).1; have k2 := (Hid.out HR2 v8 (Hid.out HB8)).2; have KEEP : Hid (v8.cell? ⟨w2.heap.size, 0, none⟩ = some (.slice (boD n).pa (boD n).ps.length (boD n).pc) ∧ v8.cell? ⟨w2.heap.size, 1, none⟩ = some (.slice (boD n).fa (boD n).fs.length (boD n).fc) ∧ v8.cell? ⟨w2.heap.size, 2, none⟩ = some (.int .i64 (boD n).en) ∧ v8.cell? ⟨gb, go + p * 6, none⟩ = some (.int .i64 t) ∧ v8.cell? ⟨gb, go + p * 6 + 5, none⟩ = some (.int .i64 (j : Int))) := And.intro k1.1 (And.intro k1.2.1 (And.intro k1.2.2 (And.intro k2.1 k2.2.2.2.2.2))); clear ho8 hb8 hbd CSP HT7 k1 k2))
       clear KEEP y0 y1 y2 lbx lgb x0 x1 x2 x3 x4 x5
       go_wp2_with (first
        | (at_builtin; refine B.wpList_append_R B.tyM (fun _ => True) _ rfl (.tmp 219) (.tmp 220) rfl (.slice a4 n4 c4) _ _ Bl L rfl rfl (Hid.out HT8).rb (own_n (Hid.out HO8)).2 (Hid.out HLN).2.1 (Hid.out HLN).2.2 X (Hid.out HX) ?_; intro a9 c9 v9 ho hm; have HT9 : Hid (T2 cD 49 B.cM 39 v4 v9 (.slice a3 n3 c3) (.slice a9 X.length c9) A X) := T2.flip (T2.app (T2.flip (Hid.out HT8)) ho hm); obtain ⟨lgb, x0, x1, x2, x3, x4, x5⟩ := Hid.out HR2 v9 (Hid.out HT9).bel; clear ho hm HT8 HO8)
        | (at_builtin; refine B.wpList_append_R tyD (fun _ => True) _ rfl (.tmp 227) (.tmp 234) rfl (.slice a3 n3 c3) _ _ A [⟨⟨t, 1, (j : Int), 0, 0, (j : Int)⟩, s1⟩] rfl rfl (B.OwR.below (Hid.out HT9).ra (B.al _ _)) (B.RdN.new cD _ ⟨⟨t, 1, (j : Int), 0, 0, (j : Int)⟩, s1⟩ _ _ rfl trivial) (Hid.out HLN).1 (by simp) A2 (Hid.out HA2) ?_; intro a10 c10 v10 ho hm; have HL10 : Hid (L4 al v4 (p + 1) s1 (sn + (os.length : Int)) a10 A2.length c10 a9 X.length c9 v10) := Hid.out HNX a10 c10 a9 c9 v10 (T2.app (T2.on (Hid.out HT9) (B.al _ _)) ho hm); clear ho hm))
       refine ⟨?_, ?measure⟩
       ·(repeat apply Exists.intro)
        refine ⟨?rel, rfl⟩
        exact ⟨p + 1, s1, sn + (os.length : Int), a10, A2.length, c10, a9, X.length, c9, rfl, rfl, rfl, rfl, by go_num, by omega, HL10.out⟩
       ·simp [intOf]; omega
      ·obtain ⟨hst, hn3, hn4, r3, r4⟩ := HL.out.done HSRT.out hpp
       have HST : Hid (st = setS al) := hst
       have HN4 : Hid (n4 = (setB al).length) := hn4
       have hn4b : n4 ≤ 720 := by rw [hn4]; exact setB_len al HAL.out
       have hbl := HBV.out
       by_cases hpn : p < n2
       focus
        have hpn' : (p : Int) < (n2 : Int) := by omega
        have hil : p < al.length := by rw [← HN2.out]; exact hpn
        obtain ⟨⟨⟨m1, m2, m3⟩, m4, m5, m6⟩, hm⟩ : ∃ m, B.nth B.cM al p = m := ⟨_, rfl⟩
        obtain ⟨gb, go, ea2, lgb, x0, _, _, _, _, _⟩ := row_msg (HS4.out.on hbl).a hil hm
        have hne : ¬ m1 < (boD n).en := by
         have h9 := at_end HSRT.out hpp hil
         rw [B.nth_get hil] at hm
         rw [hm] at h9
         exact h9
        subst ea2
        clear HL hst hn3 hn4 hm hww
        go_wp2_with fail
        go_quiet (fail)
       rotate_left
       focus
        have hpn' : ¬ (p : Int) < (n2 : Int) := by omega
        clear HL hst hn3 hn4 hww
        go_wp2_with fail
        go_quiet (fail)
       all_goals
        generalize hwq : World.drewN _ _ = v6
        have hb6 : Below wr.heap.size wr v6 := by rw [← hwq]; exact below_drewN _ _ _
        have HW3 : Hid (B.OwR cD 49 v6 (.slice a3 n3 c3) (setD al)) := r3.below hb6
        have HB4 : Hid (B.OwR B.cM 39 v6 (.slice a4 n4 c4) (setB al)) := r4.below hb6
        have HB46 : Hid (Below v4.heap.size v4 v6) := hbl.trans (hb6.mono hbl.size)
        clear hwq r3 r4 hbl hb6
        go_wp2
        go_loopw [37, 38, 39] (fun s37 s38 s39 wq => ∃ (j : Nat) (a5 : Option Addr) (n5 c5 : Nat) (a6 : Option Addr) (n6 c6 : Nat), s37 = .slice a5 n5 c5 ∧ s38 = .slice a6 n6 c6 ∧ s39 = .int .i64 j ∧ j ≤ n4 ∧ Hid (L5 al v6 j a5 n5 c5 a6 n6 c6 wq)) (fun _ _ s39 _ => n4 - (intOf s39).toNat)
        case atStart => exact ⟨0, _, 0, 0, _, 0, 0, rfl, rfl, rfl, Nat.zero_le _, L5.start al v6⟩
        case round =>
         obtain ⟨j, a5, n5, c5, a6, n6, c6, rfl, rfl, rfl, hj, HL5⟩ := hrel
         by_cases hjn : j < n4
         ·have hjn' : (j : Int) < (n4 : Int) := by omega
          obtain ⟨m1, m2, m3, m4, m5, m6, A, Bl, hnth, hA, hBl, hn5, hn6, hT, hn1, hn2⟩ := HL5.out.round HAL.out (by rw [← HN4.out]; exact hjn)
          obtain ⟨gb, go, ea4, lgb, x0, x1, x2, x3, x4, x5⟩ := row_msg (HB4.out.below hT.bel) (by rw [← HN4.out]; exact hjn) hnth
          subst ea4
          by_cases hm4 : m4 = 1
          ·have dm4 : (m4 == 1) = true := by simpa using hm4
           obtain ⟨X, hX⟩ : ∃ X, A ++ [((m1, m2, m3), m4, m5, m6)] = X := ⟨_, rfl⟩
           have hnx := hn1 hm4
           rw [hX] at hnx
           have HT : Hid (T2 B.cM 39 B.cM 39 v6 wr (.slice a5 n5 c5) (.slice a6 n6 c6) A Bl) := hT
           have HX : Hid (A ++ [((m1, m2, m3), m4, m5, m6)] = X) := hX
           have HLL : Hid (A.length ≤ 100000) := (show A.length ≤ 100000 by omega)
           have HNX : Hid (∀ a' c' V', T2 B.cM 39 B.cM 39 v6 V' (.slice a' X.length c') (.slice a6 n6 c6) X Bl → L5 al v6 (j + 1) a' X.length c' a6 n6 c6 V') := hnx
           clear hX hT hnx hn1 hn2 hm4 hA hBl hn5 hn6 hnth HL5
           go_wp2_with (at_builtin; refine B.wpList_append_R B.tyM (fun _ => True) _ rfl (.tmp 250) (.tmp 255) rfl (.slice a5 n5 c5) _ _ A [((m1, m2, m3), m4, m5, m6)] rfl rfl (B.OwR.below (Hid.out HT).ra (B.al _ _)) (B.RdN.new B.cM _ ((m1, m2, m3), m4, m5, m6) _ _ rfl trivial) (Hid.out HLL) (by simp) X (Hid.out HX) ?_; intro a' c' w8 ho hm; have HS8 : Hid (L5 al v6 (j + 1) a' X.length c' a6 n6 c6 w8) := Hid.out HNX a' c' w8 (T2.app (T2.on (Hid.out HT) (B.al _ _)) ho hm); clear ho hm)
           go_roundw
           case rel => exact ⟨j + 1, a', X.length, c', a6, n6, c6, rfl, rfl, by go_num, by omega, HS8.out⟩
           case measure => simp [intOf]; omega
          ·have dm4 : (m4 == 1) = false := by simpa using hm4
           obtain ⟨X, hX⟩ : ∃ X, Bl ++ [((m1, m2, m3), m4, m5, m6)] = X := ⟨_, rfl⟩
           have hnx := hn2 hm4
           rw [hX] at hnx
           have HT : Hid (T2 B.cM 39 B.cM 39 v6 wr (.slice a5 n5 c5) (.slice a6 n6 c6) A Bl) := hT
           have HX : Hid (Bl ++ [((m1, m2, m3), m4, m5, m6)] = X) := hX
           have HLL : Hid (Bl.length ≤ 100000) := (show Bl.length ≤ 100000 by omega)
           have HNX : Hid (∀ a' c' V', T2 B.cM 39 B.cM 39 v6 V' (.slice a5 n5 c5) (.slice a' X.length c') A X → L5 al v6 (j + 1) a5 n5 c5 a' X.length c' V') := hnx
           clear hX hT hnx hn1 hn2 hm4 hA hBl hn5 hn6 hnth HL5
           go_wp2_with (at_builtin; refine B.wpList_append_R B.tyM (fun _ => True) _ rfl (.tmp 257) (.tmp 262) rfl (.slice a6 n6 c6) _ _ Bl [((m1, m2, m3), m4, m5, m6)] rfl rfl (B.OwR.below (Hid.out HT).rb (B.al _ _)) (B.RdN.new B.cM _ ((m1, m2, m3), m4, m5, m6) _ _ rfl trivial) (Hid.out HLL) (by simp) X (Hid.out HX) ?_; intro a' c' w8 ho hm; have HS8 : Hid (L5 al v6 (j + 1) a5 n5 c5 a' X.length c' w8) := Hid.out HNX a' c' w8 (T2.flip (T2.app (T2.flip (T2.on (Hid.out HT) (B.al _ _))) ho hm)); clear ho hm)
           go_roundw
           case rel => exact ⟨j + 1, a5, n5, c5, a', X.length, c', rfl, rfl, by go_num, by omega, HS8.out⟩
           case measure => simp [intOf]; omega
         ·have hjn' : ¬ (j : Int) < (n4 : Int) := by omega
          obtain ⟨e5, e6, q3, q4, hbz⟩ := HL5.out.done (by rw [← HN4.out]; exact hjn)
          clear e5 e6
          have H5 := HS4.out.on (HB46.out.trans (hbz.mono HB46.out.size))
          have hw3 := HW3.out.below hbz
          have C1 : Calls Tryz.prog 20 #[.slice da dl db, .slice a3 n3 c3] wr fun e w' => e = .returned (.bool true) ∧ Below wr.heap.size wr w' := by
           have h9 := H5.r.d
           rw [HDL.out] at h9
           exact same_d h9 hw3 (by have := setD_len al HAL.out; omega)
          have HC2 : Hid (∀ V, Below wr.heap.size wr V → Calls Tryz.prog 21 #[.slice a1 n1 c1, .slice a5 n5 c5] V fun e w' => e = .returned (.bool true) ∧ Below V.heap.size V w') := fun V hV => by
           have h9 := H5.l.below hV
           rw [← HN1.out] at h9
           exact same_m h9 (q3.below hV) (by have := setL_len al HAL.out; omega)
          have HC3 : Hid (∀ V, Below wr.heap.size wr V → Calls Tryz.prog 21 #[.slice oa ml ob, .slice a6 n6 c6] V fun e w' => e = .returned (.bool true) ∧ Below V.heap.size V w') := fun V hV => by
           have h9 := H5.r.m.below hV
           rw [HML.out] at h9
           exact same_m h9 (q4.below hV) (by have := setM_len al HAL.out; omega)
          have HC4 : Hid (∀ V, Below wr.heap.size wr V → Calls Tryz.prog 22 #[.pointer (some ⟨Z.nb, 0, none⟩)] V fun e w' => e = .returned (.int .i64 st) ∧ V = w') := fun V hV => by
           rw [HST.out]
           exact (H5.on hV).state
          have HBE : Hid (Below w.heap.size w wr) := HBW.out _ H5.bel
          clear HL5 H5 hw3 q3 q4 hbz HS4 HW3 HB4
          go_wp2_with (first
           | (go_at_call 20; refine C1.mono ?_; rintro e y1 ⟨rfl, g1⟩; have HG1 : Hid (Below wr.heap.size wr y1) := g1; clear g1 C1)
           | (go_at_call 21; refine (Hid.out HC2 _ (Hid.out HG1)).mono ?_; rintro e y2 ⟨rfl, g2⟩; have HG2 : Hid (Below wr.heap.size wr y2) := (Hid.out HG1).trans (g2.mono (Hid.out HG1).size); clear g2 HC2)
           | (go_at_call 21; refine (Hid.out HC3 _ (Hid.out HG2)).mono ?_; rintro e y3 ⟨rfl, g3⟩; have HG3 : Hid (Below wr.heap.size wr y3) := (Hid.out HG2).trans (g3.mono (Hid.out HG2).size); clear g3 HC3)
           | (go_at_call 22; refine (Hid.out HC4 _ (Hid.out HG3)).mono ?_; rintro e y4 ⟨rfl, rfl⟩; clear HC4))
          go_ret
          exact ⟨rfl, HBE.out.trans (HG3.out.mono HBE.out.size)⟩
end Go.Proofs.YtiaopafkfadmkaaGreat.V
