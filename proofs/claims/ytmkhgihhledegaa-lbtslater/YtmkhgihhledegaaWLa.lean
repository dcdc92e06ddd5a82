/- Proved: the walk of LbtsLater. -/
import Derived.Test.YtmkhgihhledegaaLab
namespace Go.Proofs.Ytmkhgihhledegaa
open Go.RowKit Go.Shelf
open L (Mb IsG lbt oth outM cnt vadd)
set_option linter.unusedVariables false

set_option maxRecDepth 100000 in
set_option maxHeartbeats 4000000 in
theorem later_walk (w : World) (sa : Option Addr) (sc : Nat) (l : List Mb) (hn : l.length ≤ maxLen) (hz : RdN cB (fun _ => True) w sa l) (i : Int) (hi : 0 ≤ i ∧ i ≤ 255) (a b c d : Int) (ha : 0 ≤ a ∧ a ≤ 65535) (hb : 0 ≤ b ∧ b ≤ 65535) (hc : 0 ≤ c ∧ c ≤ 65535) (hd : 0 ≤ d ∧ d ≤ 65535) (gone : Bool) :
    Calls Try.prog 5 #[.slice sa l.length sc, .int .u8 i, .agg #[.int .u16 a, .int .u16 b, .int .u16 c, .int .u16 d], .bool gone] w fun e w' => e = .returned (.bool true) ∧ Below w.heap.size w w' := by
  unfold maxLen at hn
  obtain ⟨i0, i1⟩ := hi
  obtain ⟨n, hnn⟩ : ∃ n, l.length = n := ⟨_, rfl⟩
  rw [hnn] at hn ⊢
  obtain ⟨W0, hW0⟩ : ∃ W0, w.alloc (.cells #[.int .u16 a, .int .u16 b, .int .u16 c, .int .u16 d] 38) = W0 := ⟨_, rfl⟩
  have HB0 : Hid (Below w.heap.size w W0) := by rw [← hW0]; exact al _ _
  have HA0 : Hid (Ay W0 w.heap.size a b c d) := by
    rw [← hW0]
    exact ⟨by simp, cellN _ _ _ 0, cellN _ _ _ 1, cellN _ _ _ 2, cellN _ _ _ 3⟩
  have NI : Hid (∀ W, Calls Try.prog 12 #[.slice none 0 0, .int .i64 3] W fun e w' => e = .returned (.int .i64 1125899906842624) ∧ Below W.heap.size W w') := fun W => pb_nil W 3
  by_cases hb : 20 < n ∨ n = 0
  · clear hnn hz
    rcases hb with h | h
    · have hb' : (20 : Int) < (n : Int) := by omega
      go_enter Try.func5, Try.ntmps5
      go_wp2_with (go_at_call 12; refine (Hid.out NI _).mono ?_; rintro e w1 ⟨rfl, h1⟩; have B1 : Hid _ := h1; clear h1)
      go_ret
      exact ⟨rfl, Below.on HB0.out B1.out⟩
    · subst h
      go_enter Try.func5, Try.ntmps5
      go_wp2_with (go_at_call 12; refine (Hid.out NI _).mono ?_; rintro e w1 ⟨rfl, h1⟩; have B1 : Hid _ := h1; clear h1)
      go_ret
      exact ⟨rfl, Below.on HB0.out B1.out⟩
  have hb' : ¬ (20 : Int) < (n : Int) := by omega
  have hb2 : ((n : Int) == 0) = false := by simp; omega
  have hn0 : (n : Int) ≠ 0 := by omega
  have h1 : n ≤ 1000 := by omega
  have ma := Int.emod_nonneg i (b := (n : Int)) (by omega)
  have ma' := Int.emod_lt_of_pos i (b := (n : Int)) (by omega)
  obtain ⟨k, hk⟩ : ∃ k : Nat, i % (n : Int) = k := ⟨(i % (n : Int)).toNat, by omega⟩
  have hkn : k < n := by omega
  have hkn' : (k : Int) < (n : Int) := by omega
  have hnp : 0 < n := by omega
  clear ma ma' hb
  obtain ⟨m, hm⟩ : ∃ m, L.nth l k = m := ⟨_, rfl⟩
  obtain ⟨O, hG⟩ := L.G_ex l
  obtain ⟨P, hP⟩ := L.G_ex (l.set k (ltr m a b c d gone))
  have HLE : Hid (∀ j : Int, lbt l O j ≤ lbt (l.set k (ltr m a b c d gone)) P j) := fun j => by
    rw [← hm] at hP ⊢
    exact ltr_set hnn hkn a b c hd.1 gone hG hP j
  have HM : Hid (L.nth l k = m ∧ l.length = n) := ⟨hm, hnn⟩
  have HZ : Hid (RdN cB (fun _ => True) w sa l) := hz
  have HG : Hid (IsG l O) := hG
  have HP : Hid (IsG (l.set k (ltr m a b c d gone)) P) := hP
  have H0 : Hid _ := Rmk.made (e := 33) HB0.out
  have TM : Hid (∀ t d (W : World), Calls Try.prog 14 #[.int .i64 t, .int .i64 d] W fun e w' => e = .returned (.int .i64 (vadd t d)) ∧ W = w') := fun t d W => refadd_any t d W
  obtain ⟨qy, hqy⟩ : ∃ qy, w.heap.size = qy := ⟨_, rfl⟩
  have HQY : Hid (w.heap.size = qy) := hqy
  rw [hqy] at HA0
  clear hnn hz hn hG hP hm
  go_enter Try.func5, Try.ntmps5
  go_wp2_with (at_builtin; refine wpList_append_R tyL (fun _ => True) _ rfl (.tmp 29) (.tmp 30) rfl (.slice (some ⟨W0.heap.size, 0, none⟩) 0 0) _ _ [] l rfl (by rw [HM.out.2]; rfl) (Hid.out H0).own (((Hid.out HZ).below (Hid.out HB0)).below (al _ _)) (by simp) (by rw [HM.out.2]; omega) l rfl ?_; intro a1 c1 w1 ho hm; have HOR : Hid _ := ho; have HMW : Hid _ := hm; clear ho hm)
  have H1 : Hid (Rmk 33 w w1 (.slice a1 l.length c1) l) := H0.out.app HOR.out HMW.out
  have HA1 : Hid (Ay w1 qy a b c d) := by
    refine (HA0.out.keep (Fr.of_below (S := fun _ => False) (al W0 (.cells #[] 33))) (fun e => e)).keep HMW.out.fr (fun e => ?_)
    have e9 := HA0.out.lt
    have e8 : W0.heap.size = qy := by simpa [Value.ownBlock] using e
    omega
  clear HOR HMW
  obtain ⟨g, rfl, hcr⟩ := Cr.of H1.out HM.out.2 hnp
  simp only [HM.out.2]
  have q0 := hcr.at hkn HM.out.1
  obtain ⟨⟨r0, r1, r2, r3, r4, r5, r6⟩, f0, f1, f2, f3, f4, f5, f6⟩ := q0
  have hgl := hcr.lt
  have HCR : Hid (Cr w w1 g n l) := hcr
  clear hcr
  obtain ⟨re, co, ti, lo, ki, ak, fi⟩ := m
  simp only at r0 r1 r2 r3 r4 r5 r6
  have L2 : Hid _ := La.new ⟨re, co, ti, lo, ki, ak, fi⟩ HCR.out HA1.out
  dsimp only at L2
  obtain ⟨qx, hqx⟩ : ∃ qx, w1.heap.size = qx := ⟨_, rfl⟩
  obtain ⟨W2, hW2⟩ : ∃ W2, w1.alloc (.cells #[.bool re, .bool co, .int .i64 ti, .int .i64 lo, .int .i64 ki, .int .i64 ak, .int .i64 fi] 33) = W2 := ⟨_, rfl⟩
  rw [hW2, hqx] at L2
  obtain ⟨X1, hX1⟩ : ∃ X1, W2.setCell ⟨qx, 2, none⟩ (.int .i64 (vadd ti a)) = X1 := ⟨_, rfl⟩
  have L3 : Hid _ := L2.out.set 2 _ (L2.out.bx.s2 (vadd ti a))
  rw [hX1] at L3
  obtain ⟨X2, hX2⟩ : ∃ X2, X1.setCell ⟨qx, 5, none⟩ (.int .i64 (vadd ak b)) = X2 := ⟨_, rfl⟩
  have L4 : Hid _ := L3.out.set 5 _ (L3.out.bx.s5 (vadd ak b))
  rw [hX2] at L4
  obtain ⟨X3, hX3⟩ : ∃ X3, X2.setCell ⟨qx, 6, none⟩ (.int .i64 (vadd fi c)) = X3 := ⟨_, rfl⟩
  have L5 : Hid _ := L4.out.set 6 _ (L4.out.bx.s6 (vadd fi c))
  rw [hX3] at L5
  obtain ⟨lk, hlk⟩ : ∃ lk, max 1 (min lo 1048576) = lk := ⟨_, rfl⟩
  obtain ⟨X4, hX4⟩ : ∃ X4, X3.setCell ⟨qx, 3, none⟩ (.int .i64 (lk + d)) = X4 := ⟨_, rfl⟩
  have L6 : Hid _ := L5.out.set 3 _ (L5.out.bx.s3 (lk + d))
  rw [hX4] at L6
  dsimp only at L3 L4 L5 L6
  have hlk1 : 1 ≤ lk ∧ lk ≤ 1048576 := by omega
  have y0 := L2.out.ay.a
  have y1 := L3.out.ay.b
  have y2 := L4.out.ay.c
  have y3 := L5.out.ay.d
  have x2 := L2.out.bx.c2.1
  have z2 := L2.out.bx.c2.2
  have x5 := L3.out.bx.c5.1
  have z5 := L3.out.bx.c5.2
  have x6 := L4.out.bx.c6.1
  have z6 := L4.out.bx.c6.2
  have x3 := L5.out.bx.c3.1
  have z3 := L5.out.bx.c3.2
  clear L3 L4 L5
  cases gone
  · have zz : True := trivial
    have HLX : Hid (Cr w X4 g n l) := L6.out.cr
    obtain ⟨⟨s0, s1, s2, s3, s4, s5, s6⟩, u0, u1, u2, u3, u4, u5, u6⟩ := HLX.out.at hkn HM.out.1
    simp only at s0 s1 s2 s3 s4 s5 s6
    have v0 := L6.out.bx.c0.1
    have v1 := L6.out.bx.c1.1
    have v2 := L6.out.bx.c2.1
    have v3 := L6.out.bx.c3.1
    have v4 := L6.out.bx.c4.1
    have v5 := L6.out.bx.c5.1
    have v6 := L6.out.bx.c6.1
    clear L6
    obtain ⟨Y0, hY0⟩ : ∃ Y0, X4.setCell ⟨g, k * 7, none⟩ (.bool re) = Y0 := ⟨_, rfl⟩
    obtain ⟨s01, u01⟩ := set_o (W := X4) (q := g) (i := k * 7) (j := k * 7 + 1) (v := .bool re) (by omega) ⟨s1, u1⟩
    obtain ⟨s02, u02⟩ := set_o (W := X4) (q := g) (i := k * 7) (j := k * 7 + 2) (v := .bool re) (by omega) ⟨s2, u2⟩
    obtain ⟨s03, u03⟩ := set_o (W := X4) (q := g) (i := k * 7) (j := k * 7 + 3) (v := .bool re) (by omega) ⟨s3, u3⟩
    obtain ⟨s04, u04⟩ := set_o (W := X4) (q := g) (i := k * 7) (j := k * 7 + 4) (v := .bool re) (by omega) ⟨s4, u4⟩
    obtain ⟨s05, u05⟩ := set_o (W := X4) (q := g) (i := k * 7) (j := k * 7 + 5) (v := .bool re) (by omega) ⟨s5, u5⟩
    obtain ⟨s06, u06⟩ := set_o (W := X4) (q := g) (i := k * 7) (j := k * 7 + 6) (v := .bool re) (by omega) ⟨s6, u6⟩
    rw [hY0] at s01 u01 s02 u02 s03 u03 s04 u04 s05 u05 s06 u06
    obtain ⟨Y1, hY1⟩ : ∃ Y1, Y0.setCell ⟨g, k * 7 + 1, none⟩ (.bool co) = Y1 := ⟨_, rfl⟩
    obtain ⟨s12, u12⟩ := set_o (W := Y0) (q := g) (i := k * 7 + 1) (j := k * 7 + 2) (v := .bool co) (by omega) ⟨s02, u02⟩
    obtain ⟨s13, u13⟩ := set_o (W := Y0) (q := g) (i := k * 7 + 1) (j := k * 7 + 3) (v := .bool co) (by omega) ⟨s03, u03⟩
    obtain ⟨s14, u14⟩ := set_o (W := Y0) (q := g) (i := k * 7 + 1) (j := k * 7 + 4) (v := .bool co) (by omega) ⟨s04, u04⟩
    obtain ⟨s15, u15⟩ := set_o (W := Y0) (q := g) (i := k * 7 + 1) (j := k * 7 + 5) (v := .bool co) (by omega) ⟨s05, u05⟩
    obtain ⟨s16, u16⟩ := set_o (W := Y0) (q := g) (i := k * 7 + 1) (j := k * 7 + 6) (v := .bool co) (by omega) ⟨s06, u06⟩
    rw [hY1] at s12 u12 s13 u13 s14 u14 s15 u15 s16 u16
    obtain ⟨Y2, hY2⟩ : ∃ Y2, Y1.setCell ⟨g, k * 7 + 2, none⟩ (.int .i64 (vadd ti a)) = Y2 := ⟨_, rfl⟩
    obtain ⟨s23, u23⟩ := set_o (W := Y1) (q := g) (i := k * 7 + 2) (j := k * 7 + 3) (v := .int .i64 (vadd ti a)) (by omega) ⟨s13, u13⟩
    obtain ⟨s24, u24⟩ := set_o (W := Y1) (q := g) (i := k * 7 + 2) (j := k * 7 + 4) (v := .int .i64 (vadd ti a)) (by omega) ⟨s14, u14⟩
    obtain ⟨s25, u25⟩ := set_o (W := Y1) (q := g) (i := k * 7 + 2) (j := k * 7 + 5) (v := .int .i64 (vadd ti a)) (by omega) ⟨s15, u15⟩
    obtain ⟨s26, u26⟩ := set_o (W := Y1) (q := g) (i := k * 7 + 2) (j := k * 7 + 6) (v := .int .i64 (vadd ti a)) (by omega) ⟨s16, u16⟩
    rw [hY2] at s23 u23 s24 u24 s25 u25 s26 u26
    obtain ⟨Y3, hY3⟩ : ∃ Y3, Y2.setCell ⟨g, k * 7 + 3, none⟩ (.int .i64 (lk + d)) = Y3 := ⟨_, rfl⟩
    obtain ⟨s34, u34⟩ := set_o (W := Y2) (q := g) (i := k * 7 + 3) (j := k * 7 + 4) (v := .int .i64 (lk + d)) (by omega) ⟨s24, u24⟩
    obtain ⟨s35, u35⟩ := set_o (W := Y2) (q := g) (i := k * 7 + 3) (j := k * 7 + 5) (v := .int .i64 (lk + d)) (by omega) ⟨s25, u25⟩
    obtain ⟨s36, u36⟩ := set_o (W := Y2) (q := g) (i := k * 7 + 3) (j := k * 7 + 6) (v := .int .i64 (lk + d)) (by omega) ⟨s26, u26⟩
    rw [hY3] at s34 u34 s35 u35 s36 u36
    obtain ⟨Y4, hY4⟩ : ∃ Y4, Y3.setCell ⟨g, k * 7 + 4, none⟩ (.int .i64 ki) = Y4 := ⟨_, rfl⟩
    obtain ⟨s45, u45⟩ := set_o (W := Y3) (q := g) (i := k * 7 + 4) (j := k * 7 + 5) (v := .int .i64 ki) (by omega) ⟨s35, u35⟩
    obtain ⟨s46, u46⟩ := set_o (W := Y3) (q := g) (i := k * 7 + 4) (j := k * 7 + 6) (v := .int .i64 ki) (by omega) ⟨s36, u36⟩
    rw [hY4] at s45 u45 s46 u46
    obtain ⟨Y5, hY5⟩ : ∃ Y5, Y4.setCell ⟨g, k * 7 + 5, none⟩ (.int .i64 (vadd ak b)) = Y5 := ⟨_, rfl⟩
    obtain ⟨s56, u56⟩ := set_o (W := Y4) (q := g) (i := k * 7 + 5) (j := k * 7 + 6) (v := .int .i64 (vadd ak b)) (by omega) ⟨s46, u46⟩
    rw [hY5] at s56 u56
    obtain ⟨Y6, hY6⟩ : ∃ Y6, Y5.setCell ⟨g, k * 7 + 6, none⟩ (.int .i64 (vadd fi c)) = Y6 := ⟨_, rfl⟩
    have HP6 : Hid (Cr w Y6 g n (l.set k (ltr ⟨re, co, ti, lo, ki, ak, fi⟩ a b c d false))) := by
      have := HLX.out.put hkn re co (vadd ti a) (lk + d) ki (vadd ak b) (vadd fi c)
      rw [hY0, hY1, hY2, hY3, hY4, hY5, hY6] at this
      rw [← hlk] at this
      exact this
    go_wp2_with (go_at_call 14; refine (Hid.out TM _ _ _).mono ?_; rintro e w' ⟨rfl, rfl⟩)
    obtain ⟨l2, hl2⟩ : ∃ l2, (l.set k (ltr ⟨re, co, ti, lo, ki, ak, fi⟩ a b c d false)) = l2 := ⟨_, rfl⟩
    rw [hl2] at HP6 HP HLE
    go_loopw [12] (fun s12 wr => ∃ (j : Nat), s12 = .int .i64 j ∧ j ≤ n ∧ Hid (Cr w wr g n l2)) (fun s12 _ => n - (intOf s12).toNat)
    case atStart => exact ⟨0, rfl, Nat.zero_le _, HP6.out⟩
    case round =>
      obtain ⟨j, rfl, hj, HC⟩ := hrel
      by_cases hlt : j < n
      · have hlt' : (j : Int) < (n : Int) := by omega
        obtain ⟨vm, hvm⟩ : ∃ vm, lbt l2 P j = vm := ⟨_, rfl⟩
        obtain ⟨vl, hvl⟩ : ∃ vl, lbt l O j = vl := ⟨_, rfl⟩
        have hvv : ¬ vm < vl := by have := HLE.out (j : Int); rw [hvm, hvl] at this; omega
        have PBM : Hid (Calls Try.prog 12 #[.slice (some ⟨g, 0, none⟩) n c1, .int .i64 j] wr fun e w' => e = .returned (.int .i64 vm) ∧ Cr w w' g n l2) := by
          rw [← hvm]
          exact (pb_any HP.out HC.out.rd HC.out.len h1 j).mono fun e w' ⟨he, hb⟩ => ⟨he, HC.out.on hb⟩
        have PBL : Hid (∀ W, Cr w W g n l2 → Calls Try.prog 12 #[.slice sa n sc, .int .i64 j] W fun e w' => e = .returned (.int .i64 vl) ∧ Cr w w' g n l2) := fun W hW => by
          rw [← hvl]
          exact (pb_any HG.out (HZ.out.below hW.bel) HM.out.2 h1 j).mono fun e w' ⟨he, hb⟩ => ⟨he, hW.on hb⟩
        have TH : Hid (∀ W, Cr w W g n l2 → Calls Try.prog 11 #[.slice sa n sc] W fun e w' => ∃ a' c', e = .returned (.slice a' n c') ∧ RdN cB (fun _ => True) w' a' l ∧ Cr w w' g n l2) := fun W hW => (theirs_any (HZ.out.below hW.bel) HM.out.2 h1).mono fun e w' ⟨a', c', he, hr, hb⟩ => ⟨a', c', he, hr, hW.on hb⟩
        have DB : Hid (∀ W a' c', Cr w W g n l2 → RdN cB (fun _ => True) W a' l → Calls Try.prog 13 #[.slice a' n c', .int .i64 j] W fun e w' => e = .returned (.int .i64 vl) ∧ Cr w w' g n l2) := fun W a' c' hW hr => by
          rw [← hvl]
          exact (db_any HG.out hr HM.out.2 h1 j).mono fun e w' ⟨he, hb⟩ => ⟨he, hW.on hb⟩
        clear hvm hvl
        go_wp2_with (first
          | (go_at_call 12; refine (Hid.out PBM).mono ?_; rintro e w4 ⟨rfl, h4⟩; have B4 : Hid _ := h4; clear h4 PBM)
          | (go_at_call 12; refine (Hid.out PBL _ (by first | exact Hid.out B5 | exact Hid.out B4)).mono ?_; rintro e w5 ⟨rfl, h5⟩; have B5 : Hid _ := h5; clear h5)
          | (go_at_call 11; refine (Hid.out TH _ (Hid.out B5)).mono ?_; rintro e w7 ⟨a', c', rfl, hr7, h7⟩; have B7 : Hid _ := h7; have R7 : Hid _ := hr7; clear h7 hr7)
          | (go_at_call 13; refine (Hid.out DB _ _ _ (Hid.out B7) (Hid.out R7)).mono ?_; rintro e w8 ⟨rfl, h8⟩; have B8 : Hid _ := h8; clear h8))
        go_roundw
        case rel => exact ⟨j + 1, by go_num, by omega, B8.out⟩
        case measure => simp [intOf]; omega
      · obtain rfl : j = n := by omega
        go_wp2_with fail
        go_ret
        exact ⟨rfl, HC.out.bel⟩
  · obtain ⟨X5, hX5⟩ : ∃ X5, X4.setCell ⟨qx, 0, none⟩ (.bool false) = X5 := ⟨_, rfl⟩
    have L7 : Hid _ := L6.out.set 0 _ (L6.out.bx.s0 false)
    rw [hX5] at L7
    dsimp only at L7
    have x0 := L6.out.bx.c0.1
    have z0 := L6.out.bx.c0.2
    have HLX : Hid (Cr w X5 g n l) := L7.out.cr
    obtain ⟨⟨s0, s1, s2, s3, s4, s5, s6⟩, u0, u1, u2, u3, u4, u5, u6⟩ := HLX.out.at hkn HM.out.1
    simp only at s0 s1 s2 s3 s4 s5 s6
    have v0 := L7.out.bx.c0.1
    have v1 := L7.out.bx.c1.1
    have v2 := L7.out.bx.c2.1
    have v3 := L7.out.bx.c3.1
    have v4 := L7.out.bx.c4.1
    have v5 := L7.out.bx.c5.1
    have v6 := L7.out.bx.c6.1
    clear L7
    obtain ⟨Y0, hY0⟩ : ∃ Y0, X5.setCell ⟨g, k * 7, none⟩ (.bool false) = Y0 := ⟨_, rfl⟩
    obtain ⟨s01, u01⟩ := set_o (W := X5) (q := g) (i := k * 7) (j := k * 7 + 1) (v := .bool false) (by omega) ⟨s1, u1⟩
    obtain ⟨s02, u02⟩ := set_o (W := X5) (q := g) (i := k * 7) (j := k * 7 + 2) (v := .bool false) (by omega) ⟨s2, u2⟩
    obtain ⟨s03, u03⟩ := set_o (W := X5) (q := g) (i := k * 7) (j := k * 7 + 3) (v := .bool false) (by omega) ⟨s3, u3⟩
    obtain ⟨s04, u04⟩ := set_o (W := X5) (q := g) (i := k * 7) (j := k * 7 + 4) (v := .bool false) (by omega) ⟨s4, u4⟩
    obtain ⟨s05, u05⟩ := set_o (W := X5) (q := g) (i := k * 7) (j := k * 7 + 5) (v := .bool false) (by omega) ⟨s5, u5⟩
    obtain ⟨s06, u06⟩ := set_o (W := X5) (q := g) (i := k * 7) (j := k * 7 + 6) (v := .bool false) (by omega) ⟨s6, u6⟩
    rw [hY0] at s01 u01 s02 u02 s03 u03 s04 u04 s05 u05 s06 u06
    obtain ⟨Y1, hY1⟩ : ∃ Y1, Y0.setCell ⟨g, k * 7 + 1, none⟩ (.bool co) = Y1 := ⟨_, rfl⟩
    obtain ⟨s12, u12⟩ := set_o (W := Y0) (q := g) (i := k * 7 + 1) (j := k * 7 + 2) (v := .bool co) (by omega) ⟨s02, u02⟩
    obtain ⟨s13, u13⟩ := set_o (W := Y0) (q := g) (i := k * 7 + 1) (j := k * 7 + 3) (v := .bool co) (by omega) ⟨s03, u03⟩
    obtain ⟨s14, u14⟩ := set_o (W := Y0) (q := g) (i := k * 7 + 1) (j := k * 7 + 4) (v := .bool co) (by omega) ⟨s04, u04⟩
    obtain ⟨s15, u15⟩ := set_o (W := Y0) (q := g) (i := k * 7 + 1) (j := k * 7 + 5) (v := .bool co) (by omega) ⟨s05, u05⟩
    obtain ⟨s16, u16⟩ := set_o (W := Y0) (q := g) (i := k * 7 + 1) (j := k * 7 + 6) (v := .bool co) (by omega) ⟨s06, u06⟩
    rw [hY1] at s12 u12 s13 u13 s14 u14 s15 u15 s16 u16
    obtain ⟨Y2, hY2⟩ : ∃ Y2, Y1.setCell ⟨g, k * 7 + 2, none⟩ (.int .i64 (vadd ti a)) = Y2 := ⟨_, rfl⟩
    obtain ⟨s23, u23⟩ := set_o (W := Y1) (q := g) (i := k * 7 + 2) (j := k * 7 + 3) (v := .int .i64 (vadd ti a)) (by omega) ⟨s13, u13⟩
    obtain ⟨s24, u24⟩ := set_o (W := Y1) (q := g) (i := k * 7 + 2) (j := k * 7 + 4) (v := .int .i64 (vadd ti a)) (by omega) ⟨s14, u14⟩
    obtain ⟨s25, u25⟩ := set_o (W := Y1) (q := g) (i := k * 7 + 2) (j := k * 7 + 5) (v := .int .i64 (vadd ti a)) (by omega) ⟨s15, u15⟩
    obtain ⟨s26, u26⟩ := set_o (W := Y1) (q := g) (i := k * 7 + 2) (j := k * 7 + 6) (v := .int .i64 (vadd ti a)) (by omega) ⟨s16, u16⟩
    rw [hY2] at s23 u23 s24 u24 s25 u25 s26 u26
    obtain ⟨Y3, hY3⟩ : ∃ Y3, Y2.setCell ⟨g, k * 7 + 3, none⟩ (.int .i64 (lk + d)) = Y3 := ⟨_, rfl⟩
    obtain ⟨s34, u34⟩ := set_o (W := Y2) (q := g) (i := k * 7 + 3) (j := k * 7 + 4) (v := .int .i64 (lk + d)) (by omega) ⟨s24, u24⟩
    obtain ⟨s35, u35⟩ := set_o (W := Y2) (q := g) (i := k * 7 + 3) (j := k * 7 + 5) (v := .int .i64 (lk + d)) (by omega) ⟨s25, u25⟩
    obtain ⟨s36, u36⟩ := set_o (W := Y2) (q := g) (i := k * 7 + 3) (j := k * 7 + 6) (v := .int .i64 (lk + d)) (by omega) ⟨s26, u26⟩
    rw [hY3] at s34 u34 s35 u35 s36 u36
    obtain ⟨Y4, hY4⟩ : ∃ Y4, Y3.setCell ⟨g, k * 7 + 4, none⟩ (.int .i64 ki) = Y4 := ⟨_, rfl⟩
    obtain ⟨s45, u45⟩ := set_o (W := Y3) (q := g) (i := k * 7 + 4) (j := k * 7 + 5) (v := .int .i64 ki) (by omega) ⟨s35, u35⟩
    obtain ⟨s46, u46⟩ := set_o (W := Y3) (q := g) (i := k * 7 + 4) (j := k * 7 + 6) (v := .int .i64 ki) (by omega) ⟨s36, u36⟩
    rw [hY4] at s45 u45 s46 u46
    obtain ⟨Y5, hY5⟩ : ∃ Y5, Y4.setCell ⟨g, k * 7 + 5, none⟩ (.int .i64 (vadd ak b)) = Y5 := ⟨_, rfl⟩
    obtain ⟨s56, u56⟩ := set_o (W := Y4) (q := g) (i := k * 7 + 5) (j := k * 7 + 6) (v := .int .i64 (vadd ak b)) (by omega) ⟨s46, u46⟩
    rw [hY5] at s56 u56
    obtain ⟨Y6, hY6⟩ : ∃ Y6, Y5.setCell ⟨g, k * 7 + 6, none⟩ (.int .i64 (vadd fi c)) = Y6 := ⟨_, rfl⟩
    have HP6 : Hid (Cr w Y6 g n (l.set k (ltr ⟨re, co, ti, lo, ki, ak, fi⟩ a b c d true))) := by
      have := HLX.out.put hkn false co (vadd ti a) (lk + d) ki (vadd ak b) (vadd fi c)
      rw [hY0, hY1, hY2, hY3, hY4, hY5, hY6] at this
      rw [← hlk] at this
      exact this
    go_wp2_with (go_at_call 14; refine (Hid.out TM _ _ _).mono ?_; rintro e w' ⟨rfl, rfl⟩)
    obtain ⟨l2, hl2⟩ : ∃ l2, (l.set k (ltr ⟨re, co, ti, lo, ki, ak, fi⟩ a b c d true)) = l2 := ⟨_, rfl⟩
    rw [hl2] at HP6 HP HLE
    go_loopw [12] (fun s12 wr => ∃ (j : Nat), s12 = .int .i64 j ∧ j ≤ n ∧ Hid (Cr w wr g n l2)) (fun s12 _ => n - (intOf s12).toNat)
    case atStart => exact ⟨0, rfl, Nat.zero_le _, HP6.out⟩
    case round =>
      obtain ⟨j, rfl, hj, HC⟩ := hrel
      by_cases hlt : j < n
      · have hlt' : (j : Int) < (n : Int) := by omega
        obtain ⟨vm, hvm⟩ : ∃ vm, lbt l2 P j = vm := ⟨_, rfl⟩
        obtain ⟨vl, hvl⟩ : ∃ vl, lbt l O j = vl := ⟨_, rfl⟩
        have hvv : ¬ vm < vl := by have := HLE.out (j : Int); rw [hvm, hvl] at this; omega
        have PBM : Hid (Calls Try.prog 12 #[.slice (some ⟨g, 0, none⟩) n c1, .int .i64 j] wr fun e w' => e = .returned (.int .i64 vm) ∧ Cr w w' g n l2) := by
          rw [← hvm]
          exact (pb_any HP.out HC.out.rd HC.out.len h1 j).mono fun e w' ⟨he, hb⟩ => ⟨he, HC.out.on hb⟩
        have PBL : Hid (∀ W, Cr w W g n l2 → Calls Try.prog 12 #[.slice sa n sc, .int .i64 j] W fun e w' => e = .returned (.int .i64 vl) ∧ Cr w w' g n l2) := fun W hW => by
          rw [← hvl]
          exact (pb_any HG.out (HZ.out.below hW.bel) HM.out.2 h1 j).mono fun e w' ⟨he, hb⟩ => ⟨he, hW.on hb⟩
        have TH : Hid (∀ W, Cr w W g n l2 → Calls Try.prog 11 #[.slice sa n sc] W fun e w' => ∃ a' c', e = .returned (.slice a' n c') ∧ RdN cB (fun _ => True) w' a' l ∧ Cr w w' g n l2) := fun W hW => (theirs_any (HZ.out.below hW.bel) HM.out.2 h1).mono fun e w' ⟨a', c', he, hr, hb⟩ => ⟨a', c', he, hr, hW.on hb⟩
        have DB : Hid (∀ W a' c', Cr w W g n l2 → RdN cB (fun _ => True) W a' l → Calls Try.prog 13 #[.slice a' n c', .int .i64 j] W fun e w' => e = .returned (.int .i64 vl) ∧ Cr w w' g n l2) := fun W a' c' hW hr => by
          rw [← hvl]
          exact (db_any HG.out hr HM.out.2 h1 j).mono fun e w' ⟨he, hb⟩ => ⟨he, hW.on hb⟩
        clear hvm hvl
        go_wp2_with (first
          | (go_at_call 12; refine (Hid.out PBM).mono ?_; rintro e w4 ⟨rfl, h4⟩; have B4 : Hid _ := h4; clear h4 PBM)
          | (go_at_call 12; refine (Hid.out PBL _ (by first | exact Hid.out B5 | exact Hid.out B4)).mono ?_; rintro e w5 ⟨rfl, h5⟩; have B5 : Hid _ := h5; clear h5)
          | (go_at_call 11; refine (Hid.out TH _ (Hid.out B5)).mono ?_; rintro e w7 ⟨a', c', rfl, hr7, h7⟩; have B7 : Hid _ := h7; have R7 : Hid _ := hr7; clear h7 hr7)
          | (go_at_call 13; refine (Hid.out DB _ _ _ (Hid.out B7) (Hid.out R7)).mono ?_; rintro e w8 ⟨rfl, h8⟩; have B8 : Hid _ := h8; clear h8))
        go_roundw
        case rel => exact ⟨j + 1, by go_num, by omega, B8.out⟩
        case measure => simp [intOf]; omega
      · obtain rfl : j = n := by omega
        go_wp2_with fail
        go_ret
        exact ⟨rfl, HC.out.bel⟩
end Go.Proofs.Ytmkhgihhledegaa
