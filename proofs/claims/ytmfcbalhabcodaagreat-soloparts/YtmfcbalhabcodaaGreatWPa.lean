/- Proved: the walk of the statement on a run in parts, and on another run of the same federation. -/
import Derived.Test.YtmfcbalhabcodaaGreatTpr
namespace Go.Proofs.YtmfcbalhabcodaaGreat
open Go.RowKit Go.Shelf
set_option linter.unusedVariables false

set_option maxRecDepth 100000 in
set_option maxHeartbeats 4000000 in
theorem parts_walk (w : World) (D : Wd) (hp : RdI w w.heap.size D.pa D.ps) (hf : RdF w D.fa D.fs) (za : Option Addr) (zc : Nat) (z : List Int) (hz : InB w za z) :
    Calls Tryz.prog 5 #[wv D, .slice za z.length zc] w fun e w' => e = .returned (.bool true) ∧ Below w.heap.size w w' := by
  have mixed : Tryz.prog.follows .mixedOrders = true := by kernel_rfl
  have hb0 := al w (.cells (wcs D) 25)
  obtain ⟨⟨x0, x1, x2⟩, hp1, hf1⟩ := box_of hp hf
  have HV := small_any _ D hp1 hf1
  obtain ⟨B, hB⟩ : ∃ B, w.heap.size = B := ⟨_, rfl⟩
  rw [hB] at x0 x1 x2
  have lB := clt x0
  dsimp only at lB
  cases hh : hvyW D with
  | true =>
    rw [hh] at HV
    dsimp only [wv, wcs] at HV x0 x1 x2 lB hb0 ⊢
    clear hp hf hp1 hf1 hh hz
    go_enter Tryz.func5, Tryz.ntmps5
    go_wp2_with fail
    refine HV.mono ?_
    rintro e w1 ⟨rfl, hb1⟩
    have hb1' := hb0.trans (hb1.mono hb0.size)
    clear HV
    go_wp2_with fail
    refine (shown_any w1).mono ?_
    rintro e w2 ⟨rfl, hb2⟩
    go_wp2_with fail
    go_ret
    exact ⟨rfl, hb1'.trans (hb2.mono hb1'.size)⟩
  | false =>
    have hW := ww_of hp1 hf1 hh
    rw [hh] at HV
    by_cases hz8 : (z.length : Int) > 8
    · have d8 : decide ((z.length : Int) > 8) = true := decide_eq_true hz8
      have hz8' : (8 : Int) < (z.length : Int) := hz8
      dsimp only [wv, wcs] at HV x0 x1 x2 lB hb0 ⊢
      clear hp hf hp1 hf1 hh hz hW
      go_enter Tryz.func5, Tryz.ntmps5
      go_wp2_with fail
      refine HV.mono ?_
      rintro e w1 ⟨rfl, hb1⟩
      have hb1' := hb0.trans (hb1.mono hb0.size)
      clear HV
      go_wp2_with fail
      refine (shown_any w1).mono ?_
      rintro e w2 ⟨rfl, hb2⟩
      go_wp2_with fail
      go_ret
      exact ⟨rfl, hb1'.trans (hb2.mono hb1'.size)⟩
    have d8 : decide ((z.length : Int) > 8) = false := decide_eq_false hz8
    have hz8' : ¬ (8 : Int) < (z.length : Int) := hz8
    obtain ⟨W0, hW0⟩ : ∃ W0, W0 = w.alloc (.cells (wcs D) 25) := ⟨_, rfl⟩
    rw [← hW0] at HV x0 x1 x2 lB hb0 hW
    have HX : Hid (∀ W, Below W0.heap.size W0 W → BoxW W B D) := fun W hW' => (BoxW.mk x0 x1 x2 hW).below hW'
    obtain ⟨N, E, hNE⟩ : ∃ N E, wldE D = (N, E) := ⟨_, _, rfl⟩
    have HNE : Hid _ := hNE
    have HW0 : Hid _ := hW0
    have HBE : Hid _ := hB
    have HB0 : Hid _ := hb0
    have HZ : Hid (InB W0 za z) := hz.below hb0
    have hfl := hW.fl
    dsimp only [wv, wcs] at HV HW0 ⊢
    rw [HW0.out] at HV x0 x1 x2 lB
    clear hp hf hp1 hf1 hh hW hNE hW0 hb0 hz
    by_cases hE : E = 0
    · subst hE
      have hDen : Hid (OkD D) := okD_of HNE.out
      go_enter Tryz.func5, Tryz.ntmps5
      go_wp2_with fail
      refine HV.mono ?_
      rintro e w1 ⟨rfl, hb1⟩
      rw [← HW0.out] at hb1
      clear HV x0 x1 x2 lB
      obtain ⟨x0, x1, x2, hW1⟩ := HX.out w1 hb1
      have lB : B < w1.heap.size := clt x0
      have C1 := Lv.new hb1 hW1 HNE.out
      dsimp only [wv] at C1
      clear hW1
      go_wp2_with fail
      refine C1.mono ?_
      rintro e w2 ⟨rb, rfl, hL2, hb2⟩
      have hb2' := hL2.bel
      clear x0 x1 x2 lB
      obtain ⟨x0, x1, x2, hW2⟩ := HX.out w2 hb2'
      have lB : B < w2.heap.size := clt x0
      have C2 := Tw.newB hL2 hW2 HNE.out
      dsimp only [wv] at C2
      clear C1 hW2 hL2 hb1 hb2 hb2'
      go_wp2_with fail
      refine C2.mono ?_
      rintro e w3 ⟨rb2, rfl, hT3⟩
      clear x0 x1 x2 lB
      obtain ⟨x0, x1, x2, hW3⟩ := HX.out w3 hT3.bel
      have lB : B < w3.heap.size := clt x0
      have C3 := T3.newC hT3 hW3 HNE.out
      dsimp only [wv] at C3
      clear C2 hT3 hW3
      go_wp2_with fail
      refine C3.mono ?_
      rintro e w4 ⟨db, rfl, hT4⟩
      have S := shown_any w4
      have HT4 : Hid _ := hT4
      clear C3 x0 x1 x2 lB hT4
      go_wp2_with fail
      refine S.mono ?_
      rintro e w5 ⟨rfl, hb5⟩
      have HT5 : Hid (T3 W0 D rb rb2 db (newR D) (newR D) (newR D) w5) := T3.below (Hid.out HT4) hb5
      have HWW : Hid (Ww W0 D) := (HX.out W0 (Below.refl _ _)).ok
      clear S hb5
      go_wp2_with fail
      go_loopw [11, 12] (fun s11 s12 wr => ∃ (i n : Nat) (r : Rn), s11 = .int .i64 n ∧ s12 = .int .i64 i ∧ i ≤ z.length ∧ n ≤ 7 * i ∧ T3 W0 D rb rb2 db r (newR D) (newR D) wr ∧ Hid (stpsR D n (newR D) = (n, r))) (fun _ s12 _ => z.length - (intOf s12).toNat)
      case atStart => exact ⟨0, 0, newR D, rfl, rfl, Nat.zero_le _, Nat.zero_le _, HT5.out, (rfl : stpsR D 0 (newR D) = (0, newR D))⟩
      case round =>
        clear HT5
        obtain ⟨i, n, r, rfl, rfl, hi, hn, hT, HS⟩ := hrel
        have hdl : r.dn.length ≤ n := by
          have h1 := stps_dn D n (newR D)
          rw [HS.out] at h1
          have h3 : (newR D).dn.length = 0 := rfl
          dsimp only at h1
          omega
        by_cases hiz : i < z.length
        · have hi' : (i : Int) < (z.length : Int) := by omega
          obtain ⟨hz0, hz1⟩ := (HZ.out).1 i hiz
          obtain ⟨zb, zo, hza, hzb, hzc⟩ := (InB.below HZ.out hT.bel).2 (by intro e; rw [e] at hiz; simp at hiz)
          have t0 := hzc i hiz
          obtain ⟨u, hu⟩ : ∃ u, nthI z i = u := ⟨_, rfl⟩
          rw [hu] at hz0 hz1 t0
          obtain ⟨q, hq⟩ : ∃ q : Nat, u % 8 = (q : Int) := ⟨(u % 8).toNat, by omega⟩
          have hq2 : q < 8 := by omega
          have hqt : u.tmod 8 = (q : Int) := by rw [Int.tmod_eq_emod_of_nonneg hz0]; exact hq
          have C := hT.stepsA q (by omega)
          obtain ⟨d, r2, hdr⟩ : ∃ d r2, stpsR D q r = (d, r2) := ⟨_, _, rfl⟩
          have hdq : d ≤ q := by
            have := stps_le D q r
            rw [hdr] at this
            exact this
          have HON : Hid (stpsR D (n + d) (newR D) = (n + d, r2)) := stps_on HS.out hdr
          rw [hdr] at C
          dsimp only at C
          subst hza
          clear hT hzc hu hdr
          go_wp2_with fail
          refine C.mono ?_
          rintro e w6 ⟨rfl, hT6⟩
          have HT6 : Hid _ := hT6
          clear C hT6
          go_wp2_with fail
          go_roundw
          case rel => exact ⟨i + 1, n + d, r2, by go_num, by go_num, by omega, by omega, HT6.out, HON.out⟩
          case measure => simp [intOf]; omega
        · have C5 := hT.stepsB n (by simp [newR]; omega)
          rw [HS.out] at C5
          dsimp only at C5
          have HS2 : Hid _ := HS
          clear hT
          go_wp2_with fail
          refine C5.mono ?_
          rintro e w6 ⟨rfl, hT6⟩
          have C6 := hT6.stepsC HWW.out n (by simp [newR]; omega)
          rw [HS.out] at C6
          dsimp only at C6
          clear C5 hT6
          go_wp2_with fail
          refine C6.mono ?_
          rintro e w7 ⟨rfl, hT7⟩
          have hdn2 : r.dn.length ≤ 60 := by omega
          have hwl2 := hT7.wl
          have C7 := wait_rd (L2.seeP hT7) (by omega)
          have HT7 : Hid _ := hT7
          clear C6 hT7
          go_wp2_with fail
          refine C7.mono ?_
          rintro e w8 ⟨a8, c8, rfl, hM8, hb8⟩
          have hT8 := T3.below (Hid.out HT7) hb8
          have C8 := wait_rd hT8.seeB (by omega)
          have HT8 : Hid _ := hT8
          have HM8 : Hid _ := hM8
          clear C7 hT8 hM8 hb8
          go_wp2_with fail
          refine C8.mono ?_
          rintro e w9 ⟨a9, c9, rfl, hM9, hb9⟩
          have C9 := same_yes w9 a8 a9 c8 c9 r.wt (RdM.below HM8.out hb9) hM9 (by omega)
          have HT9 : Hid (T3 W0 D rb rb2 db r r r w9) := T3.below (Hid.out HT8) hb9
          clear C8 hM9 hb9
          go_wp2_with fail
          refine C9.mono ?_
          rintro e w10 ⟨rfl, hb10⟩
          have HT10 : Hid (T3 W0 D rb rb2 db r r r w10) := T3.below (Hid.out HT9) hb10
          clear C9 hb10
          go_wp2_with fail
          go_loopw [13] (fun s13 wx => ∃ (k : Nat), s13 = .int .i64 k ∧ k ≤ D.fs.length ∧ T3 W0 D rb rb2 db r r r wx) (fun s13 _ => D.fs.length - (intOf s13).toNat)
          case atStart => exact ⟨0, rfl, Nat.zero_le _, HT10.out⟩
          case round =>
            clear HT10
            obtain ⟨k, rfl, hk, hT⟩ := hrel
            obtain ⟨x0, x1, x2, _⟩ := HX.out wr hT.bel
            have lB : B < wr.heap.size := clt x0
            by_cases hkl : k < D.fs.length
            · have hk' : (k : Int) < (D.fs.length : Int) := by omega
              have CA := log_rd (L2.seeP hT) (k : Int) (by omega)
              have hlen : (logR r (k : Int)).length ≤ 60 := Nat.le_trans (logR_le _ _) hdn2
              have HT : Hid _ := hT
              clear hT
              go_wp2_with fail
              refine CA.mono ?_
              rintro e w11 ⟨la, lc1, rfl, hD11, hb11⟩
              have hT11 := T3.below (Hid.out HT) hb11
              have CB := log_rd hT11.seeB (k : Int) (by omega)
              have HT11 : Hid _ := hT11
              have HD11 : Hid _ := hD11
              clear CA hT11 hD11 hb11 x0 x1 x2 lB
              go_wp2_with fail
              refine CB.mono ?_
              rintro e w12 ⟨la2, lc2, rfl, hD12, hb12⟩
              have CC := sameD_yes w12 la la2 lc1 lc2 (logR r (k : Int)) (RdD.below (Hid.out HD11) hb12) hD12 (by omega)
              have HT12 : Hid (T3 W0 D rb rb2 db r r r w12) := T3.below (Hid.out HT11) hb12
              clear CB hD12 hb12
              go_wp2_with fail
              refine CC.mono ?_
              rintro e w13 ⟨rfl, hb13⟩
              have hT13 := T3.below (Hid.out HT12) hb13
              have CD := log_rd (L2.seeP hT13) (k : Int) (by omega)
              have HT13 : Hid _ := hT13
              clear CC hT13 hb13
              go_wp2_with fail
              refine CD.mono ?_
              rintro e w14 ⟨la3, lc3, rfl, hD14, hb14⟩
              have hT14 := T3.below (Hid.out HT13) hb14
              have CE := dlog_rd hT14.seeC (k : Int) (by omega)
              have HT14 : Hid _ := hT14
              have HD14 : Hid _ := hD14
              clear CD hT14 hD14 hb14
              go_wp2_with fail
              refine CE.mono ?_
              rintro e w15 ⟨la4, lc4, rfl, hD15, hb15⟩
              have CF := sameD_yes w15 la3 la4 lc3 lc4 (logR r (k : Int)) (RdD.below (Hid.out HD14) hb15) hD15 (by omega)
              have HT15 : Hid (T3 W0 D rb rb2 db r r r w15) := T3.below (Hid.out HT14) hb15
              clear CE hD15 hb15
              go_wp2_with fail
              refine CF.mono ?_
              rintro e w16 ⟨rfl, hb16⟩
              have HT16 : Hid (T3 W0 D rb rb2 db r r r w16) := T3.below (Hid.out HT15) hb16
              clear CF hb16
              go_wp2_with fail
              go_roundw
              case rel => exact ⟨k + 1, by go_num, by omega, HT16.out⟩
              case measure => simp [intOf]; omega
            · obtain rfl : k = D.fs.length := by omega
              have HBF : Hid (Below w.heap.size w wr) := (HB0.out).trans (hT.bel.mono (HB0.out).size)
              clear hT
              go_wp2_with fail
              go_ret
              exact ⟨rfl, by first | exact HBF.out | (have h9 := HBF.out; rw [hB] at h9; exact h9)⟩
    · have k1 : (E != 0) = true := by simpa using hE
      go_enter Tryz.func5, Tryz.ntmps5
      go_wp2_with fail
      refine HV.mono ?_
      rintro e w1 ⟨rfl, hb1⟩
      rw [← HW0.out] at hb1
      clear HV x0 x1 x2 lB
      obtain ⟨x0, x1, x2, hW1⟩ := HX.out w1 hb1
      have lB : B < w1.heap.size := clt x0
      have C1 := new_bad hW1 HNE.out hE
      dsimp only [wv] at C1
      clear hW1
      go_wp2_with fail
      refine C1.mono ?_
      rintro e w2 ⟨rfl, hb2⟩
      have hb2' := hb1.trans (hb2.mono hb1.size)
      clear x0 x1 x2 lB
      obtain ⟨x0, x1, x2, hW2⟩ := HX.out w2 hb2'
      have lB : B < w2.heap.size := clt x0
      have C2 := new_bad hW2 HNE.out hE
      dsimp only [wv] at C2
      clear C1 hW2 hb1 hb2
      go_wp2_with fail
      refine C2.mono ?_
      rintro e w3 ⟨rfl, hb3⟩
      have hb3' := hb2'.trans (hb3.mono hb2'.size)
      clear x0 x1 x2 lB
      obtain ⟨x0, x1, x2, hW3⟩ := HX.out w3 hb3'
      have lB : B < w3.heap.size := clt x0
      have C3 := dnew_bad hW3 HNE.out hE
      dsimp only [wv] at C3
      clear C2 hW3 hb3 hb2'
      go_wp2_with fail
      refine C3.mono ?_
      rintro e w4 ⟨rfl, hb4⟩
      have hb4' := hb3'.trans (hb4.mono hb3'.size)
      have S := shown_any w4
      clear C3 x0 x1 x2 lB
      go_wp2_with fail
      refine S.mono ?_
      rintro e w5 ⟨rfl, hb5⟩
      have HBF : Hid (Below w.heap.size w w5) := (HB0.out).trans ((hb4'.trans (hb5.mono hb4'.size)).mono (HB0.out).size)
      clear S hb5 hb4 hb4' hb3'
      go_wp2_with fail
      go_ret
      exact ⟨rfl, by first | exact HBF.out | (have h9 := HBF.out; rw [hB] at h9; exact h9)⟩
end Go.Proofs.YtmfcbalhabcodaaGreat
