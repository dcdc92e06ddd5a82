/- Proved: the walk of the statement that a run comes to what the document says. -/
import Derived.Test.YtmfcbalhabcodaaGreatDc9
namespace Go.Proofs.YtmfcbalhabcodaaGreat
open Go.RowKit Go.Shelf
set_option linter.unusedVariables false

set_option maxRecDepth 100000 in
set_option maxHeartbeats 4000000 in
theorem runs_walk (w : World) (D : Wd) (n : Int) (hp : RdI w w.heap.size D.pa D.ps) (hf : RdF w D.fa D.fs) (hn : 0 ≤ n ∧ n ≤ 255) :
    Calls Tryz.prog 3 #[wv D, .int .u8 n] w fun e w' => e = .returned (.bool true) ∧ Below w.heap.size w w' := by
  have mixed : Tryz.prog.follows .mixedOrders = true := by kernel_rfl
  have hb0 := al w (.cells (wcs D) 25)
  obtain ⟨⟨x0, x1, x2⟩, hp1, hf1⟩ := box_of hp hf
  have HV := small_any _ D hp1 hf1
  obtain ⟨B, hB⟩ : ∃ B, w.heap.size = B := ⟨_, rfl⟩
  rw [hB] at x0 x1 x2
  have lB := clt x0
  dsimp only at lB
  cases hh : hvyW D with
  | true =>
    rw [hh] at HV
    dsimp only [wv, wcs] at HV x0 x1 x2 lB hb0 ⊢
    clear hp hf hp1 hf1 hh
    go_enter Tryz.func3, Tryz.ntmps3
    go_wp2_with fail
    refine HV.mono ?_
    rintro e w1 ⟨rfl, hb1⟩
    have hb1' := hb0.trans (hb1.mono hb0.size)
    clear HV
    go_wp2_with fail
    refine (shown_any w1).mono ?_
    rintro e w2 ⟨rfl, hb2⟩
    go_wp2_with fail
    go_ret
    exact ⟨rfl, hb1'.trans (hb2.mono hb1'.size)⟩
  | false =>
    have hW := ww_of hp1 hf1 hh
    rw [hh] at HV
    obtain ⟨W0, hW0⟩ : ∃ W0, W0 = w.alloc (.cells (wcs D) 25) := ⟨_, rfl⟩
    rw [← hW0] at HV x0 x1 x2 lB hb0 hW
    have HX : Hid (∀ W, Below W0.heap.size W0 W → BoxW W B D) := fun W hW' => (BoxW.mk x0 x1 x2 hW).below hW'
    obtain ⟨N, E, hNE⟩ : ∃ N E, wldE D = (N, E) := ⟨_, _, rfl⟩
    have HNE : Hid _ := hNE
    have HW0 : Hid _ := hW0
    have HBE : Hid _ := hB
    have HB0 : Hid _ := hb0
    have hfl := hW.fl
    dsimp only [wv, wcs] at HV HW0 ⊢
    rw [HW0.out] at HV x0 x1 x2 lB
    clear hp hf hp1 hf1 hh hW hNE hW0 hb0
    by_cases hE : E = 0
    · subst hE
      have hDen : Hid (OkD D) := okD_of HNE.out
      go_enter Tryz.func3, Tryz.ntmps3
      go_wp2_with fail
      refine HV.mono ?_
      rintro e w1 ⟨rfl, hb1⟩
      rw [← HW0.out] at hb1
      clear HV x0 x1 x2 lB
      obtain ⟨x0, x1, x2, hW1⟩ := HX.out w1 hb1
      have lB : B < w1.heap.size := clt x0
      have C1 := Lv.new hb1 hW1 HNE.out
      dsimp only [wv] at C1
      clear hW1
      go_wp2_with fail
      refine C1.mono ?_
      rintro e w2 ⟨rb, rfl, hL2, hb2⟩
      have hb2' := hL2.bel
      clear x0 x1 x2 lB
      obtain ⟨x0, x1, x2, hW2⟩ := HX.out w2 hb2'
      have lB : B < w2.heap.size := clt x0
      have C2 := Td.newB hL2 hW2 HNE.out
      dsimp only [wv] at C2
      clear C1 hW2 hL2 hb1 hb2
      go_wp2_with fail
      refine C2.mono ?_
      rintro e w3 ⟨db, rfl, hT3⟩
      have S := shown_any w3
      have HT3 : Hid _ := hT3
      clear C2 x0 x1 x2 lB hT3
      go_wp2_with fail
      refine S.mono ?_
      rintro e w4 ⟨rfl, hb4⟩
      have HT4 : Hid (Td W0 D rb db (newR D) (newR D) w4) := Td.below (Hid.out HT3) hb4
      have HWW : Hid (Ww W0 D) := (HX.out W0 (Below.refl _ _)).ok
      obtain ⟨Q, hQ⟩ : ∃ Q : Nat, n % 40 = (Q : Int) := ⟨(n % 40).toNat, by omega⟩
      have hQ2 : Q < 40 := by omega
      have hQt : n.tmod 40 = (Q : Int) := by rw [Int.tmod_eq_emod_of_nonneg hn.1]; exact hQ
      obtain ⟨P, hP⟩ : ∃ P : Nat, n % 9 = (P : Int) := ⟨(n % 9).toNat, by omega⟩
      have hP2 : P < 9 := by omega
      have hPt : n.tmod 9 = (P : Int) := by rw [Int.tmod_eq_emod_of_nonneg hn.1]; exact hP
      clear S hb4 hb2'
      go_wp2_with fail
      go_loopw [9] (fun s9 wr => ∃ (i : Nat) (r : Rn), s9 = .int .i64 i ∧ i ≤ Q ∧ Td W0 D rb db r r wr ∧ Hid (r.dn.length ≤ i)) (fun s9 _ => Q - (intOf s9).toNat)
      case atStart => exact ⟨0, newR D, rfl, Nat.zero_le _, HT4.out, (Nat.le_refl _ : (newR D).dn.length ≤ 0)⟩
      case round =>
        clear HT4
        obtain ⟨i, r, rfl, hi, hT, HD⟩ := hrel
        by_cases hiQ : i < Q
        · have hiQ' : (i : Int) < (Q : Int) := by omega
          cases hx : nxt D r with
          | none =>
            have C := hT.noA hx
            have HX2 : Hid _ := hx
            dsimp only [dv] at C
            clear hT hx
            go_wp2_with fail
            refine C.mono ?_
            rintro e w5 ⟨rfl, hT5⟩
            have C2 := hT5.noB HX2.out zeroD
            dsimp only [dv, dcs] at C2
            clear C hT5
            go_wp2_with fail
            refine C2.mono ?_
            rintro e w6 ⟨rfl, hT6, hx6⟩
            obtain ⟨m0, m1, m2, m3, m4, m5, m6, mf⟩ := dn_cells (x := zeroD) hx6
            have l6 : w5.heap.size < w6.heap.size := clt m0
            dsimp only at m0 m1 m2 m3 m4 m5 m6
            have HT6 : Hid _ := hT6
            clear C2 hT6 hx6
            go_wp2_with fail
            go_roundw
            case rel => exact ⟨i + 1, r, by go_num, by omega, Td.below (Hid.out HT6) (al w6 _), (Nat.le_succ_of_le HD.out : r.dn.length ≤ i + 1)⟩
            case measure => simp [intOf]; omega
          | some p =>
            have hdl := HD.out
            have C := hT.yesA hx (by omega)
            obtain ⟨g1, g2, g3, g4, g5, g6⟩ := nxt_later hT.inv hx
            obtain ⟨rp, dp⟩ := p
            have HX2 : Hid _ := hx
            have HG6 : Hid (rp.dn.length ≤ i + 1) := by
              show rp.dn.length ≤ i + 1
              have g6' := g6
              dsimp only at g6'
              rw [g6']
              simp
              omega
            dsimp only [dv] at C
            clear hT hx g1 g2 g3 g4 g5 g6
            go_wp2_with fail
            refine C.mono ?_
            rintro e w5 ⟨rfl, hT5⟩
            have C2 := hT5.yesB HWW.out HX2.out (by omega) dp
            dsimp only [dv, dcs] at C2
            clear C hT5
            go_wp2_with fail
            refine C2.mono ?_
            rintro e w6 ⟨rfl, hT6, hx6⟩
            obtain ⟨m0, m1, m2, m3, m4, m5, m6, mf⟩ := dn_cells (x := dp) hx6
            have l6 : w5.heap.size < w6.heap.size := clt m0
            have HT6 : Hid _ := hT6
            clear C2 hT6 hx6
            go_wp2_with fail
            go_roundw
            case rel => exact ⟨i + 1, rp, by go_num, by omega, Td.below (Hid.out HT6) (al w6 _), HG6.out⟩
            case measure => simp [intOf]; omega
        · have hnQ : ¬ (i : Int) < (Q : Int) := by omega
          have hdl := HD.out
          have C5 := hT.stepsA P (by omega)
          clear hT
          go_wp2_with fail
          refine C5.mono ?_
          rintro e w5 ⟨rfl, hT5⟩
          have C6 := hT5.stepsB HWW.out P (by omega)
          clear C5 hT5
          go_wp2_with fail
          refine C6.mono ?_
          rintro e w6 ⟨rfl, hT6⟩
          obtain ⟨r2, hr2⟩ : ∃ r2, (stpsR D P r).2 = r2 := ⟨_, rfl⟩
          have hdn2 : r2.dn.length ≤ 60 := by
            rw [← hr2]
            have h1 := stps_dn D P r
            omega
          rw [hr2] at hT6
          have hwl2 := hT6.wl
          have C7 := hT6.waitA (by omega)
          have HT6 : Hid _ := hT6
          obtain ⟨K, hK⟩ : ∃ K, (stpsR D P r).1 = K := ⟨_, rfl⟩
          clear C6 hT6 hr2
          go_wp2_with fail
          refine C7.mono ?_
          rintro e w7 ⟨a7, c7, rfl, hM7, hb7⟩
          have hT7 := Td.below (Hid.out HT6) hb7
          have C8 := hT7.waitB (by omega)
          have HT7 : Hid _ := hT7
          have HM7 : Hid _ := hM7
          clear C7 hT7 hM7 hb7
          go_wp2_with fail
          refine C8.mono ?_
          rintro e w8 ⟨a8, c8, rfl, hM8, hb8⟩
          have C9 := same_yes w8 a7 a8 c7 c8 r2.wt (RdM.below HM7.out hb8) hM8 (by omega)
          have HT8 : Hid (Td W0 D rb db r2 r2 w8) := Td.below (Hid.out HT7) hb8
          clear C8 hM8 hb8
          go_wp2_with fail
          refine C9.mono ?_
          rintro e w9 ⟨rfl, hb9⟩
          have HT9 : Hid (Td W0 D rb db r2 r2 w9) := Td.below (Hid.out HT8) hb9
          clear C9 hb9
          go_wp2_with fail
          go_loopw [14] (fun s14 wx => ∃ (k : Nat), s14 = .int .i64 ((k : Int) - 1) ∧ k ≤ D.fs.length + 2 ∧ Td W0 D rb db r2 r2 wx) (fun s14 _ => D.fs.length + 2 - (intOf s14 + 1).toNat)
          case atStart => exact ⟨0, rfl, by omega, HT9.out⟩
          case round =>
            clear HT9
            obtain ⟨k, rfl, hk, hT⟩ := hrel
            obtain ⟨x0, x1, x2, _⟩ := HX.out wr hT.bel
            have lB : B < wr.heap.size := clt x0
            by_cases hkl : k < D.fs.length + 2
            · have hk' : (k : Int) - 1 ≤ (D.fs.length : Int) := by omega
              have CA := hT.stateA ((k : Int) - 1)
              have CB := hT.stateZ ((k : Int) - 1)
              have hlen : (logR r2 ((k : Int) - 1)).length ≤ 60 := Nat.le_trans (logR_le _ _) hdn2
              obtain ⟨g, hg⟩ : ∃ g, (k : Int) - 1 = g := ⟨_, rfl⟩
              have hw1 : IntKind.i64.wrap (g + 1) = g + 1 := by rw [IntKind.wrap_i64]; omega
              have hg1 : -1 ≤ g := by omega
              have hg2 : g ≤ 100 := by omega
              have HG : Hid _ := hg
              rw [hg] at CA CB hlen hk' ⊢
              have HT : Hid _ := hT
              clear hT hg
              go_wp2_with fail
              refine CA.mono ?_
              rintro e w10 ⟨rfl, hw10⟩
              have hw10' := hw10.symm
              subst hw10'
              go_wp2_with fail
              refine CB.mono ?_
              rintro e w11 ⟨rfl, hb11⟩
              have hT11 := Td.below (Hid.out HT) hb11
              have CC := hT11.logA g (by omega)
              have HT11 : Hid _ := hT11
              clear CA CB hT11 hb11 x0 x1 x2 lB
              go_wp2_with fail
              refine CC.mono ?_
              rintro e w12 ⟨la, lc1, rfl, hD12, hb12⟩
              have hT12 := Td.below (Hid.out HT11) hb12
              have CD := hT12.logB g (by omega)
              have HT12 : Hid _ := hT12
              have HD12 : Hid _ := hD12
              clear CC hT12 hD12 hb12
              go_wp2_with fail
              refine CD.mono ?_
              rintro e w13 ⟨la2, lc2, rfl, hD13, hb13⟩
              have CE := sameD_yes w13 la la2 lc1 lc2 (logR r2 g) (RdD.below (Hid.out HD12) hb13) hD13 (by omega)
              have HT13 : Hid (Td W0 D rb db r2 r2 w13) := Td.below (Hid.out HT12) hb13
              clear CD hD13 hb13
              go_wp2_with fail
              refine CE.mono ?_
              rintro e w14 ⟨rfl, hb14⟩
              have HT14 : Hid (Td W0 D rb db r2 r2 w14) := Td.below (Hid.out HT13) hb14
              clear CE hb14
              go_wp2_with fail
              go_roundw
              case rel => exact ⟨k + 1, by have := HG.out; simp; omega, by omega, HT14.out⟩
              case measure => have := HG.out; simp [intOf]; omega
            · have hk' : ¬ (k : Int) - 1 ≤ (D.fs.length : Int) := by omega
              have HBF : Hid (Below w.heap.size w wr) := (HB0.out).trans (hT.bel.mono (HB0.out).size)
              clear hT
              go_wp2_with fail
              go_ret
              exact ⟨rfl, by first | exact HBF.out | (have h9 := HBF.out; rw [hB] at h9; exact h9)⟩
    · have k1 : (E != 0) = true := by simpa using hE
      go_enter Tryz.func3, Tryz.ntmps3
      go_wp2_with fail
      refine HV.mono ?_
      rintro e w1 ⟨rfl, hb1⟩
      rw [← HW0.out] at hb1
      clear HV x0 x1 x2 lB
      obtain ⟨x0, x1, x2, hW1⟩ := HX.out w1 hb1
      have lB : B < w1.heap.size := clt x0
      have C1 := new_bad hW1 HNE.out hE
      dsimp only [wv] at C1
      clear hW1
      go_wp2_with fail
      refine C1.mono ?_
      rintro e w2 ⟨rfl, hb2⟩
      have hb2' := hb1.trans (hb2.mono hb1.size)
      clear x0 x1 x2 lB
      obtain ⟨x0, x1, x2, hW2⟩ := HX.out w2 hb2'
      have lB : B < w2.heap.size := clt x0
      have C2 := dnew_bad hW2 HNE.out hE
      dsimp only [wv] at C2
      clear C1 hW2 hb1 hb2
      go_wp2_with fail
      refine C2.mono ?_
      rintro e w3 ⟨rfl, hb3⟩
      have hb3' := hb2'.trans (hb3.mono hb2'.size)
      have S := shown_any w3
      clear C2 x0 x1 x2 lB
      go_wp2_with fail
      refine S.mono ?_
      rintro e w4 ⟨rfl, hb4⟩
      have hb4' := hb3'.trans (hb4.mono hb3'.size)
      go_wp2_with fail
      go_ret
      exact ⟨rfl, (HB0.out).trans (hb4'.mono (HB0.out).size)⟩
end Go.Proofs.YtmfcbalhabcodaaGreat
