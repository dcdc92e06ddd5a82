/- Proved: the walk of the statement that kinds change nothing of what all come to. -/
import Derived.Test.YtmfcbalhabcodaaGreatTws
namespace Go.Proofs.YtmfcbalhabcodaaGreat
open Go.RowKit Go.Shelf
set_option linter.unusedVariables false

theorem Kx.begin {W1 : World} {D : Wd} : Kx W1 W1.heap.size D ((W1.alloc (.cells (xcs D (.slice (some ⟨W1.heap.size + 1, 0, none⟩) 0 0)) 25)).alloc (.cells #[] 54)) (.slice (some ⟨W1.heap.size + 1, 0, none⟩) 0 0) [] := by
  have b1 := al W1 (.cells (xcs D (.slice (some ⟨W1.heap.size + 1, 0, none⟩) 0 0)) 25)
  have b2 := al (W1.alloc (.cells (xcs D (.slice (some ⟨W1.heap.size + 1, 0, none⟩) 0 0)) 25)) (.cells #[] 54)
  have s1 : (W1.alloc (.cells (xcs D (.slice (some ⟨W1.heap.size + 1, 0, none⟩) 0 0)) 25)).heap.size = W1.heap.size + 1 := by simp
  refine ⟨b1.trans (b2.mono b1.size), rfl, ?_, ?_⟩
  · rw [Below.heap_alloc _ _ _ (by simp)]
    exact World.alloc_heap_new W1 _
  · have := World.ownsRow_made (e := 54) (size := 7) (base := W1.heap.size + 1) (W1.alloc (.cells (xcs D (.slice (some ⟨W1.heap.size + 1, 0, none⟩) 0 0)) 25)) #[] 0 (by simp) (Nat.zero_le _) (by simp)
    rw [s1] at this
    exact this

theorem kd_ok {D : Wd} (h : OkD D) {i : Nat} (hi : i < D.fs.length) : wi (nthF D.fs i).kd 0 1 = true := by
  have h1 := h.fe _ (nthF_mem hi)
  have h2 := fstE_zero (l := [unl (wi (nthF D.fs i).kd 0 1) 1, unl (wi (nthF D.fs i).lk 1 1048576) 80, unl (wi (nthF D.fs i).st 0 7) 70, chkE (nthF D.fs i).rs, unl (cls (nthF D.fs i).ps D.ps.length && cls (nthF D.fs i).ss D.ps.length) 81, rulsE (nthF D.fs i).ps (nthF D.fs i).lk D.ps.length (nthF D.fs i).rs, unl (iniB (nthF D.fs i).ps (nthF D.fs i).is) 82]) h1
  exact unl_zero (by decide) (h2 _ (by simp : unl (wi (nthF D.fs i).kd 0 1) 1 ∈ _))

set_option maxRecDepth 100000 in
set_option maxHeartbeats 4000000 in
theorem kinds_walk (w : World) (D : Wd) (hp : RdI w w.heap.size D.pa D.ps) (hf : RdF w D.fa D.fs) (za : Option Addr) (zc : Nat) (z : List Bool) (hz : InT w za z) (n : Int) (hn : 0 ≤ n ∧ n ≤ 255) :
    Calls Tryz.prog 6 #[wv D, .slice za z.length zc, .int .u8 n] w fun e w' => e = .returned (.bool true) ∧ Below w.heap.size w w' := by
  have mixed : Tryz.prog.follows .mixedOrders = true := by kernel_rfl
  obtain ⟨W0, hW0⟩ : ∃ W0, W0 = w.alloc (.cells (wcs D) 25) := ⟨_, rfl⟩
  have hb0 : Below w.heap.size w W0 := by rw [hW0]; exact al _ _
  obtain ⟨⟨x0, x1, x2⟩, hp1, hf1⟩ := box_of hp hf
  rw [← hW0] at hp1 hf1
  have HV := small_any _ D hp1 hf1
  have HZ : Hid (InT W0 za z) := hz.below hb0
  have HW0 : Hid _ := hW0
  obtain ⟨B, hB⟩ : ∃ B, w.heap.size = B := ⟨_, rfl⟩
  rw [hB] at x0 x1 x2
  have lB := clt x0
  dsimp only at lB
  have key : ∀ W, Below W0.heap.size W0 W → Below w.heap.size w W := fun W hW => hb0.trans (hW.mono hb0.size)
  have HKEY : Hid _ := key
  obtain ⟨fa, hfa⟩ : ∃ fa, D.fa = fa := ⟨_, rfl⟩
  have HFA : Hid _ := hfa
  cases hh : hvyW D with
  | true =>
    rw [hh] at HV
    rw [hW0] at HV
    dsimp only [wv, wcs] at HV x0 x1 x2 lB HW0 ⊢
    clear hp hf hp1 hf1 hh hz HZ hW0 key hfa
    go_enter Tryz.func6, Tryz.ntmps6
    go_wp2_with fail
    refine HV.mono ?_
    rintro e w1 ⟨rfl, hb1⟩
    rw [← HW0.out] at hb1
    clear HV
    go_wp2_with fail
    refine (shown_any w1).mono ?_
    rintro e w2 ⟨rfl, hb2⟩
    go_wp2_with fail
    go_ret
    exact ⟨rfl, HKEY.out _ (hb1.trans (hb2.mono hb1.size))⟩
  | false =>
    have hW := ww_of hp1 hf1 hh
    rw [hh, hW0] at HV
    have HX : Hid (∀ W, Below W0.heap.size W0 W → BoxW W B D) := fun W hW' => (BoxW.mk (hW0 ▸ x0) (hW0 ▸ x1) (hW0 ▸ x2) hW).below hW'
    have hfl := hW.fl
    have HLT : Hid _ := hW.lt
    obtain ⟨N, E, hNE⟩ : ∃ N E, wldE D = (N, E) := ⟨_, _, rfl⟩
    have HNE : Hid _ := hNE
    dsimp only [wv, wcs] at HV x0 x1 x2 lB HW0 ⊢
    simp only [hfa] at HV x0 x1 x2 lB HW0 ⊢
    have HXB : Hid (∀ W, Below W0.heap.size W0 W → W.cell? ⟨B, 0, none⟩ = some (.slice D.pa D.ps.length D.pc) ∧ W.cell? ⟨B, 1, none⟩ = some (.slice fa D.fs.length D.fc) ∧ W.cell? ⟨B, 2, none⟩ = some (.int .i64 D.en) ∧ B < W.heap.size) := fun W hW' => by
      obtain ⟨y0, y1, y2, _⟩ := HX.out W hW'
      rw [HFA.out] at y1
      exact ⟨y0, y1, y2, clt y0⟩
    clear hp hf hp1 hf1 hh hW hz hW0 key hfa hNE
    go_enter Tryz.func6, Tryz.ntmps6
    go_wp2_with fail
    refine HV.mono ?_
    rintro e w1 ⟨rfl, hb1⟩
    rw [← HW0.out] at hb1
    clear HV x0 x1 x2 lB
    obtain ⟨x0, x1, x2, lB⟩ := HXB.out w1 hb1
    have C2 := rwcheck_any w1 D (HX.out w1 hb1).ok
    rw [HNE.out] at C2
    dsimp only [wv] at C2
    rw [HFA.out] at C2
    go_wp2_with fail
    refine C2.mono ?_
    rintro e w2 ⟨rfl, hb2⟩
    have hb2' := hb1.trans (hb2.mono hb1.size)
    have HB2 : Hid _ := hb2'
    clear C2 hb1 hb2 hb2' x0 x1 x2 lB
    by_cases hE : E = 0
    · subst hE
      have HOK : Hid (OkD D) := okD_of HNE.out
      go_wp2_with fail
      refine (shown_any w2).mono ?_
      rintro e w3 ⟨rfl, hb3⟩
      have hb3' := (Hid.out HB2).trans (hb3.mono (Hid.out HB2).size)
      obtain ⟨x0, x1, x2, lB⟩ := HXB.out w3 hb3'
      have HB3 : Hid _ := hb3'
      obtain ⟨XB, hXB⟩ : ∃ XB, w3.heap.size = XB := ⟨_, rfl⟩
      have KX : Hid (∃ v, Kx w3 XB D ((w3.alloc (.cells (xcs D (.slice (some ⟨XB + 1, 0, none⟩) 0 0)) 25)).alloc (.cells #[] 54)) v []) := by
        rw [← hXB]
        exact ⟨_, Kx.begin⟩
      clear hb3 hb3' HB2
      dsimp only [xcs] at KX
      go_wp2_with fail
      clear hB hXB x0 x1 x2 lB
      go_loopw [10] (fun s10 wr => ∃ k : Nat, k ≤ D.fs.length ∧ s10 = .int .i64 k ∧ Hid (∃ v, Kx w3 XB D wr v (kF D.fs z k))) (fun s10 _ => D.fs.length - (intOf s10).toNat)
      case atStart => exact ⟨0, Nat.zero_le _, rfl, KX.out⟩
      case round =>
        clear KX
        obtain ⟨k, hk, rfl, HKE⟩ := hrel
        obtain ⟨v, hKv⟩ := HKE.out
        have HK : Hid _ := hKv
        have hbw : Below W0.heap.size W0 wr := (Hid.out HB3).trans (hKv.bel.mono (Hid.out HB3).size)
        clear hKv HKE
        obtain ⟨y0, y1, y2, lB⟩ := HXB.out wr hbw
        have hWr := (HX.out wr hbw).ok
        by_cases hkl : k < D.fs.length
        · have hk' : (k : Int) < (D.fs.length : Int) := by omega
          obtain ⟨g, hg⟩ : ∃ g, nthF D.fs k = g := ⟨_, rfl⟩
          have hRF := hWr.f
          rw [HFA.out] at hRF
          obtain ⟨b, off, rfl, hbb, z0, z1, z2, z3, z4, z5, z6⟩ := hRF.cells hkl hg
          have HRE : Hid _ := hg
          obtain ⟨kd, lk, st, ra, rc, rs, pa, pc, ps, sa, sc, ss, ia, ic, is⟩ := g
          dsimp only at z0 z1 z2 z3 z4 z5 z6
          clear hg hRF hWr
          by_cases hzk : (k : Int) < (z.length : Int)
          · have dz : decide ((k : Int) < (z.length : Int)) = true := decide_eq_true hzk
            obtain ⟨zb, zo, rfl, hzb, hzc⟩ := InT.below HZ.out hbw (by intro e; rw [e] at hzk; simp at hzk; omega)
            have t0 := hzc k (by omega)
            obtain ⟨bb, hbbe⟩ : ∃ bb, nthT z k = bb := ⟨_, rfl⟩
            rw [hbbe] at t0
            have HBK : Hid (knd z k = bb) := by
              show knd z k = bb
              unfold knd
              rw [decide_eq_true (show k < z.length by omega), hbbe]
              rfl
            clear hzc hbbe
            cases bb with
            | true =>
              have W5E : Hid _ := al wr (.cells (fcs (setK ⟨kd, lk, st, ra, rc, rs, pa, pc, ps, sa, sc, ss, ia, ic, is⟩ true)) 54)
              have hA := (Kx.below HK.out W5E.out)
              have xA1 := hA.cells.2.1
              have lXA := hA.lt
              have hb2 : Below wr.heap.size wr ((wr.alloc (.cells (fcs (setK ⟨kd, lk, st, ra, rc, rs, pa, pc, ps, sa, sc, ss, ia, ic, is⟩ true)) 54)).alloc (.cells (fcs (setK ⟨kd, lk, st, ra, rc, rs, pa, pc, ps, sa, sc, ss, ia, ic, is⟩ true)) 54)) := Below.trans W5E.out (Below.mono (al _ _) (Below.size W5E.out))
              have hg2 : RdG ((wr.alloc (.cells (fcs (setK ⟨kd, lk, st, ra, rc, rs, pa, pc, ps, sa, sc, ss, ia, ic, is⟩ true)) 54)).alloc (.cells (fcs (setK ⟨kd, lk, st, ra, rc, rs, pa, pc, ps, sa, sc, ss, ia, ic, is⟩ true)) 54)) (some ⟨wr.heap.size + 1, 0, none⟩) [setK ⟨kd, lk, st, ra, rc, rs, pa, pc, ps, sa, sc, ss, ia, ic, is⟩ true] := by
                have := rdG_new (wr.alloc (.cells (fcs (setK ⟨kd, lk, st, ra, rc, rs, pa, pc, ps, sa, sc, ss, ia, ic, is⟩ true)) 54)) (setK ⟨kd, lk, st, ra, rc, rs, pa, pc, ps, sa, sc, ss, ia, ic, is⟩ true)
                rwa [show (wr.alloc (.cells (fcs (setK ⟨kd, lk, st, ra, rc, rs, pa, pc, ps, sa, sc, ss, ia, ic, is⟩ true)) 54)).heap.size = wr.heap.size + 1 by simp] at this
              obtain ⟨a', c', w', hrun, hfz, hcx, hKx⟩ := Kx.step HK.out hb2 _ _ hg2 (by rw [kF_len]; omega) 23 (kF D.fs z (k + 1)) (by rw [kF_succ, HRE.out, HBK.out])
              obtain ⟨X, hX⟩ : ∃ X, kF D.fs z (k + 1) = X := ⟨_, rfl⟩
              rw [hX] at hrun hKx
              have HXE : Hid _ := hX
              have HRUN : Hid _ := hrun
              have HKX : Hid _ := hKx
              dsimp only [fcs, setK] at HRUN xA1 lXA
              simp only [if_true] at HRUN xA1 lXA
              clear hA hb2 hg2 hrun hKx hX W5E
              go_wp2_with (at_builtin; refine wpList_append_run _ rfl _ _ 23 rfl rfl rfl HRUN.out ?_)
              go_roundw
              case rel =>
                refine ⟨k + 1, by omega, by go_num, ⟨Value.slice a' X.length c', ?_⟩⟩
                rw [HXE.out]
                exact HKX.out
              case measure => simp [intOf]; omega
            | false =>
              have W5E : Hid _ := al wr (.cells (fcs (setK ⟨kd, lk, st, ra, rc, rs, pa, pc, ps, sa, sc, ss, ia, ic, is⟩ false)) 54)
              have hA := (Kx.below HK.out W5E.out)
              have xA1 := hA.cells.2.1
              have lXA := hA.lt
              have hb2 : Below wr.heap.size wr ((wr.alloc (.cells (fcs (setK ⟨kd, lk, st, ra, rc, rs, pa, pc, ps, sa, sc, ss, ia, ic, is⟩ false)) 54)).alloc (.cells (fcs (setK ⟨kd, lk, st, ra, rc, rs, pa, pc, ps, sa, sc, ss, ia, ic, is⟩ false)) 54)) := Below.trans W5E.out (Below.mono (al _ _) (Below.size W5E.out))
              have hg2 : RdG ((wr.alloc (.cells (fcs (setK ⟨kd, lk, st, ra, rc, rs, pa, pc, ps, sa, sc, ss, ia, ic, is⟩ false)) 54)).alloc (.cells (fcs (setK ⟨kd, lk, st, ra, rc, rs, pa, pc, ps, sa, sc, ss, ia, ic, is⟩ false)) 54)) (some ⟨wr.heap.size + 1, 0, none⟩) [setK ⟨kd, lk, st, ra, rc, rs, pa, pc, ps, sa, sc, ss, ia, ic, is⟩ false] := by
                have := rdG_new (wr.alloc (.cells (fcs (setK ⟨kd, lk, st, ra, rc, rs, pa, pc, ps, sa, sc, ss, ia, ic, is⟩ false)) 54)) (setK ⟨kd, lk, st, ra, rc, rs, pa, pc, ps, sa, sc, ss, ia, ic, is⟩ false)
                rwa [show (wr.alloc (.cells (fcs (setK ⟨kd, lk, st, ra, rc, rs, pa, pc, ps, sa, sc, ss, ia, ic, is⟩ false)) 54)).heap.size = wr.heap.size + 1 by simp] at this
              obtain ⟨a', c', w', hrun, hfz, hcx, hKx⟩ := Kx.step HK.out hb2 _ _ hg2 (by rw [kF_len]; omega) 23 (kF D.fs z (k + 1)) (by rw [kF_succ, HRE.out, HBK.out])
              obtain ⟨X, hX⟩ : ∃ X, kF D.fs z (k + 1) = X := ⟨_, rfl⟩
              rw [hX] at hrun hKx
              have HXE : Hid _ := hX
              have HRUN : Hid _ := hrun
              have HKX : Hid _ := hKx
              dsimp only [fcs, setK] at HRUN xA1 lXA
              simp only [Bool.false_eq_true, if_false] at HRUN xA1 lXA
              clear hA hb2 hg2 hrun hKx hX W5E
              go_wp2_with (at_builtin; refine wpList_append_run _ rfl _ _ 23 rfl rfl rfl HRUN.out ?_)
              go_roundw
              case rel =>
                refine ⟨k + 1, by omega, by go_num, ⟨Value.slice a' X.length c', ?_⟩⟩
                rw [HXE.out]
                exact HKX.out
              case measure => simp [intOf]; omega
          · have dz : decide ((k : Int) < (z.length : Int)) = false := decide_eq_false hzk
            have HBK : Hid (knd z k = false) := by
              show knd z k = false
              unfold knd
              rw [decide_eq_false (show ¬ k < z.length by omega)]
              rfl
            have W5E : Hid _ := al wr (.cells (fcs (setK ⟨kd, lk, st, ra, rc, rs, pa, pc, ps, sa, sc, ss, ia, ic, is⟩ false)) 54)
            have hA := (Kx.below HK.out W5E.out)
            have xA1 := hA.cells.2.1
            have lXA := hA.lt
            have hb2 : Below wr.heap.size wr ((wr.alloc (.cells (fcs (setK ⟨kd, lk, st, ra, rc, rs, pa, pc, ps, sa, sc, ss, ia, ic, is⟩ false)) 54)).alloc (.cells (fcs (setK ⟨kd, lk, st, ra, rc, rs, pa, pc, ps, sa, sc, ss, ia, ic, is⟩ false)) 54)) := Below.trans W5E.out (Below.mono (al _ _) (Below.size W5E.out))
            have hg2 : RdG ((wr.alloc (.cells (fcs (setK ⟨kd, lk, st, ra, rc, rs, pa, pc, ps, sa, sc, ss, ia, ic, is⟩ false)) 54)).alloc (.cells (fcs (setK ⟨kd, lk, st, ra, rc, rs, pa, pc, ps, sa, sc, ss, ia, ic, is⟩ false)) 54)) (some ⟨wr.heap.size + 1, 0, none⟩) [setK ⟨kd, lk, st, ra, rc, rs, pa, pc, ps, sa, sc, ss, ia, ic, is⟩ false] := by
              have := rdG_new (wr.alloc (.cells (fcs (setK ⟨kd, lk, st, ra, rc, rs, pa, pc, ps, sa, sc, ss, ia, ic, is⟩ false)) 54)) (setK ⟨kd, lk, st, ra, rc, rs, pa, pc, ps, sa, sc, ss, ia, ic, is⟩ false)
              rwa [show (wr.alloc (.cells (fcs (setK ⟨kd, lk, st, ra, rc, rs, pa, pc, ps, sa, sc, ss, ia, ic, is⟩ false)) 54)).heap.size = wr.heap.size + 1 by simp] at this
            obtain ⟨a', c', w', hrun, hfz, hcx, hKx⟩ := Kx.step HK.out hb2 _ _ hg2 (by rw [kF_len]; omega) 23 (kF D.fs z (k + 1)) (by rw [kF_succ, HRE.out, HBK.out])
            obtain ⟨X, hX⟩ : ∃ X, kF D.fs z (k + 1) = X := ⟨_, rfl⟩
            rw [hX] at hrun hKx
            have HXE : Hid _ := hX
            have HRUN : Hid _ := hrun
            have HKX : Hid _ := hKx
            dsimp only [fcs, setK] at HRUN xA1 lXA
            simp only [Bool.false_eq_true, if_false] at HRUN xA1 lXA
            clear hA hb2 hg2 hrun hKx hX W5E
            go_wp2_with (at_builtin; refine wpList_append_run _ rfl _ _ 23 rfl rfl rfl HRUN.out ?_)
            go_roundw
            case rel =>
              refine ⟨k + 1, by omega, by go_num, ⟨Value.slice a' X.length c', ?_⟩⟩
              rw [HXE.out]
              exact HKX.out
            case measure => simp [intOf]; omega
        · obtain rfl : k = D.fs.length := by omega
          obtain ⟨a2, c2, rfl, hrdG⟩ := Kx.rd HK.out
          obtain ⟨u0, u1, u2, _⟩ := Kx.cells HK.out
          obtain ⟨D2, hD2⟩ : ∃ D2 : Wd, D2 = ⟨D.pa, D.pc, D.ps, a2, c2, kF D.fs z D.fs.length, D.en⟩ := ⟨_, rfl⟩
          have hWx : Ww wr D2 := by
            rw [hD2]
            refine ⟨hWr.p, ⟨hrdG, fun f hf => ?_⟩, hWr.pl, ?_, fun f hf => ?_⟩
            · obtain ⟨i, hi, rfl⟩ := (memF _ f).1 hf
              rw [kF_len] at hi
              rw [kF_nth _ _ hi]
              exact okF_setK (hWr.f.2 _ (nthF_mem hi))
            · show (kF D.fs z D.fs.length).length ≤ 20
              rw [kF_len]
              exact hfl
            · obtain ⟨i, hi, rfl⟩ := (memF _ f).1 hf
              rw [kF_len] at hi
              rw [kF_nth _ _ hi]
              exact ltF_setK (HLT.out _ (nthF_mem hi))
          have hE2 : Hid (wldE D2 = (N, 0)) := by
            have h9 := wldE_kind (D := D) (D' := D2) (z := z) (by rw [hD2]) (by rw [hD2]) (by rw [hD2]) (fun i hi => kd_ok HOK.out hi)
            exact h9.trans HNE.out
          have hkr := kind_run (D := D) (D' := D2) (z := z) (by rw [hD2]) (by rw [hD2]) (by rw [hD2]) HOK.out
          have HNR : Hid (newR D2 = newR D) := hkr.1
          have HSR : Hid (∀ n r, Inv D r → stpsR D2 n r = stpsR D n r) := hkr.2
          have HWX : Hid (∀ W, Below wr.heap.size wr W → Ww W D2) := fun W hW => hWx.below hW
          have hkl2 : (kF D.fs z D.fs.length).length = D.fs.length := kF_len _ _ _
          rw [hkl2] at u1
          have lXB : XB < wr.heap.size := clt u0
          have HXC : Hid (∀ W, Below wr.heap.size wr W → W.cell? ⟨XB, 0, none⟩ = some (.slice D.pa D.ps.length D.pc) ∧ W.cell? ⟨XB, 1, none⟩ = some (.slice a2 D.fs.length c2) ∧ W.cell? ⟨XB, 2, none⟩ = some (.int .i64 D.en)) := fun W hW => ⟨(hW.cell (p := ⟨XB, 0, none⟩) lXB).trans u0, (hW.cell (p := ⟨XB, 1, none⟩) lXB).trans u1, (hW.cell (p := ⟨XB, 2, none⟩) lXB).trans u2⟩
          have C5 := Lv.new hbw (HX.out wr hbw).ok HNE.out
          dsimp only [wv] at C5
          rw [HFA.out] at C5
          have HCB : Hid (∀ W rb r, Below wr.heap.size wr W → Lv W0 rb D r W → Calls Tryz.prog 10 #[.agg #[.slice D.pa D.ps.length D.pc, .slice a2 D.fs.length c2, .int .i64 D.en]] W fun e w' => ∃ rb2, e = .returned (.tuple #[.pointer (some ⟨rb2, 0, none⟩), .int .i64 0]) ∧ Tw W0 D D2 rb rb2 r (newR D2) w') := fun W rb r hW hL => by
            have := Tw.newB hL (HWX.out W hW) hE2.out
            rw [hD2] at this
            dsimp only [wv] at this
            rw [hkl2] at this
            rw [hD2]
            exact this
          clear hrdG hWx hWr hkr hkl2 hD2
          go_wp2_with fail
          refine C5.mono ?_
          rintro e w5 ⟨rb, rfl, hL5, hb5⟩
          obtain ⟨v0, v1, v2⟩ := HXC.out w5 hb5
          have C6 := HCB.out w5 rb _ hb5 hL5
          clear C5 y0 y1 y2 lB u0 u1 u2 lXB hbw
          go_wp2_with fail
          refine C6.mono ?_
          rintro e w6 ⟨rb2, rfl, hT⟩
          rw [HNR.out] at hT
          obtain ⟨Q, hQ⟩ : ∃ Q : Nat, n % 40 = (Q : Int) := ⟨(n % 40).toNat, by omega⟩
          have hQ2 : Q < 40 := by omega
          have hQt : n.tmod 40 = (Q : Int) := by rw [Int.tmod_eq_emod_of_nonneg hn.1]; exact hQ
          have C7 := hT.stepsA Q (by show 0 + Q ≤ 500; omega)
          obtain ⟨nn, r, hr⟩ : ∃ nn r, stpsR D Q (newR D) = (nn, r) := ⟨_, _, rfl⟩
          have hdn := stps_dn D Q (newR D)
          have HSB : Hid (stpsR D2 Q (newR D) = (nn, r)) := (HSR.out Q (newR D) (Inv.new HOK.out)).trans hr
          rw [hr] at C7 hdn
          have hdn2 : r.dn.length ≤ 40 := by have : (newR D).dn.length = 0 := rfl; have h9 : r.dn.length ≤ (newR D).dn.length + Q := hdn; omega
          have hnn : nn ≤ 40 := by have := stps_le D Q (newR D); rw [hr] at this; have h9 : nn ≤ Q := this; omega
          clear C6 hT hL5 hb5 v0 v1 v2 hdn hr
          go_wp2_with fail
          refine C7.mono ?_
          rintro e w7 ⟨rfl, hT7⟩
          have C8 := hT7.stepsB Q (by show 0 + Q ≤ 500; omega)
          rw [HSB.out] at C8
          clear C7 hT7
          go_wp2_with fail
          refine C8.mono ?_
          rintro e w8 ⟨rfl, hT8⟩
          have hT8 : Tw W0 D D2 rb rb2 r r w8 := hT8
          have C9 := hT8.waitA (by omega)
          have hwl := hT8.wl
          have HT8 : Hid _ := hT8
          clear C8 hT8
          go_wp2_with fail
          refine C9.mono ?_
          rintro e w9 ⟨wa, wc1, rfl, hA9, hb9⟩
          have hT9 := Tw.below (Hid.out HT8) hb9
          have C10 := hT9.waitB (by omega)
          have HT9 : Hid _ := hT9
          have HA9 : Hid _ := hA9
          clear C9 hT9 hA9 hb9
          go_wp2_with fail
          refine C10.mono ?_
          rintro e w10 ⟨wa2, wc2, rfl, hA10, hb10⟩
          have C11 := same_yes w10 wa wa2 wc1 wc2 r.wt (RdM.below (Hid.out HA9) hb10) hA10 (by omega)
          have HT10 : Hid (Tw W0 D D2 rb rb2 r r w10) := Tw.below (Hid.out HT9) hb10
          clear C10 hA10 hb10
          go_wp2_with fail
          refine C11.mono ?_
          rintro e w11 ⟨rfl, hb11⟩
          have HT11 : Hid (Tw W0 D D2 rb rb2 r r w11) := Tw.below (Hid.out HT10) hb11
          clear C11 hb11
          go_wp2_with fail
          go_loopw [17] (fun s17 wx => ∃ (f : Nat), s17 = .int .i64 f ∧ f ≤ D.fs.length ∧ Tw W0 D D2 rb rb2 r r wx) (fun s17 _ => D.fs.length - (intOf s17).toNat)
          case atStart => exact ⟨0, rfl, Nat.zero_le _, HT11.out⟩
          case round =>
            clear HT11
            obtain ⟨f, rfl, hf, hT⟩ := hrel
            obtain ⟨y0, y1, y2, lB⟩ := HXB.out wr hT.bel
            by_cases hfl2 : f < D.fs.length
            · have hf' : (f : Int) < (D.fs.length : Int) := by omega
              have CA := hT.stateA (f : Int)
              have CB := hT.stateB (f : Int)
              have CC := hT.logA (f : Int) (by omega)
              have hlen : (logR r (f : Int)).length ≤ 40 := Nat.le_trans (logR_le _ _) hdn2
              have HT : Hid _ := hT
              clear hT
              go_wp2_with fail
              refine CA.mono ?_
              rintro e w12 ⟨rfl, hw12⟩
              have hw12' := hw12.symm
              subst hw12'
              go_wp2_with fail
              refine CB.mono ?_
              rintro e w13 ⟨rfl, hw13⟩
              have hw13' := hw13.symm
              subst hw13'
              go_wp2_with fail
              refine CC.mono ?_
              rintro e w14 ⟨la, lc1, rfl, hD14, hb14⟩
              have hT14 := Tw.below (Hid.out HT) hb14
              have CD := hT14.logB (f : Int) (by omega)
              have HT14 : Hid _ := hT14
              have HD14 : Hid _ := hD14
              clear CA CB CC hT14 hD14 hb14 y0 y1 y2 lB
              go_wp2_with fail
              refine CD.mono ?_
              rintro e w15 ⟨la2, lc2, rfl, hD15, hb15⟩
              have CE := sameD_yes w15 la la2 lc1 lc2 (logR r (f : Int)) (RdD.below (Hid.out HD14) hb15) hD15 (by omega)
              have HT15 : Hid (Tw W0 D D2 rb rb2 r r w15) := Tw.below (Hid.out HT14) hb15
              clear CD hD15 hb15
              go_wp2_with fail
              refine CE.mono ?_
              rintro e w16 ⟨rfl, hb16⟩
              have HT16 : Hid (Tw W0 D D2 rb rb2 r r w16) := Tw.below (Hid.out HT15) hb16
              clear CE hb16
              go_wp2_with fail
              go_roundw
              case rel => exact ⟨f + 1, by go_num, by omega, HT16.out⟩
              case measure => simp [intOf]; omega
            · obtain rfl : f = D.fs.length := by omega
              have HBF : Hid (Below w.heap.size w wr) := HKEY.out _ hT.bel
              clear hT
              go_wp2_with fail
              go_ret
              exact ⟨rfl, HBF.out⟩
    · have k1 : (E != 0) = true := by simpa using hE
      go_wp2_with fail
      refine (shown_any w2).mono ?_
      rintro e w3 ⟨rfl, hb3⟩
      have HBF : Hid (Below w.heap.size w w3) := HKEY.out _ ((Hid.out HB2).trans (hb3.mono (Hid.out HB2).size))
      clear hb3
      go_wp2_with fail
      go_ret
      exact ⟨rfl, by first | exact HBF.out | (rw [hB] at HBF; exact HBF.out)⟩
end Go.Proofs.YtmfcbalhabcodaaGreat
