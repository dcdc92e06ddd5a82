/- Proved: whether federates are conservative or optimistic changes nothing; the walk of the statement on it. -/
import Derived.Test.YtpifkoblcbjiiaaKin
namespace Go.Proofs.Ytpifkoblcbjiiaa
open Go.RowKit Go.Shelf
set_option linter.unusedVariables false

theorem Kx.begin {W1 : World} {D : Wd} : Kx W1 W1.heap.size D ((W1.alloc (.cells (xcs D (.slice (some ⟨W1.heap.size + 1, 0, none⟩) 0 0)) 25)).alloc (.cells #[] 42)) (.slice (some ⟨W1.heap.size + 1, 0, none⟩) 0 0) [] := by
  have b1 := al W1 (.cells (xcs D (.slice (some ⟨W1.heap.size + 1, 0, none⟩) 0 0)) 25)
  have b2 := al (W1.alloc (.cells (xcs D (.slice (some ⟨W1.heap.size + 1, 0, none⟩) 0 0)) 25)) (.cells #[] 42)
  have s1 : (W1.alloc (.cells (xcs D (.slice (some ⟨W1.heap.size + 1, 0, none⟩) 0 0)) 25)).heap.size = W1.heap.size + 1 := by simp
  refine ⟨b1.trans (b2.mono b1.size), rfl, ?_, ?_⟩
  · rw [Below.heap_alloc _ _ _ (by simp)]
    exact World.alloc_heap_new W1 _
  · have := World.ownsRow_made (e := 42) (size := 7) (base := W1.heap.size + 1) (W1.alloc (.cells (xcs D (.slice (some ⟨W1.heap.size + 1, 0, none⟩) 0 0)) 25)) #[] 0 (by simp) (Nat.zero_le _) (by simp)
    rw [s1] at this
    exact this
theorem rdG_new (w : World) (g : Fd) : RdG (w.alloc (.cells (fcs g) 42)) (some ⟨w.heap.size, 0, none⟩) [g] := fun _ => ⟨w.heap.size, 0, rfl, by simp, fun i hi c hc => by
  have hi0 : i = 0 := by simp at hi; omega
  subst hi0
  rcases (by omega : c = 0 ∨ c = 1 ∨ c = 2 ∨ c = 3 ∨ c = 4 ∨ c = 5 ∨ c = 6) with rfl | rfl | rfl | rfl | rfl | rfl | rfl <;> (rw [World.cell?_alloc_new]; rfl)⟩

set_option maxRecDepth 100000 in
set_option maxHeartbeats 4000000 in
theorem kinds_walk (w : World) (D : Wd) (hp : RdI w w.heap.size D.pa D.ps) (hf : RdF w D.fa D.fs) (za : Option Addr) (zc : Nat) (z : List Bool) (hz : InT w za z) :
    Calls Try.prog 7 #[wv D, .slice za z.length zc] w fun e w' => e = .returned (.bool true) ∧ Below w.heap.size w w' := by
  have mixed : Try.prog.follows .mixedOrders = true := by kernel_rfl
  obtain ⟨W0, hW0⟩ : ∃ W0, W0 = w.alloc (.cells (wcs D) 25) := ⟨_, rfl⟩
  have hb0 : Below w.heap.size w W0 := by rw [hW0]; exact al _ _
  obtain ⟨⟨x0, x1, x2⟩, hp1, hf1⟩ := box_of hp hf
  rw [← hW0] at hp1 hf1
  have HV := heavy_any _ D hp1 hf1
  have HZ : Hid (InT W0 za z) := hz.below hb0
  have HW0 : Hid _ := hW0
  obtain ⟨B, hB⟩ : ∃ B, w.heap.size = B := ⟨_, rfl⟩
  rw [hB] at x0 x1 x2
  have lB := clt x0
  dsimp only at lB
  have key : ∀ W, Below W0.heap.size W0 W → Below w.heap.size w W := fun W hW => hb0.trans (hW.mono hb0.size)
  have HKEY : Hid _ := key
  obtain ⟨fa, hfa⟩ : ∃ fa, D.fa = fa := ⟨_, rfl⟩
  have HFA : Hid _ := hfa
  cases hh : hvyW D with
  | true =>
    rw [hh] at HV
    rw [hW0] at HV
    dsimp only [wv, wcs] at HV x0 x1 x2 lB HW0 ⊢
    clear hp hf hp1 hf1 hh hz HZ hW0 key hfa
    go_enter Try.func7, Try.ntmps7
    go_wp2_with fail
    refine HV.mono ?_
    rintro e w1 ⟨rfl, hb1⟩
    rw [← HW0.out] at hb1
    clear HV
    go_wp2_with fail
    refine (shown_any w1).mono ?_
    rintro e w2 ⟨rfl, hb2⟩
    go_wp2_with fail
    go_ret
    exact ⟨rfl, HKEY.out _ (hb1.trans (hb2.mono hb1.size))⟩
  | false =>
    have hW := ww_of hp1 hf1 hh
    rw [hh, hW0] at HV
    have HX : Hid (∀ W, Below W0.heap.size W0 W → BoxW W B D) := fun W hW' => (BoxW.mk (hW0 ▸ x0) (hW0 ▸ x1) (hW0 ▸ x2) hW).below hW'
    have hfl := hW.fl
    have HLT : Hid _ := hW.lt
    dsimp only [wv, wcs] at HV x0 x1 x2 lB HW0 ⊢
    simp only [hfa] at HV x0 x1 x2 lB HW0 ⊢
    clear hp hf hp1 hf1 hh hW hz hW0 key hfa
    go_enter Try.func7, Try.ntmps7
    go_wp2_with fail
    refine HV.mono ?_
    rintro e w1 ⟨rfl, hb1⟩
    rw [← HW0.out] at hb1
    obtain ⟨x0, x1, x2, hW1⟩ := HX.out w1 hb1
    rw [HFA.out] at x1
    obtain ⟨XB, hXB⟩ : ∃ XB, w1.heap.size = XB := ⟨_, rfl⟩
    have KX : Hid (∃ v, Kx w1 XB D ((w1.alloc (.cells (xcs D (.slice (some ⟨XB + 1, 0, none⟩) 0 0)) 25)).alloc (.cells #[] 42)) v []) := by
      rw [← hXB]
      exact ⟨_, Kx.begin⟩
    have HXB : Hid _ := hXB
    clear HV hW1
    dsimp only [xcs] at KX
    go_wp2_with fail
    clear hB hXB x0 x1 x2
    go_loopw [6] (fun s6 wr => ∃ k : Nat, k ≤ D.fs.length ∧ s6 = .int .i64 k ∧ Hid (∃ v, Kx w1 XB D wr v (kF D.fs z k)) ∧ Hid (∀ i, i < k → wi (nthF D.fs i).kd 0 1 = true)) (fun s6 _ => D.fs.length - (intOf s6).toNat)
    case atStart => exact ⟨0, Nat.zero_le _, rfl, KX.out, (fun i hi => absurd hi (Nat.not_lt_zero _) : ∀ i, i < 0 → wi (nthF D.fs i).kd 0 1 = true)⟩
    case round =>
      obtain ⟨k, hk, rfl, HKE, HJ⟩ := hrel
      obtain ⟨v, hKv⟩ := HKE.out
      have HK : Hid _ := hKv
      have hbw : Below W0.heap.size W0 wr := hb1.trans (hKv.bel.mono hb1.size)
      clear hKv HKE
      obtain ⟨y0, y1, y2, hWr⟩ := HX.out wr hbw
      rw [HFA.out] at y1
      by_cases hkl : k < D.fs.length
      · have hk' : (k : Int) < (D.fs.length : Int) := by omega
        obtain ⟨g, hg⟩ : ∃ g, nthF D.fs k = g := ⟨_, rfl⟩
        have hRF := hWr.f
        rw [HFA.out] at hRF
        obtain ⟨b, off, rfl, hbb, z0, z1, z2, z3, z4, z5, z6⟩ := hRF.cells hkl hg
        have HRE : Hid _ := hg
        obtain ⟨kd, lk, st, ra, rc, rs, pa, pc, ps, sa, sc, ss, ia, ic, is⟩ := g
        dsimp only at z0 z1 z2 z3 z4 z5 z6
        clear hg hRF hWr
        cases hkd : wi kd 0 1 with
        | false =>
          unfold wi at hkd
          rw [decide_eq_false_iff_not] at hkd
          have k0 : (kd != 0) = true := by simp; omega
          have k1 : (kd != 1) = true := by simp; omega
          clear hkd
          go_wp2_with fail
          refine (shown_any _).mono ?_
          rintro e w2 ⟨rfl, hb2⟩
          have hbs := hbw.trans (((al wr _).trans (hb2.mono (al wr _).size)).mono hbw.size)
          go_wp2_with fail
          go_ret
          exact ⟨rfl, HKEY.out _ hbs⟩
        | true =>
          have HKD : Hid (wi (Fd.kd ⟨kd, lk, st, ra, rc, rs, pa, pc, ps, sa, sc, ss, ia, ic, is⟩) 0 1 = true) := hkd
          have hkk : ((kd != 0) = false ∧ (kd != 1) = true) ∨ ((kd != 0) = true ∧ (kd != 1) = false) := by
            unfold wi at hkd
            rw [decide_eq_true_iff] at hkd
            rcases (by omega : kd = 0 ∨ kd = 1) with g | g
            · left; rw [g]; exact ⟨rfl, rfl⟩
            · right; rw [g]; exact ⟨rfl, rfl⟩
          clear hkd
          by_cases hzk : (k : Int) < (z.length : Int)
          · have dz : decide ((k : Int) < (z.length : Int)) = true := decide_eq_true hzk
            obtain ⟨zb, zo, rfl, hzb, hzc⟩ := InT.below HZ.out hbw (by intro e; rw [e] at hzk; simp at hzk; omega)
            have t0 := hzc k (by omega)
            obtain ⟨bb, hbbe⟩ : ∃ bb, nthT z k = bb := ⟨_, rfl⟩
            rw [hbbe] at t0
            have HBK : Hid (knd z k = bb) := by
              show knd z k = bb
              unfold knd
              rw [decide_eq_true (show k < z.length by omega), hbbe]
              rfl
            clear hzc hbbe
            cases bb with
            | true =>
              rcases hkk with ⟨k0, k1⟩ | ⟨k0, k1⟩
              · skip
                have W5E : Hid _ := al wr (.cells (fcs (setK ⟨kd, lk, st, ra, rc, rs, pa, pc, ps, sa, sc, ss, ia, ic, is⟩ true)) 42)
                have hA := (Kx.below HK.out W5E.out)
                have xA1 := hA.cells.2.1
                have lXA := hA.lt
                have hb2 : Below wr.heap.size wr ((wr.alloc (.cells (fcs (setK ⟨kd, lk, st, ra, rc, rs, pa, pc, ps, sa, sc, ss, ia, ic, is⟩ true)) 42)).alloc (.cells (fcs (setK ⟨kd, lk, st, ra, rc, rs, pa, pc, ps, sa, sc, ss, ia, ic, is⟩ true)) 42)) := Below.trans W5E.out (Below.mono (al _ _) (Below.size W5E.out))
                have hg2 : RdG ((wr.alloc (.cells (fcs (setK ⟨kd, lk, st, ra, rc, rs, pa, pc, ps, sa, sc, ss, ia, ic, is⟩ true)) 42)).alloc (.cells (fcs (setK ⟨kd, lk, st, ra, rc, rs, pa, pc, ps, sa, sc, ss, ia, ic, is⟩ true)) 42)) (some ⟨wr.heap.size + 1, 0, none⟩) [setK ⟨kd, lk, st, ra, rc, rs, pa, pc, ps, sa, sc, ss, ia, ic, is⟩ true] := by
                  have := rdG_new (wr.alloc (.cells (fcs (setK ⟨kd, lk, st, ra, rc, rs, pa, pc, ps, sa, sc, ss, ia, ic, is⟩ true)) 42)) (setK ⟨kd, lk, st, ra, rc, rs, pa, pc, ps, sa, sc, ss, ia, ic, is⟩ true)
                  rwa [show (wr.alloc (.cells (fcs (setK ⟨kd, lk, st, ra, rc, rs, pa, pc, ps, sa, sc, ss, ia, ic, is⟩ true)) 42)).heap.size = wr.heap.size + 1 by simp] at this
                obtain ⟨a', c', w', hrun, hfz, hcx, hKx⟩ := Kx.step HK.out hb2 _ _ hg2 (by rw [kF_len]; omega) 23 (kF D.fs z (k + 1)) (by rw [kF_succ, HRE.out, HBK.out])
                obtain ⟨X, hX⟩ : ∃ X, kF D.fs z (k + 1) = X := ⟨_, rfl⟩
                rw [hX] at hrun hKx
                have HXE : Hid _ := hX
                have HRUN : Hid _ := hrun
                have HKX : Hid _ := hKx
                dsimp only [fcs, setK] at HRUN xA1 lXA
                simp only [if_true] at HRUN xA1 lXA
                clear hA hb2 hg2 hrun hKx hX W5E
                go_wp2_with (at_builtin; refine wpList_append_run _ rfl _ _ 23 rfl rfl rfl HRUN.out ?_)
                go_roundw
                case rel =>
                  refine ⟨k + 1, by omega, by go_num, ⟨Value.slice a' X.length c', ?_⟩, ?_⟩
                  · rw [HXE.out]
                    exact HKX.out
                  · refine (fun i hi => ?_ : ∀ i, i < k + 1 → wi (nthF D.fs i).kd 0 1 = true)
                    by_cases e : i = k
                    · rw [e, HRE.out]; exact HKD.out
                    · exact HJ.out i (by omega)
                case measure => simp [intOf]; omega
              · skip
                have W5E : Hid _ := al wr (.cells (fcs (setK ⟨kd, lk, st, ra, rc, rs, pa, pc, ps, sa, sc, ss, ia, ic, is⟩ true)) 42)
                have hA := (Kx.below HK.out W5E.out)
                have xA1 := hA.cells.2.1
                have lXA := hA.lt
                have hb2 : Below wr.heap.size wr ((wr.alloc (.cells (fcs (setK ⟨kd, lk, st, ra, rc, rs, pa, pc, ps, sa, sc, ss, ia, ic, is⟩ true)) 42)).alloc (.cells (fcs (setK ⟨kd, lk, st, ra, rc, rs, pa, pc, ps, sa, sc, ss, ia, ic, is⟩ true)) 42)) := Below.trans W5E.out (Below.mono (al _ _) (Below.size W5E.out))
                have hg2 : RdG ((wr.alloc (.cells (fcs (setK ⟨kd, lk, st, ra, rc, rs, pa, pc, ps, sa, sc, ss, ia, ic, is⟩ true)) 42)).alloc (.cells (fcs (setK ⟨kd, lk, st, ra, rc, rs, pa, pc, ps, sa, sc, ss, ia, ic, is⟩ true)) 42)) (some ⟨wr.heap.size + 1, 0, none⟩) [setK ⟨kd, lk, st, ra, rc, rs, pa, pc, ps, sa, sc, ss, ia, ic, is⟩ true] := by
                  have := rdG_new (wr.alloc (.cells (fcs (setK ⟨kd, lk, st, ra, rc, rs, pa, pc, ps, sa, sc, ss, ia, ic, is⟩ true)) 42)) (setK ⟨kd, lk, st, ra, rc, rs, pa, pc, ps, sa, sc, ss, ia, ic, is⟩ true)
                  rwa [show (wr.alloc (.cells (fcs (setK ⟨kd, lk, st, ra, rc, rs, pa, pc, ps, sa, sc, ss, ia, ic, is⟩ true)) 42)).heap.size = wr.heap.size + 1 by simp] at this
                obtain ⟨a', c', w', hrun, hfz, hcx, hKx⟩ := Kx.step HK.out hb2 _ _ hg2 (by rw [kF_len]; omega) 23 (kF D.fs z (k + 1)) (by rw [kF_succ, HRE.out, HBK.out])
                obtain ⟨X, hX⟩ : ∃ X, kF D.fs z (k + 1) = X := ⟨_, rfl⟩
                rw [hX] at hrun hKx
                have HXE : Hid _ := hX
                have HRUN : Hid _ := hrun
                have HKX : Hid _ := hKx
                dsimp only [fcs, setK] at HRUN xA1 lXA
                simp only [if_true] at HRUN xA1 lXA
                clear hA hb2 hg2 hrun hKx hX W5E
                go_wp2_with (at_builtin; refine wpList_append_run _ rfl _ _ 23 rfl rfl rfl HRUN.out ?_)
                go_roundw
                case rel =>
                  refine ⟨k + 1, by omega, by go_num, ⟨Value.slice a' X.length c', ?_⟩, ?_⟩
                  · rw [HXE.out]
                    exact HKX.out
                  · refine (fun i hi => ?_ : ∀ i, i < k + 1 → wi (nthF D.fs i).kd 0 1 = true)
                    by_cases e : i = k
                    · rw [e, HRE.out]; exact HKD.out
                    · exact HJ.out i (by omega)
                case measure => simp [intOf]; omega
            | false =>
              rcases hkk with ⟨k0, k1⟩ | ⟨k0, k1⟩
              · skip
                have W5E : Hid _ := al wr (.cells (fcs (setK ⟨kd, lk, st, ra, rc, rs, pa, pc, ps, sa, sc, ss, ia, ic, is⟩ false)) 42)
                have hA := (Kx.below HK.out W5E.out)
                have xA1 := hA.cells.2.1
                have lXA := hA.lt
                have hb2 : Below wr.heap.size wr ((wr.alloc (.cells (fcs (setK ⟨kd, lk, st, ra, rc, rs, pa, pc, ps, sa, sc, ss, ia, ic, is⟩ false)) 42)).alloc (.cells (fcs (setK ⟨kd, lk, st, ra, rc, rs, pa, pc, ps, sa, sc, ss, ia, ic, is⟩ false)) 42)) := Below.trans W5E.out (Below.mono (al _ _) (Below.size W5E.out))
                have hg2 : RdG ((wr.alloc (.cells (fcs (setK ⟨kd, lk, st, ra, rc, rs, pa, pc, ps, sa, sc, ss, ia, ic, is⟩ false)) 42)).alloc (.cells (fcs (setK ⟨kd, lk, st, ra, rc, rs, pa, pc, ps, sa, sc, ss, ia, ic, is⟩ false)) 42)) (some ⟨wr.heap.size + 1, 0, none⟩) [setK ⟨kd, lk, st, ra, rc, rs, pa, pc, ps, sa, sc, ss, ia, ic, is⟩ false] := by
                  have := rdG_new (wr.alloc (.cells (fcs (setK ⟨kd, lk, st, ra, rc, rs, pa, pc, ps, sa, sc, ss, ia, ic, is⟩ false)) 42)) (setK ⟨kd, lk, st, ra, rc, rs, pa, pc, ps, sa, sc, ss, ia, ic, is⟩ false)
                  rwa [show (wr.alloc (.cells (fcs (setK ⟨kd, lk, st, ra, rc, rs, pa, pc, ps, sa, sc, ss, ia, ic, is⟩ false)) 42)).heap.size = wr.heap.size + 1 by simp] at this
                obtain ⟨a', c', w', hrun, hfz, hcx, hKx⟩ := Kx.step HK.out hb2 _ _ hg2 (by rw [kF_len]; omega) 23 (kF D.fs z (k + 1)) (by rw [kF_succ, HRE.out, HBK.out])
                obtain ⟨X, hX⟩ : ∃ X, kF D.fs z (k + 1) = X := ⟨_, rfl⟩
                rw [hX] at hrun hKx
                have HXE : Hid _ := hX
                have HRUN : Hid _ := hrun
                have HKX : Hid _ := hKx
                dsimp only [fcs, setK] at HRUN xA1 lXA
                simp only [Bool.false_eq_true, if_false] at HRUN xA1 lXA
                clear hA hb2 hg2 hrun hKx hX W5E
                go_wp2_with (at_builtin; refine wpList_append_run _ rfl _ _ 23 rfl rfl rfl HRUN.out ?_)
                go_roundw
                case rel =>
                  refine ⟨k + 1, by omega, by go_num, ⟨Value.slice a' X.length c', ?_⟩, ?_⟩
                  · rw [HXE.out]
                    exact HKX.out
                  · refine (fun i hi => ?_ : ∀ i, i < k + 1 → wi (nthF D.fs i).kd 0 1 = true)
                    by_cases e : i = k
                    · rw [e, HRE.out]; exact HKD.out
                    · exact HJ.out i (by omega)
                case measure => simp [intOf]; omega
              · skip
                have W5E : Hid _ := al wr (.cells (fcs (setK ⟨kd, lk, st, ra, rc, rs, pa, pc, ps, sa, sc, ss, ia, ic, is⟩ false)) 42)
                have hA := (Kx.below HK.out W5E.out)
                have xA1 := hA.cells.2.1
                have lXA := hA.lt
                have hb2 : Below wr.heap.size wr ((wr.alloc (.cells (fcs (setK ⟨kd, lk, st, ra, rc, rs, pa, pc, ps, sa, sc, ss, ia, ic, is⟩ false)) 42)).alloc (.cells (fcs (setK ⟨kd, lk, st, ra, rc, rs, pa, pc, ps, sa, sc, ss, ia, ic, is⟩ false)) 42)) := Below.trans W5E.out (Below.mono (al _ _) (Below.size W5E.out))
                have hg2 : RdG ((wr.alloc (.cells (fcs (setK ⟨kd, lk, st, ra, rc, rs, pa, pc, ps, sa, sc, ss, ia, ic, is⟩ false)) 42)).alloc (.cells (fcs (setK ⟨kd, lk, st, ra, rc, rs, pa, pc, ps, sa, sc, ss, ia, ic, is⟩ false)) 42)) (some ⟨wr.heap.size + 1, 0, none⟩) [setK ⟨kd, lk, st, ra, rc, rs, pa, pc, ps, sa, sc, ss, ia, ic, is⟩ false] := by
                  have := rdG_new (wr.alloc (.cells (fcs (setK ⟨kd, lk, st, ra, rc, rs, pa, pc, ps, sa, sc, ss, ia, ic, is⟩ false)) 42)) (setK ⟨kd, lk, st, ra, rc, rs, pa, pc, ps, sa, sc, ss, ia, ic, is⟩ false)
                  rwa [show (wr.alloc (.cells (fcs (setK ⟨kd, lk, st, ra, rc, rs, pa, pc, ps, sa, sc, ss, ia, ic, is⟩ false)) 42)).heap.size = wr.heap.size + 1 by simp] at this
                obtain ⟨a', c', w', hrun, hfz, hcx, hKx⟩ := Kx.step HK.out hb2 _ _ hg2 (by rw [kF_len]; omega) 23 (kF D.fs z (k + 1)) (by rw [kF_succ, HRE.out, HBK.out])
                obtain ⟨X, hX⟩ : ∃ X, kF D.fs z (k + 1) = X := ⟨_, rfl⟩
                rw [hX] at hrun hKx
                have HXE : Hid _ := hX
                have HRUN : Hid _ := hrun
                have HKX : Hid _ := hKx
                dsimp only [fcs, setK] at HRUN xA1 lXA
                simp only [Bool.false_eq_true, if_false] at HRUN xA1 lXA
                clear hA hb2 hg2 hrun hKx hX W5E
                go_wp2_with (at_builtin; refine wpList_append_run _ rfl _ _ 23 rfl rfl rfl HRUN.out ?_)
                go_roundw
                case rel =>
                  refine ⟨k + 1, by omega, by go_num, ⟨Value.slice a' X.length c', ?_⟩, ?_⟩
                  · rw [HXE.out]
                    exact HKX.out
                  · refine (fun i hi => ?_ : ∀ i, i < k + 1 → wi (nthF D.fs i).kd 0 1 = true)
                    by_cases e : i = k
                    · rw [e, HRE.out]; exact HKD.out
                    · exact HJ.out i (by omega)
                case measure => simp [intOf]; omega
          · have dz : decide ((k : Int) < (z.length : Int)) = false := decide_eq_false hzk
            have HBK : Hid (knd z k = false) := by
              show knd z k = false
              unfold knd
              rw [decide_eq_false (show ¬ k < z.length by omega)]
              rfl
            rcases hkk with ⟨k0, k1⟩ | ⟨k0, k1⟩
            · skip
              have W5E : Hid _ := al wr (.cells (fcs (setK ⟨kd, lk, st, ra, rc, rs, pa, pc, ps, sa, sc, ss, ia, ic, is⟩ false)) 42)
              have hA := (Kx.below HK.out W5E.out)
              have xA1 := hA.cells.2.1
              have lXA := hA.lt
              have hb2 : Below wr.heap.size wr ((wr.alloc (.cells (fcs (setK ⟨kd, lk, st, ra, rc, rs, pa, pc, ps, sa, sc, ss, ia, ic, is⟩ false)) 42)).alloc (.cells (fcs (setK ⟨kd, lk, st, ra, rc, rs, pa, pc, ps, sa, sc, ss, ia, ic, is⟩ false)) 42)) := Below.trans W5E.out (Below.mono (al _ _) (Below.size W5E.out))
              have hg2 : RdG ((wr.alloc (.cells (fcs (setK ⟨kd, lk, st, ra, rc, rs, pa, pc, ps, sa, sc, ss, ia, ic, is⟩ false)) 42)).alloc (.cells (fcs (setK ⟨kd, lk, st, ra, rc, rs, pa, pc, ps, sa, sc, ss, ia, ic, is⟩ false)) 42)) (some ⟨wr.heap.size + 1, 0, none⟩) [setK ⟨kd, lk, st, ra, rc, rs, pa, pc, ps, sa, sc, ss, ia, ic, is⟩ false] := by
                have := rdG_new (wr.alloc (.cells (fcs (setK ⟨kd, lk, st, ra, rc, rs, pa, pc, ps, sa, sc, ss, ia, ic, is⟩ false)) 42)) (setK ⟨kd, lk, st, ra, rc, rs, pa, pc, ps, sa, sc, ss, ia, ic, is⟩ false)
                rwa [show (wr.alloc (.cells (fcs (setK ⟨kd, lk, st, ra, rc, rs, pa, pc, ps, sa, sc, ss, ia, ic, is⟩ false)) 42)).heap.size = wr.heap.size + 1 by simp] at this
              obtain ⟨a', c', w', hrun, hfz, hcx, hKx⟩ := Kx.step HK.out hb2 _ _ hg2 (by rw [kF_len]; omega) 23 (kF D.fs z (k + 1)) (by rw [kF_succ, HRE.out, HBK.out])
              obtain ⟨X, hX⟩ : ∃ X, kF D.fs z (k + 1) = X := ⟨_, rfl⟩
              rw [hX] at hrun hKx
              have HXE : Hid _ := hX
              have HRUN : Hid _ := hrun
              have HKX : Hid _ := hKx
              dsimp only [fcs, setK] at HRUN xA1 lXA
              simp only [Bool.false_eq_true, if_false] at HRUN xA1 lXA
              clear hA hb2 hg2 hrun hKx hX W5E
              go_wp2_with (at_builtin; refine wpList_append_run _ rfl _ _ 23 rfl rfl rfl HRUN.out ?_)
              go_roundw
              case rel =>
                refine ⟨k + 1, by omega, by go_num, ⟨Value.slice a' X.length c', ?_⟩, ?_⟩
                · rw [HXE.out]
                  exact HKX.out
                · refine (fun i hi => ?_ : ∀ i, i < k + 1 → wi (nthF D.fs i).kd 0 1 = true)
                  by_cases e : i = k
                  · rw [e, HRE.out]; exact HKD.out
                  · exact HJ.out i (by omega)
              case measure => simp [intOf]; omega
            · skip
              have W5E : Hid _ := al wr (.cells (fcs (setK ⟨kd, lk, st, ra, rc, rs, pa, pc, ps, sa, sc, ss, ia, ic, is⟩ false)) 42)
              have hA := (Kx.below HK.out W5E.out)
              have xA1 := hA.cells.2.1
              have lXA := hA.lt
              have hb2 : Below wr.heap.size wr ((wr.alloc (.cells (fcs (setK ⟨kd, lk, st, ra, rc, rs, pa, pc, ps, sa, sc, ss, ia, ic, is⟩ false)) 42)).alloc (.cells (fcs (setK ⟨kd, lk, st, ra, rc, rs, pa, pc, ps, sa, sc, ss, ia, ic, is⟩ false)) 42)) := Below.trans W5E.out (Below.mono (al _ _) (Below.size W5E.out))
              have hg2 : RdG ((wr.alloc (.cells (fcs (setK ⟨kd, lk, st, ra, rc, rs, pa, pc, ps, sa, sc, ss, ia, ic, is⟩ false)) 42)).alloc (.cells (fcs (setK ⟨kd, lk, st, ra, rc, rs, pa, pc, ps, sa, sc, ss, ia, ic, is⟩ false)) 42)) (some ⟨wr.heap.size + 1, 0, none⟩) [setK ⟨kd, lk, st, ra, rc, rs, pa, pc, ps, sa, sc, ss, ia, ic, is⟩ false] := by
                have := rdG_new (wr.alloc (.cells (fcs (setK ⟨kd, lk, st, ra, rc, rs, pa, pc, ps, sa, sc, ss, ia, ic, is⟩ false)) 42)) (setK ⟨kd, lk, st, ra, rc, rs, pa, pc, ps, sa, sc, ss, ia, ic, is⟩ false)
                rwa [show (wr.alloc (.cells (fcs (setK ⟨kd, lk, st, ra, rc, rs, pa, pc, ps, sa, sc, ss, ia, ic, is⟩ false)) 42)).heap.size = wr.heap.size + 1 by simp] at this
              obtain ⟨a', c', w', hrun, hfz, hcx, hKx⟩ := Kx.step HK.out hb2 _ _ hg2 (by rw [kF_len]; omega) 23 (kF D.fs z (k + 1)) (by rw [kF_succ, HRE.out, HBK.out])
              obtain ⟨X, hX⟩ : ∃ X, kF D.fs z (k + 1) = X := ⟨_, rfl⟩
              rw [hX] at hrun hKx
              have HXE : Hid _ := hX
              have HRUN : Hid _ := hrun
              have HKX : Hid _ := hKx
              dsimp only [fcs, setK] at HRUN xA1 lXA
              simp only [Bool.false_eq_true, if_false] at HRUN xA1 lXA
              clear hA hb2 hg2 hrun hKx hX W5E
              go_wp2_with (at_builtin; refine wpList_append_run _ rfl _ _ 23 rfl rfl rfl HRUN.out ?_)
              go_roundw
              case rel =>
                refine ⟨k + 1, by omega, by go_num, ⟨Value.slice a' X.length c', ?_⟩, ?_⟩
                · rw [HXE.out]
                  exact HKX.out
                · refine (fun i hi => ?_ : ∀ i, i < k + 1 → wi (nthF D.fs i).kd 0 1 = true)
                  by_cases e : i = k
                  · rw [e, HRE.out]; exact HKD.out
                  · exact HJ.out i (by omega)
              case measure => simp [intOf]; omega
      · obtain rfl : k = D.fs.length := by omega
        obtain ⟨a2, c2, rfl, hrdG⟩ := Kx.rd HK.out
        obtain ⟨u0, u1, u2, _⟩ := Kx.cells HK.out
        have hWx : Ww wr ⟨D.pa, D.pc, D.ps, a2, c2, kF D.fs z D.fs.length, D.en⟩ := by
          refine ⟨hWr.p, ⟨hrdG, fun f hf => ?_⟩, hWr.pl, ?_, fun f hf => ?_⟩
          · obtain ⟨i, hi, rfl⟩ := (memF _ f).1 hf
            rw [kF_len] at hi
            rw [kF_nth _ _ hi]
            exact okF_setK (hWr.f.2 _ (nthF_mem hi))
          · show (kF D.fs z D.fs.length).length ≤ 20
            rw [kF_len]
            exact hfl
          · obtain ⟨i, hi, rfl⟩ := (memF _ f).1 hf
            rw [kF_len] at hi
            rw [kF_nth _ _ hi]
            exact ltF_setK (HLT.out _ (nthF_mem hi))
        have BXx : BoxW wr XB ⟨D.pa, D.pc, D.ps, a2, c2, kF D.fs z D.fs.length, D.en⟩ := ⟨u0, u1, u2, hWx⟩
        have HXX : Hid (∀ W, Below wr.heap.size wr W → BoxW W XB ⟨D.pa, D.pc, D.ps, a2, c2, kF D.fs z D.fs.length, D.en⟩) := fun W hW => BXx.below hW
        have HXD : Hid (∀ W, Below wr.heap.size wr W → BoxW W B D) := fun W hW => HX.out W (hbw.trans (hW.mono hbw.size))
        have HEN : Hid (∀ W, Below wr.heap.size wr W → Below w.heap.size w W) := fun W hW => HKEY.out W (hbw.trans (hW.mono hbw.size))
        have hwe : wldE ⟨D.pa, D.pc, D.ps, a2, c2, kF D.fs z D.fs.length, D.en⟩ = wldE D := wldE_kind (z := z) rfl rfl rfl HJ.out
        have hse : sts ⟨D.pa, D.pc, D.ps, a2, c2, kF D.fs z D.fs.length, D.en⟩ = sts D := sts_kind (z := z) rfl rfl
        have htl : (sts D).length ≤ 8000 := Nat.le_trans (stsF_len hfl HLT.out D.fs.length (Nat.le_refl _)) (by omega)
        obtain ⟨N, E, hNE⟩ : ∃ N E, wldE D = (N, E) := ⟨_, _, rfl⟩
        have hCx := fun W (hW : Below wr.heap.size wr W) => wcheck_any W _ (HXX.out W hW).ok
        have hCd := fun W (hW : Below wr.heap.size wr W) => wcheck_any W D (HXD.out W hW).ok
        have hRd := fun W (hW : Below wr.heap.size wr W) => rwcheck_any W D (HXD.out W hW).ok
        have hSx := fun W (hW : Below wr.heap.size wr W) => starts_any W _ (HXX.out W hW).ok
        have hSd := fun W (hW : Below wr.heap.size wr W) => starts_any W D (HXD.out W hW).ok
        obtain ⟨P, hP⟩ : ∃ P, sts D = P := ⟨_, rfl⟩
        simp only [hwe, hse, hNE, hP] at hCx hCd hRd hSx hSd htl
        have hkl : (kF D.fs z D.fs.length).length = D.fs.length := kF_len _ _ _
        have HCZ : Hid (∀ W, Below wr.heap.size wr W → (W.cell? ⟨XB, 0, none⟩ = some (.slice D.pa D.ps.length D.pc) ∧ W.cell? ⟨XB, 1, none⟩ = some (.slice a2 D.fs.length c2) ∧ W.cell? ⟨XB, 2, none⟩ = some (.int .i64 D.en)) ∧ (W.cell? ⟨B, 0, none⟩ = some (.slice D.pa D.ps.length D.pc) ∧ W.cell? ⟨B, 1, none⟩ = some (.slice fa D.fs.length D.fc) ∧ W.cell? ⟨B, 2, none⟩ = some (.int .i64 D.en))) := fun W hW => by
          obtain ⟨p0, p1, p2, _⟩ := HXX.out W hW
          obtain ⟨q0, q1, q2, _⟩ := HXD.out W hW
          dsimp only at p0 p1 p2
          rw [hkl] at p1
          rw [HFA.out] at q1
          exact ⟨⟨p0, p1, p2⟩, q0, q1, q2⟩
        dsimp only [wv] at hCx hCd hRd hSx hSd
        simp only [hkl] at hCx hSx
        simp only [HFA.out] at hCd hRd hSd
        have HCx : Hid _ := hCx
        have HCd : Hid _ := hCd
        have HRd : Hid _ := hRd
        have HSx : Hid _ := hSx
        have HSd : Hid _ := hSd
        obtain ⟨⟨p0, p1, p2⟩, q0, q1, q2⟩ := HCZ.out wr (Below.refl _ _)
        clear hCx hCd hRd hSx hSd hP hNE hwe hse hkl BXx hWx hrdG u0 u1 u2 y0 y1 y2 hWr
        have D1 := HCd.out wr (Below.refl _ _)
        go_wp2_with fail
        refine D1.mono ?_
        rintro e w5 ⟨rfl, hb5⟩
        clear D1
        obtain ⟨⟨p0, p1, p2⟩, q0, q1, q2⟩ := HCZ.out w5 hb5
        have D2 := HCx.out w5 hb5
        go_wp2_with fail
        refine D2.mono ?_
        rintro e w6 ⟨rfl, hb6⟩
        have hb6' := hb5.trans (hb6.mono hb5.size)
        clear D2
        obtain ⟨⟨p0, p1, p2⟩, q0, q1, q2⟩ := HCZ.out w6 hb6'
        have D3 := HRd.out w6 hb6'
        go_wp2_with fail
        refine D3.mono ?_
        rintro e w7 ⟨rfl, hb7⟩
        have hb7' := hb6'.trans (hb7.mono hb6'.size)
        clear D3
        go_wp2_with fail
        refine (shown_any w7).mono ?_
        rintro e w8 ⟨rfl, hb8⟩
        have hb8' := hb7'.trans (hb8.mono hb7'.size)
        obtain ⟨⟨p0, p1, p2⟩, q0, q1, q2⟩ := HCZ.out w8 hb8'
        have hbd : Below wr.heap.size wr w8.drew := hb8'.drew
        by_cases e0 : E = 0
        · subst e0
          go_wp2_with fail
          go_region_held3 (fun w' => w'.cell? ⟨XB, 0, none⟩ = some (.slice D.pa D.ps.length D.pc) ∧ w'.cell? ⟨XB, 1, none⟩ = some (.slice a2 D.fs.length c2) ∧ w'.cell? ⟨XB, 2, none⟩ = some (.int .i64 D.en) ∧ w'.cell? ⟨B, 0, none⟩ = some (.slice D.pa D.ps.length D.pc) ∧ w'.cell? ⟨B, 1, none⟩ = some (.slice fa D.fs.length D.fc) ∧ w'.cell? ⟨B, 2, none⟩ = some (.int .i64 D.en)) (go_keep) (first
            | (go_at_call 18; refine (HSx.out _ hb95).mono ?_; rintro e w97 ⟨v97, rfl, hr97⟩; obtain ⟨a97, c97, rfl, hrd97⟩ := RowM.rd hr97; have hb97 := Below.trans hb95 (Below.mono hr97.2 hb95.size); obtain ⟨⟨p0, p1, p2⟩, q0, q1, q2⟩ := HCZ.out w97 hb97)
            | (go_at_call 18; refine (HSd.out _ hbd).mono ?_; rintro e w95 ⟨v95, rfl, hr95⟩; obtain ⟨a95, c95, rfl, hrd95⟩ := RowM.rd hr95; have hb95 := Below.trans hbd (Below.mono hr95.2 hbd.size); obtain ⟨⟨p0, p1, p2⟩, q0, q1, q2⟩ := HCZ.out w95 hb95)
            | (go_at_call 15; refine (same_yes w97 a95 a97 c95 c97 P (RowM.look hr95 hr97.2) hrd97 (by omega)).mono ?_; rintro e w98 ⟨rfl, hbs8⟩; have hb98 := Below.trans hb97 (Below.mono hbs8 hb97.size); obtain ⟨⟨p0, p1, p2⟩, q0, q1, q2⟩ := HCZ.out w98 hb98))
          all_goals go_wp2
          all_goals go_ret
          all_goals exact ⟨rfl, HEN.out _ hb98⟩
        · have ke : (E != 0) = true := by simpa using e0
          go_wp2_with fail
          go_quiet (fail)
          go_wp2
          go_ret
          exact ⟨rfl, HEN.out _ (hb8'.trans (below_drewN _ _ _))⟩
end Go.Proofs.Ytpifkoblcbjiiaa
