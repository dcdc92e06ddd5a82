/- Proved: the walk of the statement that states are what the rules come to. -/
import Derived.Test.YtmfcbalhabcodaaGreatTds
namespace Go.Proofs.YtmfcbalhabcodaaGreat
open Go.RowKit Go.Shelf
set_option linter.unusedVariables false

theorem takeD_snoc {l : List Dn} {i : Nat} (h : i < l.length) : l.take (i + 1) = l.take i ++ [nthD l i] := by
  rw [List.take_succ_eq_append_getElem h]
  simp [nthD, h]
theorem fld_snoc {rs : List Rl} {s : Int} {l : List Dn} {i : Nat} (h : i < l.length) : fld rs s (l.take (i + 1)) = (stp rs (fld rs s (l.take i)) (nthD l i).m.cl).1 := by
  rw [takeD_snoc h, fld_append]
  rfl
theorem log_to {r : Rn} {f : Int} {i : Nat} (h : i < (logR r f).length) : (nthD (logR r f) i).m.dst = f := by
  have h1 : nthD (logR r f) i ∈ logR r f := by
    simp [nthD, h]
  have h2 := (List.mem_filter.1 h1).2
  simpa using h2
theorem staR_at {D : Wd} {r : Rn} (h : Inv D r) {f : Nat} (hf : f < D.fs.length) : staR r (f : Int) = nthI r.st f := by
  unfold staR
  rw [if_pos (by rw [h.ls]; omega)]
  simp

set_option maxRecDepth 100000 in
set_option maxHeartbeats 4000000 in
theorem states_walk (w : World) (D : Wd) (n : Int) (hp : RdI w w.heap.size D.pa D.ps) (hf : RdF w D.fa D.fs) (hn : 0 ≤ n ∧ n ≤ 255) :
    Calls Tryz.prog 4 #[wv D, .int .u8 n] w fun e w' => e = .returned (.bool true) ∧ Below w.heap.size w w' := by
  have mixed : Tryz.prog.follows .mixedOrders = true := by kernel_rfl
  have hb0 := al w (.cells (wcs D) 25)
  obtain ⟨⟨x0, x1, x2⟩, hp1, hf1⟩ := box_of hp hf
  have HV := small_any _ D hp1 hf1
  obtain ⟨B, hB⟩ : ∃ B, w.heap.size = B := ⟨_, rfl⟩
  rw [hB] at x0 x1 x2
  have lB := clt x0
  dsimp only at lB
  cases hh : hvyW D with
  | true =>
    rw [hh] at HV
    dsimp only [wv, wcs] at HV x0 x1 x2 lB hb0 ⊢
    clear hp hf hp1 hf1 hh
    go_enter Tryz.func4, Tryz.ntmps4
    go_wp2_with fail
    refine HV.mono ?_
    rintro e w1 ⟨rfl, hb1⟩
    have hb1' := hb0.trans (hb1.mono hb0.size)
    clear HV
    go_wp2_with fail
    refine (shown_any w1).mono ?_
    rintro e w2 ⟨rfl, hb2⟩
    go_wp2_with fail
    go_ret
    exact ⟨rfl, hb1'.trans (hb2.mono hb1'.size)⟩
  | false =>
    have hW := ww_of hp1 hf1 hh
    rw [hh] at HV
    obtain ⟨W0, hW0⟩ : ∃ W0, W0 = w.alloc (.cells (wcs D) 25) := ⟨_, rfl⟩
    rw [← hW0] at HV x0 x1 x2 lB hb0 hW
    have HX : Hid (∀ W, Below W0.heap.size W0 W → BoxW W B D) := fun W hW' => (BoxW.mk x0 x1 x2 hW).below hW'
    obtain ⟨N, E, hNE⟩ : ∃ N E, wldE D = (N, E) := ⟨_, _, rfl⟩
    have HNE : Hid _ := hNE
    have HW0 : Hid _ := hW0
    have HBE : Hid _ := hB
    have HB0 : Hid _ := hb0
    have hfl := hW.fl
    dsimp only [wv, wcs] at HV HW0 ⊢
    rw [HW0.out] at HV x0 x1 x2 lB
    clear hp hf hp1 hf1 hh hW hNE hW0 hb0
    by_cases hE : E = 0
    · subst hE
      have hDen : Hid (OkD D) := okD_of HNE.out
      go_enter Tryz.func4, Tryz.ntmps4
      go_wp2_with fail
      refine HV.mono ?_
      rintro e w1 ⟨rfl, hb1⟩
      rw [← HW0.out] at hb1
      clear HV x0 x1 x2 lB
      obtain ⟨x0, x1, x2, hW1⟩ := HX.out w1 hb1
      have lB : B < w1.heap.size := clt x0
      have C1 := Lv.new hb1 hW1 HNE.out
      dsimp only [wv] at C1
      clear hW1
      go_wp2_with fail
      refine C1.mono ?_
      rintro e w2 ⟨rb, rfl, hL2, hb2⟩
      have hb2' := hL2.bel
      clear x0 x1 x2 lB
      obtain ⟨x0, x1, x2, hW2⟩ := HX.out w2 hb2'
      have lB : B < w2.heap.size := clt x0
      have C2 := Td.newB hL2 hW2 HNE.out
      dsimp only [wv] at C2
      clear C1 hW2 hL2 hb1 hb2
      go_wp2_with fail
      refine C2.mono ?_
      rintro e w3 ⟨db, rfl, hT3⟩
      have S := shown_any w3
      have HT3 : Hid _ := hT3
      clear C2 x0 x1 x2 lB hT3
      go_wp2_with fail
      refine S.mono ?_
      rintro e w4 ⟨rfl, hb4⟩
      obtain ⟨Q, hQ⟩ : ∃ Q : Nat, n % 40 = (Q : Int) := ⟨(n % 40).toNat, by omega⟩
      have hQ2 : Q < 40 := by omega
      have hQt : n.tmod 40 = (Q : Int) := by rw [Int.tmod_eq_emod_of_nonneg hn.1]; exact hQ
      have hT4 := Td.below (Hid.out HT3) hb4
      have C5 := hT4.stepsA Q (by simp [newR]; omega)
      clear S hb4 hT4 hb2'
      go_wp2_with fail
      refine C5.mono ?_
      rintro e w5 ⟨rfl, hT5⟩
      have C6 := hT5.stepsB (HX.out W0 (Below.refl _ _)).ok Q (by simp [newR]; omega)
      clear C5 hT5
      go_wp2_with fail
      refine C6.mono ?_
      rintro e w6 ⟨rfl, hT6⟩
      obtain ⟨r, hr⟩ : ∃ r, (stpsR D Q (newR D)).2 = r := ⟨_, rfl⟩
      have hdn : r.dn.length ≤ 40 := by
        rw [← hr]
        have h1 := stps_dn D Q (newR D)
        have h2 := stps_le D Q (newR D)
        have h3 : (newR D).dn.length = 0 := rfl
        omega
      have HSI : Hid (StI D r) := by
        show StI D r
        rw [← hr]
        exact StI.steps hDen.out Q (Inv.new hDen.out) (StI.new D)
      rw [hr] at hT6
      have HT6 : Hid _ := hT6
      clear C6 hT6 hr
      obtain ⟨K, hK⟩ : ∃ K, (stpsR D Q (newR D)).1 = K := ⟨_, rfl⟩
      go_wp2_with fail
      go_loopw [9] (fun s9 wr => ∃ (f : Nat), s9 = .int .i64 f ∧ f ≤ D.fs.length ∧ Td W0 D rb db r r wr) (fun s9 _ => D.fs.length - (intOf s9).toNat)
      case atStart => exact ⟨0, rfl, Nat.zero_le _, HT6.out⟩
      case round =>
        clear HT6
        obtain ⟨f, rfl, hf, hT⟩ := hrel
        have hBX := HX.out wr hT.bel
        obtain ⟨x0, x1, x2, hWr⟩ := hBX
        have lB : B < wr.heap.size := clt x0
        by_cases hfl2 : f < D.fs.length
        · have hf' : (f : Int) < (D.fs.length : Int) := by omega
          obtain ⟨g, hg⟩ : ∃ g, nthF D.fs f = g := ⟨_, rfl⟩
          have hRF := hWr.f
          obtain ⟨b, off, hfa, hbb, z0, z1, z2, z3, z4, z5, z6⟩ := hRF.cells hfl2 hg
          have HWB : Hid (∀ W, Below W0.heap.size W0 W → W.cell? ⟨B, 1, none⟩ = some (.slice (some ⟨b, off, none⟩) D.fs.length D.fc) ∧ W.cell? ⟨b, off + f * 7 + 3, none⟩ = some (.slice g.ra g.rs.length g.rc) ∧ RdR W g.ra g.rs ∧ B < W.heap.size ∧ b < W.heap.size) := fun W hW => by
            obtain ⟨y0, y1, y2, hWW⟩ := HX.out W hW
            obtain ⟨b', off', e', hb', _, _, _, v3, _⟩ := hWW.f.cells hfl2 hg
            rw [hfa] at e' y1
            simp at e'
            obtain ⟨rfl, rfl⟩ := e'
            exact ⟨y1, v3, (hWW.f.at hfl2 hg).r, clt y0, hb'⟩
          have hrl : g.rs.length ≤ 100 := by
            have := (hWr.lt g (hg ▸ nthF_mem hfl2)).r.1
            omega
          have C := hT.logA (f : Int) (by omega)
          have hlen : (logR r (f : Int)).length ≤ 40 := Nat.le_trans (logR_le _ _) hdn
          have HTO : Hid (∀ i, i < (logR r (f : Int)).length → (nthD (logR r (f : Int)) i).m.dst = (f : Int)) := fun i hi => log_to hi
          have HSG : Hid (∀ i, i < (logR r (f : Int)).length → (nthD (logR r (f : Int)) i).s = fld g.rs g.st ((logR r (f : Int)).take (i + 1))) := fun i hi => by rw [← hg]; exact HSI.out.lg f hfl2 i hi
          have HSE : Hid (nthI r.st f = fld g.rs g.st ((logR r (f : Int)).take (logR r (f : Int)).length)) := by
            show _ = _
            rw [List.take_length, ← hg]
            exact HSI.out.st f hfl2
          have HSA : Hid (staR r (f : Int) = nthI r.st f) := staR_at hT.inv hfl2
          obtain ⟨l, hl⟩ : ∃ l, logR r (f : Int) = l := ⟨_, rfl⟩
          rw [hl] at C HTO HSG HSE hlen
          rw [hfa] at x1
          have HT : Hid _ := hT
          clear hT hl hRF hWr hfa hg z0 z1 z3 z4 z5 z6
          go_wp2_with fail
          refine C.mono ?_
          rintro e w7 ⟨a, c, rfl, hD, hb7⟩
          have hT7 := Td.below (Hid.out HT) hb7
          have HT7 : Hid _ := hT7
          have HD7 : Hid _ := hD
          have HBE7 : Hid (∀ W, Below w7.heap.size w7 W → Below W0.heap.size W0 W) := fun W hW => (Td.bel (Hid.out HT7)).trans (hW.mono (Td.bel (Hid.out HT7)).size)
          clear C hD hb7 x0 x1 x2 lB HT z2 hbb hT7
          go_wp2_with fail
          go_loopw [10, 12] (fun s10 s12 wy => ∃ (i : Nat), s10 = .int .i64 (fld g.rs g.st (l.take i)) ∧ s12 = .int .i64 i ∧ i ≤ l.length ∧ Below w7.heap.size w7 wy) (fun _ s12 _ => l.length - (intOf s12).toNat)
          case atStart => exact ⟨0, rfl, rfl, Nat.zero_le _, Below.refl _ _⟩
          case round =>
            obtain ⟨i, rfl, rfl, hi, hbw⟩ := hrel
            by_cases hil : i < l.length
            · have hi' : (i : Int) < (l.length : Int) := by omega
              obtain ⟨x, hx⟩ : ∃ x, nthD l i = x := ⟨_, rfl⟩
              have hto := HTO.out i hil
              have hsg := HSG.out i hil
              have hsn := fld_snoc (rs := g.rs) (s := g.st) hil
              rw [hx] at hto hsg hsn
              obtain ⟨s, hs⟩ : ∃ s, fld g.rs g.st (l.take i) = s := ⟨_, rfl⟩
              rw [hs] at hsn ⊢
              obtain ⟨s2, hs2⟩ : ∃ s2, fld g.rs g.st (l.take (i + 1)) = s2 := ⟨_, rfl⟩
              have HS2 : Hid _ := hs2
              rw [hs2] at hsn hsg
              have HSN : Hid _ := hsn
              obtain ⟨ba, bo, hba, hbb2, _⟩ := (RdD.below HD7.out hbw).cells hil hx
              have HXC : Hid (∀ W, Below w7.heap.size w7 W → W.cell? ⟨ba, bo + i * 7 + 3, none⟩ = some (.int .i64 (f : Int)) ∧ W.cell? ⟨ba, bo + i * 7 + 4, none⟩ = some (.int .i64 x.m.cl) ∧ W.cell? ⟨ba, bo + i * 7 + 6, none⟩ = some (.int .i64 s2) ∧ ba < W.heap.size) := fun W hW => by
                obtain ⟨b', off', e', hl', p0, p1, p2, p3, p4, p5, p6⟩ := (RdD.below HD7.out hW).cells hil hx
                rw [hba] at e'
                simp at e'
                obtain ⟨rfl, rfl⟩ := e'
                rw [hto] at p3
                rw [hsg] at p6
                exact ⟨p3, p4, p6, hl'⟩
              subst hba
              have HBW : Hid _ := hbw
              clear hx hto hsg hsn hs hs2 hbw hbb2
              go_wp2_with fail
              go_loopw [10, 13] (fun s10 s13 wz => ∃ (k : Nat), s10 = .int .i64 s ∧ s13 = .int .i64 k ∧ k ≤ g.rs.length ∧ Hid (∀ j, j < k → isB s x.m.cl (nthR g.rs j) = false) ∧ Below w7.heap.size w7 wz) (fun _ s13 _ => g.rs.length - (intOf s13).toNat)
              case atStart => exact ⟨0, rfl, rfl, Nat.zero_le _, (fun j hj => by omega : ∀ j, j < 0 → isB s x.m.cl (nthR g.rs j) = false), HBW.out⟩
              case round =>
                obtain ⟨k, rfl, rfl, hk, HNO, hbz⟩ := hrel
                obtain ⟨y1, y3, hRR, lB, lb⟩ := HWB.out wr (HBE7.out wr hbz)
                obtain ⟨p3, p4, p6, lba⟩ := HXC.out wr hbz
                by_cases hkl : k < g.rs.length
                · have hk' : (k : Int) < (g.rs.length : Int) := by omega
                  obtain ⟨u, hu⟩ : ∃ u, nthR g.rs k = u := ⟨_, rfl⟩
                  obtain ⟨rb', ro, hra, lrb, t0, t1, t2, t3⟩ := hRR.cells hkl hu
                  rw [hra] at y3
                  have HB8 : Hid (∀ o q, Below w7.heap.size w7 ((wr.alloc o).drewN q)) := fun o q => hbz.trans ((al_drewN wr _ q).mono hbz.size)
                  have HU8 : Hid (∀ a b q, ((wr.alloc (.cells #[a, b, .int .i64 u.nx, .slice u.sa u.os.length u.sc] 56)).drewN q).cell? ⟨wr.heap.size, 2, none⟩ = some (.int .i64 u.nx)) := fun a b q => by
                    have h1 := World.alloc_heap_new wr (.cells #[a, b, .int .i64 u.nx, .slice u.sa u.os.length u.sc] 56)
                    obtain ⟨W8, hW8⟩ : ∃ W8, W8 = wr.alloc (.cells #[a, b, .int .i64 u.nx, .slice u.sa u.os.length u.sc] 56) := ⟨_, rfl⟩
                    rw [← hW8] at h1 ⊢
                    show W8.cell? _ = _
                    simp [World.cell?, h1]
                  have HUE : Hid _ := hu
                  have HBZ : Hid _ := hbz
                  clear hu hRR hbz
                  by_cases hA : u.st = s
                  · by_cases hC : u.cl = x.m.cl
                    · have HYES : Hid (s2 = u.nx) := by
                        show s2 = u.nx
                        rw [HSN.out, stp_hit HNO.out hkl (by rw [HUE.out]; unfold isB; exact decide_eq_true ⟨hA, hC⟩), HUE.out]
                      go_wp2_with fail
                      go_quiet (fail)
                      obtain ⟨W9, hW9⟩ : ∃ W9, W9 = (wr.alloc (.cells #[.int .i64 s, .int .i64 x.m.cl, .int .i64 u.nx, .slice u.sa u.os.length u.sc] 56)).drewN nq := ⟨_, rfl⟩
                      rw [← hW9]
                      have hb9 : Below w7.heap.size w7 W9 := by rw [hW9]; exact HB8.out _ _
                      have hu9 : W9.cell? ⟨wr.heap.size, 2, none⟩ = some (.int .i64 u.nx) := by rw [hW9]; exact HU8.out _ _ _
                      clear y1 y3 lB lb p3 p4 p6 lba t0 t1 t2 t3 lrb hW9
                      obtain ⟨p3, p4, p6, lba⟩ := HXC.out W9 hb9
                      rw [HYES.out] at p6
                      have HB9 : Hid _ := hb9
                      clear hb9
                      go_wp2_with fail
                      go_roundw
                      case rel => exact ⟨i + 1, by rw [HS2.out, HYES.out], by go_num, by omega, HB9.out⟩
                      case measure => simp [intOf]; omega
                    · have k2 : (u.cl == x.m.cl) = false := by simpa using hC
                      have HN2 : Hid (∀ j, j < k + 1 → isB s x.m.cl (nthR g.rs j) = false) := fun j hj => by
                        rcases Nat.lt_succ_iff_lt_or_eq.1 hj with e | rfl
                        · exact HNO.out j e
                        · rw [HUE.out]; unfold isB; exact decide_eq_false (fun e => hC e.2)
                      go_wp2_with fail
                      go_quiet (fail)
                      obtain ⟨W9, hW9⟩ : ∃ W9, W9 = (wr.alloc (.cells #[.int .i64 s, .int .i64 u.cl, .int .i64 u.nx, .slice u.sa u.os.length u.sc] 56)).drewN nq := ⟨_, rfl⟩
                      rw [← hW9]
                      have hb9 : Below w7.heap.size w7 W9 := by rw [hW9]; exact HB8.out _ _
                      clear y1 y3 lB lb p3 p4 p6 lba t0 t1 t2 t3 lrb hW9
                      go_wp2_with fail
                      go_roundw
                      case rel => exact ⟨k + 1, rfl, by go_num, by omega, HN2.out, hb9⟩
                      case measure => simp [intOf]; omega
                  · have k1 : (u.st == s) = false := by simpa using hA
                    have HN2 : Hid (∀ j, j < k + 1 → isB s x.m.cl (nthR g.rs j) = false) := fun j hj => by
                      rcases Nat.lt_succ_iff_lt_or_eq.1 hj with e | rfl
                      · exact HNO.out j e
                      · rw [HUE.out]; unfold isB; exact decide_eq_false (fun e => hA e.1)
                    go_wp2_with fail
                    go_quiet (fail)
                    obtain ⟨W9, hW9⟩ : ∃ W9, W9 = (wr.alloc (.cells #[.int .i64 u.st, .int .i64 u.cl, .int .i64 u.nx, .slice u.sa u.os.length u.sc] 56)).drewN nq := ⟨_, rfl⟩
                    rw [← hW9]
                    have hb9 : Below w7.heap.size w7 W9 := by rw [hW9]; exact HB8.out _ _
                    clear y1 y3 lB lb p3 p4 p6 lba t0 t1 t2 t3 lrb hW9
                    go_wp2_with fail
                    go_roundw
                    case rel => exact ⟨k + 1, rfl, by go_num, by omega, HN2.out, hb9⟩
                    case measure => simp [intOf]; omega
                · obtain rfl : k = g.rs.length := by omega
                  have HNN : Hid (s2 = s) := by
                    show s2 = s
                    rw [HSN.out, stp_go HNO.out rfl]
                  rw [HNN.out] at p6
                  have HBZ : Hid _ := hbz
                  clear hbz hRR
                  go_wp2_with fail
                  go_roundw
                  case rel => exact ⟨i + 1, by rw [HS2.out, HNN.out], by go_num, by omega, HBZ.out⟩
                  case measure => simp [intOf]; omega
            · obtain rfl : i = l.length := by omega
              obtain ⟨s, hs⟩ : ∃ s, fld g.rs g.st (l.take l.length) = s := ⟨_, rfl⟩
              rw [hs] at HSE ⊢
              have hTy := Td.below (Hid.out HT7) hbw
              have CA := hTy.stateA (f : Int)
              have CB := hTy.stateB f hfl2
              rw [HSA.out, HSE.out] at CA
              rw [HSE.out] at CB
              have HTY : Hid _ := hTy
              clear hTy hbw hs
              go_wp2_with fail
              refine CA.mono ?_
              rintro e w8 ⟨rfl, hw8⟩
              have hw8' := hw8.symm
              subst hw8'
              go_wp2_with fail
              refine CA.mono ?_
              rintro e w8 ⟨rfl, hw8⟩
              have hw8' := hw8.symm
              subst hw8'
              go_wp2_with fail
              refine CB.mono ?_
              rintro e w9 ⟨rfl, hb9⟩
              have HT9 : Hid (Td W0 D rb db r r w9) := Td.below (Hid.out HTY) hb9
              clear CA CB hb9
              go_wp2_with fail
              go_roundw
              case rel => exact ⟨f + 1, by go_num, by omega, HT9.out⟩
              case measure => simp [intOf]; omega
        · obtain rfl : f = D.fs.length := by omega
          have HBF : Hid (Below w.heap.size w wr) := (HB0.out).trans (hT.bel.mono (HB0.out).size)
          clear hT hWr
          go_wp2_with fail
          go_ret
          exact ⟨rfl, HBF.out⟩
    · have k1 : (E != 0) = true := by simpa using hE
      go_enter Tryz.func4, Tryz.ntmps4
      go_wp2_with fail
      refine HV.mono ?_
      rintro e w1 ⟨rfl, hb1⟩
      rw [← HW0.out] at hb1
      clear HV x0 x1 x2 lB
      obtain ⟨x0, x1, x2, hW1⟩ := HX.out w1 hb1
      have lB : B < w1.heap.size := clt x0
      have C1 := new_bad hW1 HNE.out hE
      dsimp only [wv] at C1
      clear hW1
      go_wp2_with fail
      refine C1.mono ?_
      rintro e w2 ⟨rfl, hb2⟩
      have hb2' := hb1.trans (hb2.mono hb1.size)
      clear x0 x1 x2 lB
      obtain ⟨x0, x1, x2, hW2⟩ := HX.out w2 hb2'
      have lB : B < w2.heap.size := clt x0
      have C2 := dnew_bad hW2 HNE.out hE
      dsimp only [wv] at C2
      clear C1 hW2 hb1 hb2
      go_wp2_with fail
      refine C2.mono ?_
      rintro e w3 ⟨rfl, hb3⟩
      have hb3' := hb2'.trans (hb3.mono hb2'.size)
      have S := shown_any w3
      clear C2 x0 x1 x2 lB
      go_wp2_with fail
      refine S.mono ?_
      rintro e w4 ⟨rfl, hb4⟩
      have hb4' := hb3'.trans (hb4.mono hb3'.size)
      go_wp2_with fail
      go_ret
      exact ⟨rfl, (HB0.out).trans (hb4'.mono (HB0.out).size)⟩
end Go.Proofs.YtmfcbalhabcodaaGreat
