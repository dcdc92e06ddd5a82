/- Proved: the walk of the statement on the numbers of messages. -/
import Derived.Test.YtmfcbalhabcodaaGreatWt
namespace Go.Proofs.YtmfcbalhabcodaaGreat
open Go.RowKit Go.Shelf
set_option linter.unusedVariables false

set_option maxRecDepth 100000 in
set_option maxHeartbeats 1000000 in
theorem log_row {w : World} {rb : Nat} {D : Wd} {r : Rn} {F : Nat → Prop} (h : RunF rb D r w F) (f : Int) (hl : r.dn.length ≤ 5000) :
    Calls Tryz.prog 22 #[.pointer (some ⟨rb, 0, none⟩), .int .i64 f] w fun e w' => ∃ a c, e = .returned (.slice a (logR r f).length c) ∧ w'.ownsRow w.heap.size 40 7 (.slice a (logR r f).length c) (logR r f).length (flatD (logR r f)) ∧ Below w.heap.size w w' := by
  by_cases hf : 0 ≤ f ∧ f < (D.fs.length : Int)
  · obtain ⟨i, rfl⟩ := Int.eq_ofNat_of_zero_le hf.1
    have hi' : i < D.fs.length := by omega
    have C := has_yes h i hi'
    obtain ⟨lo, hi, D', fv, pv, pb, E, hR, _⟩ := h
    have hel := hR.el
    obtain ⟨fb, fc, hfv⟩ := own_some' hR.lay.row (by omega)
    subst hfv
    obtain ⟨_, _, _, x3, _⟩ := hR.lay.cellsR
    obtain ⟨e, he⟩ : ∃ e, nthE E i = e := ⟨_, rfl⟩
    obtain ⟨c0, c1, c2, _⟩ := hR.lay.cellsF rfl (by omega) he
    obtain ⟨_, _, g3⟩ := hR.fe i hi'
    have hrow := hR.lay.lgs i (by omega)
    rw [he] at g3 hrow
    have hll : e.lg.length ≤ 5000 := by rw [g3]; have := logR_le r (i : Int); omega
    have K := cloneD_any w e.la e.lg.length e.lc (flatD e.lg) (flatD_len _) (by omega) (flatD_one _) (fun hn => (rdD_row hrow).flat hn)
    have hi2 : (i : Int) < (E.length : Int) := by omega
    rw [← g3]
    clear hR hrow g3 he hel c0 c1
    go_enter Tryz.func22, Tryz.ntmps22
    go_wp2_with fail
    refine C.mono ?_
    rintro e' w1 ⟨rfl, hw1⟩
    have hw1' := hw1.symm
    subst hw1'
    go_wp2_with fail
    refine K.mono ?_
    rintro e' w2 ⟨a, c, rfl, ho, hb⟩
    go_wp2_with fail
    go_ret
    exact ⟨_, _, rfl, ho, hb⟩
  · have C := has_no h f hf
    have hln : logR r f = [] := by
      obtain ⟨lo, hi, D', fv, pv, pb, E, hR, _⟩ := h
      exact log_none hR.inv hf
    rw [hln]
    clear h hf hln
    go_enter Tryz.func22, Tryz.ntmps22
    go_wp2_with fail
    refine C.mono ?_
    rintro e' w1 ⟨rfl, hw1⟩
    have hw1' := hw1.symm
    subst hw1'
    go_wp2_with fail
    go_ret
    exact ⟨_, _, rfl, World.ownsRow_nil _ _ _ _, Below.refl _ _⟩

theorem Lv.row {w0 : World} {rb : Nat} {D : Wd} {r : Rn} {W : World} (h : Lv w0 rb D r W) (f : Int) (hl : r.dn.length ≤ 5000) :
    Calls Tryz.prog 22 #[.pointer (some ⟨rb, 0, none⟩), .int .i64 f] W fun e w' => ∃ a c, e = .returned (.slice a (logR r f).length c) ∧ w'.ownsRow W.heap.size 40 7 (.slice a (logR r f).length c) (logR r f).length (flatD (logR r f)) ∧ Below W.heap.size W w' := by
  obtain ⟨F, h1, _⟩ := h
  exact log_row h1 f hl
/-- One message behind others. -/
theorem push1 {W : World} {b0 : Nat} {v : Value} {l : List M} (h : W.ownsRow b0 38 6 v l.length (flatM l)) (hb : b0 ≤ W.heap.size) (x : M) (hl : l.length ≤ 100000) (ty : TypeId) (X : List M) (hX : l ++ [x] = X) :
    ∃ a' c' w', (Builtin.append_ #[45, 45] ty #[v, .slice (some ⟨W.heap.size, 0, none⟩) 1 1]).run Tryz.prog (W.alloc (.cells (mcs x) 38)) = .ok (.slice a' X.length c') w' ∧ w'.ownsRow b0 38 6 (.slice a' X.length c') X.length (flatM X) ∧ Fr (fun k => v.ownBlock = some k) W w' ∧ (∀ k, (Value.slice a' X.length c').ownBlock = some k → v.ownBlock = some k ∨ W.heap.size ≤ k) := by
  obtain ⟨i0, hi0, hz0, hz1, hz2⟩ := info_parts infoM
  have hb1 := al W (.cells (mcs x) 38)
  obtain ⟨v', w', hr, h3, h4, h5, h6⟩ := run_append_own_at (P := Tryz.prog) _ b0 45 ty 38 i0 _ 6 48 Tryz.underlying45 hi0 hz0 hz1 hz2 rfl (by decide) v l.length (flatM l) (own_below h hb1) ⟨W.heap.size, 0, none⟩ 1 1 (flatM [x]) (flatM_len _) (fun j u hj => by
    rw [Addr.add_lit]
    exact (BoxM.new W x).rd.flat j u hj) (flatM_one _) (by unfold maxLen; omega) (by omega) (Nat.le_trans hb hb1.size)
  have hro : w'.ownsRow b0 38 6 v' X.length (flatM X) := by
    rw [← hX, flatM_append, List.length_append]
    exact h3
  obtain ⟨a', c', rfl⟩ := shape_of hro
  refine ⟨a', c', w', hr, hro, (Fr.of_below hb1).then (H.fr_of_grown h4), fun k e => ?_⟩
  rcases h6 with h6 | h6
  · exact .inl (h6.symm.trans e)
  · right
    have := hb1.size
    rw [h6] at e
    simp at e
    omega

theorem cntL_len (r : Rn) (k : Nat) : (cntL r k).length ≤ r.wt.length + k * r.dn.length := by
  induction k with
  | zero => simp [cntL]
  | succ k ih =>
    rw [cntL_succ, List.length_append, List.length_map]
    have := logR_le r (k : Int)
    rw [Nat.add_mul]
    omega
theorem mapM_take {l : List Dn} {i : Nat} (h : i < l.length) : (l.map (·.m)).take (i + 1) = (l.map (·.m)).take i ++ [(nthD l i).m] := by
  rw [List.take_succ_eq_append_getElem (by simpa using h)]
  simp [nthD, h]
theorem Lv.wl {w0 : World} {rb : Nat} {D : Wd} {r : Rn} {W : World} (h : Lv w0 rb D r W) : r.wt.length ≤ 256 + 24 * r.dn.length := by
  obtain ⟨F, ⟨lo, hi, D', fv, pv, pb, E, hR, _⟩, _⟩ := h
  exact hR.wl

set_option maxRecDepth 100000 in
set_option maxHeartbeats 4000000 in
theorem counts_walk (w : World) (D : Wd) (n : Int) (hp : RdI w w.heap.size D.pa D.ps) (hf : RdF w D.fa D.fs) (hn : 0 ≤ n ∧ n ≤ 255) :
    Calls Tryz.prog 7 #[wv D, .int .u8 n] w fun e w' => e = .returned (.bool true) ∧ Below w.heap.size w w' := by
  have mixed : Tryz.prog.follows .mixedOrders = true := by kernel_rfl
  have hb0 := al w (.cells (wcs D) 25)
  obtain ⟨⟨x0, x1, x2⟩, hp1, hf1⟩ := box_of hp hf
  have HV := small_any _ D hp1 hf1
  obtain ⟨B, hB⟩ : ∃ B, w.heap.size = B := ⟨_, rfl⟩
  rw [hB] at x0 x1 x2
  have lB := clt x0
  dsimp only at lB
  cases hh : hvyW D with
  | true =>
    rw [hh] at HV
    dsimp only [wv, wcs] at HV x0 x1 x2 lB hb0 ⊢
    clear hp hf hp1 hf1 hh
    go_enter Tryz.func7, Tryz.ntmps7
    go_wp2_with fail
    refine HV.mono ?_
    rintro e w1 ⟨rfl, hb1⟩
    have hb1' := hb0.trans (hb1.mono hb0.size)
    clear HV
    go_wp2_with fail
    refine (shown_any w1).mono ?_
    rintro e w2 ⟨rfl, hb2⟩
    go_wp2_with fail
    go_ret
    exact ⟨rfl, hb1'.trans (hb2.mono hb1'.size)⟩
  | false =>
    have hW := ww_of hp1 hf1 hh
    rw [hh] at HV
    obtain ⟨W0, hW0⟩ : ∃ W0, W0 = w.alloc (.cells (wcs D) 25) := ⟨_, rfl⟩
    rw [← hW0] at HV x0 x1 x2 lB hb0 hW
    have HX : Hid (∀ W, Below W0.heap.size W0 W → BoxW W B D) := fun W hW' => (BoxW.mk x0 x1 x2 hW).below hW'
    obtain ⟨N, E, hNE⟩ : ∃ N E, wldE D = (N, E) := ⟨_, _, rfl⟩
    have HNE : Hid _ := hNE
    have HW0 : Hid _ := hW0
    have HBE : Hid _ := hB
    have HB0 : Hid _ := hb0
    have hfl := hW.fl
    dsimp only [wv, wcs] at HV HW0 ⊢
    rw [HW0.out] at HV x0 x1 x2 lB
    clear hp hf hp1 hf1 hh hW hNE hW0 hb0
    by_cases hE : E = 0
    · subst hE
      have hDen : Hid (OkD D) := okD_of HNE.out
      go_enter Tryz.func7, Tryz.ntmps7
      go_wp2_with fail
      refine HV.mono ?_
      rintro e w1 ⟨rfl, hb1⟩
      rw [← HW0.out] at hb1
      clear HV x0 x1 x2 lB
      obtain ⟨x0, x1, x2, hW1⟩ := HX.out w1 hb1
      have lB : B < w1.heap.size := clt x0
      have C1 := Lv.new hb1 hW1 HNE.out
      dsimp only [wv] at C1
      clear hW1
      go_wp2_with fail
      refine C1.mono ?_
      rintro e w2 ⟨rb, rfl, hL2, hb2⟩
      have hb2' := hL2.bel
      clear x0 x1 x2 lB
      obtain ⟨x0, x1, x2, hW2⟩ := HX.out w2 hb2'
      have lB : B < w2.heap.size := clt x0
      have C2 := rwcheck_any w2 D hW2
      rw [HNE.out] at C2
      dsimp only [wv] at C2
      have HL2 : Hid _ := hL2
      clear C1 hW2 hL2 hb1 hb2
      go_wp2_with fail
      refine C2.mono ?_
      rintro e w3 ⟨rfl, hb3⟩
      have S := shown_any w3
      have HL3 : Hid (Lv W0 rb D (newR D) w3) := Lv.below (Hid.out HL2) hb3
      clear C2 x0 x1 x2 lB
      go_wp2_with fail
      refine S.mono ?_
      rintro e w4 ⟨rfl, hb4⟩
      have HL4 : Hid (Lv W0 rb D (newR D) w4) := Lv.below (Hid.out HL3) hb4
      clear S hb3 hb4 hb2'
      obtain ⟨Q, hQ⟩ : ∃ Q : Nat, n % 30 = (Q : Int) := ⟨(n % 30).toNat, by omega⟩
      have hQ2 : Q < 30 := by omega
      have hQt : n.tmod 30 = (Q : Int) := by rw [Int.tmod_eq_emod_of_nonneg hn.1]; exact hQ
      have C4 := Lv.steps (Hid.out HL4) Q (by show 0 + Q ≤ 500; omega)
      obtain ⟨NR, hNR⟩ : ∃ NR, stpsR D Q (newR D) = NR := ⟨_, rfl⟩
      have hdn := stps_dn D Q (newR D)
      rw [hNR] at C4 hdn
      have hdn2 : NR.2.dn.length ≤ 30 := by have : (newR D).dn.length = 0 := rfl; omega
      clear hNR hdn
      go_wp2_with fail
      refine C4.mono ?_
      rintro e w5 ⟨rfl, hL5⟩
      have C5 := hL5.waiting (by omega)
      have hwl := hL5.wl
      have hI := hL5.inv
      have HI : Hid _ := hI
      have HL5 : Hid _ := hL5
      obtain ⟨nn, r, hr⟩ : ∃ nn r, NR = (nn, r) := ⟨NR.1, NR.2, rfl⟩
      subst hr
      dsimp only at hwl HI HL5 C5 hdn2
      clear C4 hL5 hI HL4
      go_wp2_with fail
      refine C5.mono ?_
      rintro e w6 ⟨a6, c6, rfl, hR6⟩
      have HR6 : Hid _ := hR6
      clear C5 hR6
      have HBX : Hid (∀ W, Below w5.heap.size w5 W → W.cell? ⟨B, 1, none⟩ = some (.slice D.fa D.fs.length D.fc) ∧ B < W.heap.size) := fun W hW => by
        obtain ⟨_, y1, _, _⟩ := HX.out W ((Lv.below (Hid.out HL5) hW).bel)
        exact ⟨y1, clt y1⟩
      go_wp2_with fail
      go_loopw [9, 10] (fun s9 s10 wr => ∃ (f : Nat) (a : Option Addr) (c : Nat) (L : List M), s9 = .slice a L.length c ∧ s10 = .int .i64 f ∧ f ≤ D.fs.length ∧ RowM w5 wr (.slice a L.length c) L ∧ Hid (L = cntL r f)) (fun _ s10 _ => D.fs.length - (intOf s10).toNat)
      case atStart => exact ⟨0, a6, c6, r.wt, rfl, rfl, Nat.zero_le _, HR6.out, (by simp [cntL] : r.wt = cntL r 0)⟩
      case round =>
        clear HR6
        obtain ⟨f, a, c, L, rfl, rfl, hf, hRow, HLL⟩ := hrel
        obtain ⟨y1, lB⟩ := HBX.out wr hRow.2
        have hLn : L.length ≤ 2000 := by
          rw [HLL.out]
          have h1 := cntL_len r f
          have h2 : f * r.dn.length ≤ 20 * 30 := Nat.mul_le_mul (by omega) (by omega)
          omega
        by_cases hfl2 : f < D.fs.length
        · have hf' : (f : Int) < (D.fs.length : Int) := by omega
          have C := (Lv.below (Hid.out HL5) hRow.2).row (f : Int) (by omega)
          have hlen : (logR r (f : Int)).length ≤ 30 := Nat.le_trans (logR_le _ _) hdn2
          obtain ⟨l, hl⟩ : ∃ l, logR r (f : Int) = l := ⟨_, rfl⟩
          rw [hl] at C hlen
          have HLG : Hid _ := hl
          have HRow : Hid _ := hRow
          clear hl hRow
          go_wp2_with fail
          refine C.mono ?_
          rintro e w7 ⟨a7, c7, rfl, hD7, hb7⟩
          have HD7 : Hid _ := hD7
          have HRow7 : Hid (RowM w5 w7 (.slice a L.length c) L) := RowM.below (Hid.out HRow) hb7
          have HAP : Hid (∀ k, (Value.slice a7 l.length c7).ownBlock = some k → (Value.slice a L.length c).ownBlock ≠ some k) := fun k h1 h2 => by
            have g1 := (own_lt hD7 h1).2
            have g2 := (own_lt (Hid.out HRow).1 h2).1
            omega
          clear C hD7 hb7 y1 lB
          go_wp2_with fail
          go_loopw [9, 12] (fun s9 s12 wx => ∃ (i : Nat) (a : Option Addr) (c : Nat) (L2 : List M), s9 = .slice a L2.length c ∧ s12 = .int .i64 i ∧ i ≤ l.length ∧ RowM w5 wx (.slice a L2.length c) L2 ∧ wx.ownsRow w5.heap.size 40 7 (.slice a7 l.length c7) l.length (flatD l) ∧ (∀ k, (Value.slice a7 l.length c7).ownBlock = some k → (Value.slice a L2.length c).ownBlock ≠ some k) ∧ Hid (L2 = L ++ (l.map (·.m)).take i)) (fun _ s12 _ => l.length - (intOf s12).toNat)
          case atStart => exact ⟨0, a, c, L, rfl, rfl, Nat.zero_le _, HRow7.out, own_since HD7.out (Hid.out HRow).2.size, HAP.out, (by simp : L = L ++ (l.map (·.m)).take 0)⟩
          case round =>
            clear HRow7 HD7 HRow HAP
            obtain ⟨i, a, c, L2, rfl, rfl, hi, hRow, hRD, hAP, HL2e⟩ := hrel
            have hL2 : L2.length ≤ 3000 := by
              rw [HL2e.out, List.length_append, List.length_take]
              simp
              omega
            by_cases hil : i < l.length
            · have hi' : (i : Int) < (l.length : Int) := by omega
              obtain ⟨x, hx⟩ : ∃ x, nthD l i = x := ⟨_, rfl⟩
              obtain ⟨b, off, hab, hbb, p0, p1, p2, p3, p4, p5, p6⟩ := (rdD_row hRD).cells hil hx
              subst hab
              obtain ⟨L3, hL3⟩ : ∃ L3, L2 ++ [x.m] = L3 := ⟨_, rfl⟩
              obtain ⟨a', c', w8, hrun, hro, hfr, hnw⟩ := push1 hRow.1 hRow.2.size x.m (by omega) 45 L3 hL3
              have HRUN : Hid _ := hrun
              have HFin : Hid (RowM w5 w8 (.slice a' L3.length c') L3 ∧ w8.ownsRow w5.heap.size 40 7 (.slice (some ⟨b, off, none⟩) l.length c7) l.length (flatD l) ∧ (∀ k, (Value.slice (some ⟨b, off, none⟩) l.length c7).ownBlock = some k → (Value.slice a' L3.length c').ownBlock ≠ some k)) := by
                refine ⟨⟨hro, hRow.2.trans (hfr.below hRow.2.size (fun k hk => (own_lt hRow.1 hk).2))⟩, own_keep hRD hfr (fun k hk => hAP k hk), fun k h1 h2 => ?_⟩
                rcases hnw k h2 with g | g
                · exact hAP k h1 g
                · have := (own_lt hRD h1).1; omega
              have HL3 : Hid (L3 = L ++ (l.map (·.m)).take (i + 1)) := by
                show L3 = _
                rw [mapM_take hil, hx, ← List.append_assoc, ← HL2e.out]
                exact hL3.symm
              dsimp only [mcs] at HRUN
              clear hx hRow hRD hAP hrun hro hfr hnw hL3
              go_wp2_with (at_builtin; refine wpList_append_run _ rfl _ _ 45 rfl rfl rfl HRUN.out ?_)
              go_roundw
              case rel => exact ⟨i + 1, a', c', L3, rfl, by go_num, by omega, (Hid.out HFin).1, (Hid.out HFin).2.1, (Hid.out HFin).2.2, HL3.out⟩
              case measure => simp [intOf]; omega
            · obtain rfl : i = l.length := by omega
              have HRW : Hid _ := hRow
              have HLn : Hid (L2 = cntL r (f + 1)) := by
                show L2 = _
                rw [HL2e.out, cntL_succ, HLG.out, ← HLL.out, List.take_of_length_le (by simp)]
              clear hRow hRD hAP
              go_wp2_with fail
              go_roundw
              case rel => exact ⟨f + 1, a, c, L2, rfl, by go_num, by omega, HRW.out, HLn.out⟩
              case measure => simp [intOf]; omega
        · obtain rfl : f = D.fs.length := by omega
          obtain ⟨WR, hWR⟩ : ∃ WR, WR = wr := ⟨_, rfl⟩
          subst hWR
          obtain ⟨aa, cc, ee, hrdL⟩ := hRow.rd
          simp at ee
          obtain ⟨rfl, rfl⟩ := ee
          have HRD : Hid _ := hrdL
          have HMem : Hid (∀ x ∈ L, (0 ≤ x.fr ∧ x.fr < (D.fs.length : Int)) ∧ x.dst ≠ x.fr ∧ 0 ≤ x.sq) := fun x hx => by
            rw [HLL.out] at hx
            obtain ⟨m1, m2, m3, m4, m5⟩ := (Hid.out HI).mem x (cntL_mem hx)
            exact ⟨m1, m3, m4.1⟩
          have HPair : Hid (∀ k i, k < i → i < L.length → (nthM L k).fr = (nthM L i).fr → (nthM L k).sq = (nthM L i).sq → (nthM L k).t = (nthM L i).t ∧ (nthM L k).cl = (nthM L i).cl ∧ (nthM L k).bd = (nthM L i).bd ∧ (nthM L k).dst ≠ (nthM L i).dst) := fun k i hk hi e1 e2 => by
            have m1 : nthM L k ∈ L := (memM L _).2 ⟨k, by omega, rfl⟩
            have m2 : nthM L i ∈ L := (memM L _).2 ⟨i, hi, rfl⟩
            have hap : Apt (nthM L k) (nthM L i) := by
              have := List.pairwise_iff_getElem.1 (cntL_apt (Hid.out HI) D.fs.length) k i (by rw [← HLL.out]; omega) (by rw [← HLL.out]; exact hi) hk
              simp only [← HLL.out] at this
              have q1 : nthM L k = L[k] := by simp [nthM, show k < L.length by omega]
              have q2 : nthM L i = L[i] := by simp [nthM, hi]
              rw [q1, q2]
              exact this
            have m1' : nthM L k ∈ allR r := cntL_mem (by rw [← HLL.out]; exact m1)
            have m2' : nthM L i ∈ allR r := cntL_mem (by rw [← HLL.out]; exact m2)
            obtain ⟨u1, u2, u3⟩ := (Hid.out HI).uni _ m1' _ m2' e1 e2
            refine ⟨u1, u2, u3, fun e3 => ?_⟩
            rcases hap with g | g | g
            · exact g e1
            · exact g e2
            · exact g e3
          have HBL : Hid _ := hRow.2
          clear hRow hrdL
          go_wp2_with fail
          go_loopw [13] (fun s13 wx => ∃ (i : Nat), s13 = .int .i64 i ∧ i ≤ L.length ∧ Below WR.heap.size WR wx) (fun s13 _ => L.length - (intOf s13).toNat)
          case atStart => exact ⟨0, rfl, Nat.zero_le _, Below.refl _ _⟩
          case round =>
            clear y1 lB
            obtain ⟨i, rfl, hi, hbw⟩ := hrel
            have hb5 := (Hid.out HBL).trans (hbw.mono (Hid.out HBL).size)
            by_cases hil : i < L.length
            · have hi' : (i : Int) < (L.length : Int) := by omega
              obtain ⟨m, hm⟩ : ∃ m, nthM L i = m := ⟨_, rfl⟩
              obtain ⟨⟨f0, f1⟩, f2, f3⟩ := HMem.out m ((memM L m).2 ⟨i, hil, hm⟩)
              obtain ⟨y1, lB⟩ := HBX.out wr hb5
              have hrd := RdM.below (Hid.out HRD) hbw
              obtain ⟨b, off, hab, hbb, p0, p1, p2, p3, p4, p5⟩ := hrd.cells hil hm
              obtain ⟨W10, hW10⟩ : ∃ W10, W10 = wr.alloc (.cells #[.int .i64 m.t, .int .i64 m.fr, .int .i64 m.sq, .int .i64 m.dst, .int .i64 m.cl, .int .i64 m.bd] 38) := ⟨_, rfl⟩
              have hb10 : Below wr.heap.size wr W10 := by rw [hW10]; exact al _ _
              have hbm : BoxM W10 wr.heap.size m := by rw [hW10]; exact BoxM.new wr m
              obtain ⟨MB, hMB⟩ : ∃ MB, wr.heap.size = MB := ⟨_, rfl⟩
              rw [hMB] at hbm
              have lBM : B < MB := by omega
              have lBN : ¬ B = MB := by omega
              have HBM : Hid _ := hbm
              have HM : Hid _ := hm
              have HRD10 : Hid (RdM W10 a L) := hrd.below hb10
              have HW10 : Hid _ := hW10
              have HB10 : Hid (Below WR.heap.size WR W10) := hbw.trans (hb10.mono hbw.size)
              subst hab
              have k1 : ¬ m.sq < 0 := by omega
              have k2 : ¬ m.fr < 0 := by omega
              have k3 : ¬ (D.fs.length : Int) ≤ m.fr := by omega
              have k4 : (m.fr == m.dst) = false := by simpa using fun e => f2 e.symm
              have k5 : ¬ m.fr = m.dst := fun e => f2 e.symm
              have d1 : decide (m.sq < 0) = false := decide_eq_false k1
              have d2 : decide (m.fr < 0) = false := decide_eq_false k2
              have d3 : decide (m.fr ≥ (D.fs.length : Int)) = false := decide_eq_false (by omega)
              clear hm hrd hW10 hb10 hbm hbw hb5 f0 f1 f2 f3
              go_wp2_with fail
              rw [← HW10.out]
              clear y1 lB lBM lBN p0 p1 p2 p3 p4 p5 k1 k2 k3 k4 k5 d1 d2 d3 hMB hbb
              go_loopw [15] (fun s15 wy => ∃ (k : Nat), s15 = .int .i64 k ∧ k ≤ i ∧ Below W10.heap.size W10 wy) (fun s15 _ => i - (intOf s15).toNat)
              case atStart => exact ⟨0, rfl, Nat.zero_le _, Below.refl _ _⟩
              case round =>
                obtain ⟨k, rfl, hk, hbw⟩ := hrel
                by_cases hki : k < i
                · have hk' : (k : Int) < (i : Int) := by omega
                  have hk2 : (k : Int) < (L.length : Int) := by omega
                  obtain ⟨v, hv⟩ : ∃ v, nthM L k = v := ⟨_, rfl⟩
                  obtain ⟨b', off', hab, hbb, q0, q1, q2, q3, q4, q5⟩ := (RdM.below (Hid.out HRD10) hbw).cells (i := k) (by omega) hv
                  simp at hab
                  obtain ⟨rfl, rfl⟩ := hab
                  obtain ⟨p0, p1, p2, p3, p4, p5, _⟩ := (BoxM.below (Hid.out HBM) hbw).cells
                  have lMB : MB < wr.heap.size := clt p0
                  have hpr := HPair.out k i hki hil
                  rw [hv, HM.out] at hpr
                  have HBW : Hid _ := hbw
                  clear hv hbw
                  by_cases e1 : v.fr = m.fr
                  · by_cases e2 : v.sq = m.sq
                    · obtain ⟨u1, u2, u3, u4⟩ := hpr e1 e2
                      have t1 : (v.fr == m.fr) = true := by simpa using e1
                      have t2 : (v.sq == m.sq) = true := by simpa using e2
                      have t3 : (v.t != m.t) = false := by simpa using u1
                      have t4 : (v.cl != m.cl) = false := by simpa using u2
                      have t5 : (v.bd != m.bd) = false := by simpa using u3
                      have t6 : (v.dst == m.dst) = false := by simpa using u4
                      clear hpr
                      go_wp2_with fail
                      go_roundw
                      case rel => exact ⟨k + 1, by go_num, by omega, (Hid.out HBW).trans ((al wr _).mono (Hid.out HBW).size)⟩
                      case measure => simp [intOf]; omega
                    · have t1 : (v.fr == m.fr) = true := by simpa using e1
                      have t2 : (v.sq == m.sq) = false := by simpa using e2
                      clear hpr
                      go_wp2_with fail
                      go_roundw
                      case rel => exact ⟨k + 1, by go_num, by omega, (Hid.out HBW).trans ((al wr _).mono (Hid.out HBW).size)⟩
                      case measure => simp [intOf]; omega
                  · have t1 : (v.fr == m.fr) = false := by simpa using e1
                    clear hpr
                    go_wp2_with fail
                    go_roundw
                    case rel => exact ⟨k + 1, by go_num, by omega, (Hid.out HBW).trans ((al wr _).mono (Hid.out HBW).size)⟩
                    case measure => simp [intOf]; omega
                · have hnk : ¬ (k : Int) < (i : Int) := by omega
                  have HBW : Hid _ := hbw
                  clear hbw
                  go_wp2_with fail
                  go_roundw
                  case rel => exact ⟨i + 1, by go_num, by omega, (Hid.out HB10).trans ((Hid.out HBW).mono (Hid.out HB10).size)⟩
                  case measure => simp [intOf]; omega
            · have hni : ¬ (i : Int) < (L.length : Int) := by omega
              have HBF : Hid (Below w.heap.size w wr) := by
                have h1 := (Hid.out HB0).trans ((Lv.bel (Hid.out HL5)).mono (Hid.out HB0).size)
                exact h1.trans (hb5.mono h1.size)
              clear hbw hb5
              go_wp2_with fail
              go_ret
              exact ⟨rfl, by first | exact HBF.out | (rw [← HBE.out]; exact HBF.out)⟩
    · have k1 : (E != 0) = true := by simpa using hE
      go_enter Tryz.func7, Tryz.ntmps7
      go_wp2_with fail
      refine HV.mono ?_
      rintro e w1 ⟨rfl, hb1⟩
      rw [← HW0.out] at hb1
      clear HV x0 x1 x2 lB
      obtain ⟨x0, x1, x2, hW1⟩ := HX.out w1 hb1
      have lB : B < w1.heap.size := clt x0
      have C1 := new_bad hW1 HNE.out hE
      dsimp only [wv] at C1
      clear hW1
      go_wp2_with fail
      refine C1.mono ?_
      rintro e w2 ⟨rfl, hb2⟩
      have hb2' := hb1.trans (hb2.mono hb1.size)
      clear x0 x1 x2 lB
      obtain ⟨x0, x1, x2, hW2⟩ := HX.out w2 hb2'
      have lB : B < w2.heap.size := clt x0
      have C2 := rwcheck_any w2 D hW2
      rw [HNE.out] at C2
      dsimp only [wv] at C2
      clear C1 hW2 hb1 hb2
      go_wp2_with fail
      refine C2.mono ?_
      rintro e w3 ⟨rfl, hb3⟩
      have hb3' := hb2'.trans (hb3.mono hb2'.size)
      have S := shown_any w3
      clear C2 x0 x1 x2 lB
      go_wp2_with fail
      refine S.mono ?_
      rintro e w4 ⟨rfl, hb4⟩
      have hb4' := hb3'.trans (hb4.mono hb3'.size)
      go_wp2_with fail
      go_ret
      exact ⟨rfl, (HB0.out).trans (hb4'.mono (HB0.out).size)⟩
end Go.Proofs.YtmfcbalhabcodaaGreat
