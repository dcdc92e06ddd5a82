/- Proved: the walk of LbtsGreatest. -/
import Derived.Test.YtmkhgihhledegaaGre
import Derived.Test.YtmkhgihhledegaaWTe
namespace Go.Proofs.Ytmkhgihhledegaa
open Go.RowKit Go.Shelf
open L (Mb IsG lbt oth outM outF cnt vadd)
set_option linter.unusedVariables false

set_option maxRecDepth 100000 in
set_option maxHeartbeats 4000000 in
theorem greatest_walk (w : World) (sa : Option Addr) (sc : Nat) (l : List Mb) (hn : l.length ≤ maxLen) (hz : RdN cB (fun _ => True) w sa l) (ma : Option Addr) (mc : Nat) (ms : List Int) (hmn : ms.length ≤ maxLen) (hmz : InN .u16 65535 w ma ms) :
    Calls Try.prog 4 #[.slice sa l.length sc, .slice ma ms.length mc] w fun e w' => e = .returned (.bool true) ∧ Below w.heap.size w w' := by
  unfold maxLen at hn hmn
  obtain ⟨n, hnn⟩ : ∃ n, l.length = n := ⟨_, rfl⟩
  obtain ⟨mn, hmnn⟩ : ∃ mn, ms.length = mn := ⟨_, rfl⟩
  rw [hnn] at hn ⊢
  rw [hmnn] at hmn ⊢
  by_cases hb : 8 < n
  · have hb' : (8 : Int) < (n : Int) := by omega
    clear hnn hz hmnn hmz
    go_enter Try.func4, Try.ntmps4
    go_wp2
    go_ret
    exact ⟨rfl, Below.refl _ _⟩
  have hb' : ¬ (8 : Int) < (n : Int) := by omega
  have h1 : n ≤ 1000 := by omega
  obtain ⟨O, hG⟩ := L.G_ex l
  have HZ : Hid (RdN cB (fun _ => True) w sa l) := hz
  have HMZ : Hid (InN .u16 65535 w ma ms) := hmz
  have HN : Hid (l.length = n ∧ ms.length = mn) := ⟨hnn, hmnn⟩
  have HG : Hid (IsG l O) := hG
  have PO : Hid (Calls Try.prog 9 #[.slice sa n sc] w fun e w' => ∃ bo, e = .returned (rowV bo n) ∧ Rv w' bo n (iv O) ∧ w.heap.size ≤ bo ∧ Below w.heap.size w w') := po_any hG hz hnn h1
  have TH : Hid (∀ W, Below w.heap.size w W → Calls Try.prog 11 #[.slice sa n sc] W fun e w' => ∃ a' c', e = .returned (.slice a' n c') ∧ RdN cB (fun _ => True) w' a' l ∧ Below W.heap.size W w') := fun W hW => theirs_any (hz.below hW) hnn h1
  have DO : Hid (∀ W a' c', RdN cB (fun _ => True) W a' l → Calls Try.prog 10 #[.slice a' n c'] W fun e w' => ∃ oa oc o, e = .returned (.slice oa n oc) ∧ Ri W w' (.slice oa n oc) o ∧ o.length = n ∧ ∀ j, j < n → o.getD j 0 = O j) := fun W a' c' hr => do_any hG hr hnn h1
  obtain ⟨U, hU⟩ : ∃ U, Uf l O ms = U := ⟨_, rfl⟩
  have HGR : Hid (fts l U n = true → hig U O n = false) := fun h => by
    rw [← hU] at h ⊢
    exact great hnn hG (fun j hj => (hmz.1 j hj).1) h
  have HU : Hid (Uf l O ms = U) := hU
  clear hnn hz hn hb hG hmnn hmz hU
  go_enter Try.func4, Try.ntmps4
  go_wp2_with (first
    | (go_at_call 9; refine (Hid.out PO).mono ?_; rintro e w1 ⟨bo, rfl, hr1, _, hb1⟩; have R1 : Hid (Rv w1 bo n (iv O)) := hr1; have B1 : Hid (Below w.heap.size w w1) := hb1; clear hr1 hb1)
    | (go_at_call 11; refine (Hid.out TH _ (Hid.out B1)).mono ?_; rintro e w2 ⟨a', c', rfl, hr2, hb2⟩; have M2 : Hid (RdN cB (fun _ => True) w2 a' l) := hr2; have R2 : Hid (Rv w2 bo n (iv O)) := (Hid.out R1).below hb2; have B2 : Hid (Below w.heap.size w w2) := Below.on (Hid.out B1) hb2; clear hr2 hb2)
    | (go_at_call 10; refine (Hid.out DO _ _ _ (Hid.out M2)).mono ?_; rintro e w3 ⟨oa, oc, o, rfl, hr3, hlo, hoo⟩; have L3 : Hid (LT w w3 n bo O oa o) := ⟨Below.on (Hid.out B2) hr3.bel, (Hid.out R2).below hr3.bel, hr3.own.rdI.2⟩; have HLO : Hid (o.length = n ∧ ∀ j, j < n → o.getD j 0 = O j) := ⟨hlo, hoo⟩; clear hr3 hlo hoo; have H0 : Hid _ := Ri.made (Below.refl w3.heap.size w3)))
  go_loopw [7, 8, 9] (fun s7 s8 s9 wr => ∃ (k : Nat) (ua : Option Addr) (uc : Nat), s9 = .int .i64 k ∧ k ≤ n ∧ s7 = .slice ua k uc ∧ s8 = .bool (hig U O k) ∧ Hid (Ri w3 wr (.slice ua k uc) (ul U k))) (fun _ _ s9 _ => n - (intOf s9).toNat)
  case atStart => exact ⟨0, _, _, rfl, Nat.zero_le _, rfl, rfl, H0.out⟩
  case round =>
    obtain ⟨k, ua, uc, rfl, hk, rfl, rfl, HR⟩ := hrel
    by_cases hlt : k < n
    · have hlt' : (k : Int) < (n : Int) := by omega
      obtain ⟨x, hx⟩ : ∃ x, O k = x := ⟨_, rfl⟩
      have HLW : Hid (∀ W, Below w3.heap.size w3 W → W.cell? ⟨bo, k, none⟩ = some (.int .i64 x)) := fun W hW => (L3.out.on hW).ro.atI hlt hx
      have cx := HLW.out _ HR.out.bel
      obtain ⟨m, hm⟩ : ∃ m, L.nth l k = m := ⟨_, rfl⟩
      obtain ⟨b, off, rfl, hbm, m0, _⟩ := RdN.mb (HZ.out.below (Below.trans L3.out.bel (HR.out.bel.mono L3.out.bel.size))) (by rw [HN.out.1]; exact hlt) hm
      obtain ⟨re, hre⟩ : ∃ re, m.re = re := ⟨_, rfl⟩
      rw [hre] at m0
      obtain ⟨u, hu⟩ : ∃ u, U k = u := ⟨_, rfl⟩
      obtain ⟨hh, hhh⟩ : ∃ hh, hig U O k = hh := ⟨_, rfl⟩
      have HHS : Hid (hig U O (k + 1) = (hh || decide (x < u))) := by
        show _ = _
        rw [← hhh, ← hx, ← hu]
        rfl
      obtain ⟨Z, hZ⟩ : ∃ Z, ul U k = Z := ⟨_, rfl⟩
      obtain ⟨Y, hY⟩ : ∃ Y, ul U (k + 1) = Y := ⟨_, rfl⟩
      have HX : Hid (Z ++ [u] = Y ∧ Z.length = k ∧ Y.length = k + 1) := ⟨by rw [← hZ, ← hY, ← hu]; exact ul_succ U k, by rw [← hZ, ul_len], by rw [← hY, ul_len]⟩
      have HYE : Hid (ul U (k + 1) = Y) := hY
      rw [hZ] at HR
      rw [hhh]
      have HUK : Hid (u = if k < mn ∧ re = true then vadd x (nthI ms k) else x) := by
        show _ = _
        rw [← hu, ← HU.out, ← HN.out.2, ← hre, ← hm, ← hx]
        rfl
      clear hZ hY hu hhh hm hre hx
      by_cases c1 : k < mn
      · have c1' : (k : Int) < (mn : Int) := by omega
        cases re
        · obtain rfl : u = x := HUK.out.trans (if_neg (fun g => by cases g.2))
          have AD : Hid True := trivial
          cases hh
          · have HV : Hid (hig U O (k + 1) = false) := HHS.out.trans (by simp)
            clear HHS
            go_wp2_with (first
              | (go_at_call 14; refine (Hid.out AD _).mono ?_; rintro e w4 ⟨rfl, rfl⟩)
              | (at_builtin; refine wpList_append_R tyI (fun _ => True) _ rfl (.tmp 71) (.tmp 73) rfl (.slice ua k uc) _ _ Z [u] rfl rfl ((Hid.out HR).on (al _ _)).own (RdN.newAt cI _ _ _ _ _ (by simp) rfl trivial) (by rw [HX.out.2.1]; omega) (by simp) Y HX.out.1 ?_; intro ua2 uc2 w5 ho hm; have H5 : Hid (Ri w3 w5 (.slice ua2 Y.length uc2) Y) := ((Hid.out HR).on (al _ _)).app ho hm; clear ho hm))
            go_roundw
            case rel =>
              refine ⟨k + 1, ua2, uc2, by go_num, by omega, by rw [HX.out.2.2], by rw [HV.out], ?_⟩
              have := H5.out
              rw [HX.out.2.2, ← HYE.out] at this
              exact this
            case measure => simp [intOf]; omega
          · have HV : Hid (hig U O (k + 1) = true) := HHS.out.trans (by simp)
            clear HHS
            go_wp2_with (first
              | (go_at_call 14; refine (Hid.out AD _).mono ?_; rintro e w4 ⟨rfl, rfl⟩)
              | (at_builtin; refine wpList_append_R tyI (fun _ => True) _ rfl (.tmp 71) (.tmp 73) rfl (.slice ua k uc) _ _ Z [u] rfl rfl ((Hid.out HR).on (al _ _)).own (RdN.newAt cI _ _ _ _ _ (by simp) rfl trivial) (by rw [HX.out.2.1]; omega) (by simp) Y HX.out.1 ?_; intro ua2 uc2 w5 ho hm; have H5 : Hid (Ri w3 w5 (.slice ua2 Y.length uc2) Y) := ((Hid.out HR).on (al _ _)).app ho hm; clear ho hm))
            go_roundw
            case rel =>
              refine ⟨k + 1, ua2, uc2, by go_num, by omega, by rw [HX.out.2.2], by rw [HV.out], ?_⟩
              have := H5.out
              rw [HX.out.2.2, ← HYE.out] at this
              exact this
            case measure => simp [intOf]; omega
        · obtain ⟨t0, t1, tb, toff, rfl, htb, htc⟩ := HMZ.out.cell (by rw [HN.out.2]; exact c1)
          have ct := htc _ (Below.trans L3.out.bel (HR.out.bel.mono L3.out.bel.size))
          have huk : u = vadd x (nthI ms k) := HUK.out.trans (if_pos ⟨c1, rfl⟩)
          obtain ⟨t, htt⟩ : ∃ t, nthI ms k = t := ⟨_, rfl⟩
          rw [htt] at t0 t1 ct huk
          have AD : Hid (∀ W : World, Calls Try.prog 14 #[.int .i64 x, .int .i64 t] W fun e w' => e = .returned (.int .i64 u) ∧ W = w') := fun W => by rw [huk]; exact refadd_any x t W
          clear htc htt huk HUK
          cases hh
          · have HV : Hid (hig U O (k + 1) = decide (x < u)) := HHS.out.trans (by simp)
            clear HHS
            go_wp2_with (first
              | (go_at_call 14; refine (Hid.out AD _).mono ?_; rintro e w4 ⟨rfl, rfl⟩)
              | (at_builtin; refine wpList_append_R tyI (fun _ => True) _ rfl (.tmp 71) (.tmp 73) rfl (.slice ua k uc) _ _ Z [u] rfl rfl ((Hid.out HR).on (al _ _)).own (RdN.newAt cI _ _ _ _ _ (by simp) rfl trivial) (by rw [HX.out.2.1]; omega) (by simp) Y HX.out.1 ?_; intro ua2 uc2 w5 ho hm; have H5 : Hid (Ri w3 w5 (.slice ua2 Y.length uc2) Y) := ((Hid.out HR).on (al _ _)).app ho hm; clear ho hm))
            go_roundw
            case rel =>
              refine ⟨k + 1, ua2, uc2, by go_num, by omega, by rw [HX.out.2.2], by rw [HV.out], ?_⟩
              have := H5.out
              rw [HX.out.2.2, ← HYE.out] at this
              exact this
            case measure => simp [intOf]; omega
          · have HV : Hid (hig U O (k + 1) = true) := HHS.out.trans (by simp)
            clear HHS
            go_wp2_with (first
              | (go_at_call 14; refine (Hid.out AD _).mono ?_; rintro e w4 ⟨rfl, rfl⟩)
              | (at_builtin; refine wpList_append_R tyI (fun _ => True) _ rfl (.tmp 71) (.tmp 73) rfl (.slice ua k uc) _ _ Z [u] rfl rfl ((Hid.out HR).on (al _ _)).own (RdN.newAt cI _ _ _ _ _ (by simp) rfl trivial) (by rw [HX.out.2.1]; omega) (by simp) Y HX.out.1 ?_; intro ua2 uc2 w5 ho hm; have H5 : Hid (Ri w3 w5 (.slice ua2 Y.length uc2) Y) := ((Hid.out HR).on (al _ _)).app ho hm; clear ho hm))
            go_roundw
            case rel =>
              refine ⟨k + 1, ua2, uc2, by go_num, by omega, by rw [HX.out.2.2], by rw [HV.out], ?_⟩
              have := H5.out
              rw [HX.out.2.2, ← HYE.out] at this
              exact this
            case measure => simp [intOf]; omega
      · have c1' : ¬ (k : Int) < (mn : Int) := by omega
        obtain rfl : u = x := HUK.out.trans (if_neg (fun g => c1 g.1))
        have AD : Hid True := trivial
        cases hh
        · have HV : Hid (hig U O (k + 1) = false) := HHS.out.trans (by simp)
          clear HHS
          go_wp2_with (first
            | (go_at_call 14; refine (Hid.out AD _).mono ?_; rintro e w4 ⟨rfl, rfl⟩)
            | (at_builtin; refine wpList_append_R tyI (fun _ => True) _ rfl (.tmp 71) (.tmp 73) rfl (.slice ua k uc) _ _ Z [u] rfl rfl ((Hid.out HR).on (al _ _)).own (RdN.newAt cI _ _ _ _ _ (by simp) rfl trivial) (by rw [HX.out.2.1]; omega) (by simp) Y HX.out.1 ?_; intro ua2 uc2 w5 ho hm; have H5 : Hid (Ri w3 w5 (.slice ua2 Y.length uc2) Y) := ((Hid.out HR).on (al _ _)).app ho hm; clear ho hm))
          go_roundw
          case rel =>
            refine ⟨k + 1, ua2, uc2, by go_num, by omega, by rw [HX.out.2.2], by rw [HV.out], ?_⟩
            have := H5.out
            rw [HX.out.2.2, ← HYE.out] at this
            exact this
          case measure => simp [intOf]; omega
        · have HV : Hid (hig U O (k + 1) = true) := HHS.out.trans (by simp)
          clear HHS
          go_wp2_with (first
            | (go_at_call 14; refine (Hid.out AD _).mono ?_; rintro e w4 ⟨rfl, rfl⟩)
            | (at_builtin; refine wpList_append_R tyI (fun _ => True) _ rfl (.tmp 71) (.tmp 73) rfl (.slice ua k uc) _ _ Z [u] rfl rfl ((Hid.out HR).on (al _ _)).own (RdN.newAt cI _ _ _ _ _ (by simp) rfl trivial) (by rw [HX.out.2.1]; omega) (by simp) Y HX.out.1 ?_; intro ua2 uc2 w5 ho hm; have H5 : Hid (Ri w3 w5 (.slice ua2 Y.length uc2) Y) := ((Hid.out HR).on (al _ _)).app ho hm; clear ho hm))
          go_roundw
          case rel =>
            refine ⟨k + 1, ua2, uc2, by go_num, by omega, by rw [HX.out.2.2], by rw [HV.out], ?_⟩
            have := H5.out
            rw [HX.out.2.2, ← HYE.out] at this
            exact this
          case measure => simp [intOf]; omega
    · obtain rfl : k = n := by omega
      rename World => wA
      have HUR : Hid (∀ W, Below wA.heap.size wA W → RdN cI (fun _ => True) W ua (ul U k)) := fun W hW => (HR.out.own.rdI.2).below hW
      have HRB := HR.out.bel
      have HBW : Hid (Below w.heap.size w wA) := Below.trans L3.out.bel (HRB.mono L3.out.bel.size)
      have HOR : Hid (∀ W, Below wA.heap.size wA W → RdN cI (fun _ => True) W (some ⟨bo, 0, none⟩) (ul O k)) := fun W hW => ((L3.out.on HRB).on hW).ro.rd trivial
      have HLW : Hid (LT w wA k bo O oa o) := L3.out.on HRB
      clear HRB
      go_wp2_with fail
      go_loopw [11, 12] (fun s11 s12 wr => ∃ (j : Nat), s12 = .int .i64 j ∧ j ≤ k ∧ s11 = .bool (fts l U j) ∧ Hid (Below wA.heap.size wA wr)) (fun _ s12 _ => k - (intOf s12).toNat)
      case atStart => exact ⟨0, rfl, Nat.zero_le _, rfl, Below.refl _ _⟩
      case round =>
        obtain ⟨j, rfl, hj, rfl, HQ⟩ := hrel
        by_cases hlt2 : j < k
        · have hlt2' : (j : Int) < (k : Int) := by omega
          obtain ⟨x, hx⟩ : ∃ x, O j = x := ⟨_, rfl⟩
          have HLQ : Hid (∀ W, Below wA.heap.size wA W → LT w W k bo O oa o) := fun W hW => HLW.out.on hW
          obtain ⟨ob, ooff, rfl, hob, dx⟩ := RdN.int (HLQ.out _ HQ.out).rd (by rw [HLO.out.1]; exact hlt2) ((HLO.out.2 j hlt2).trans hx)
          have HS : Hid (∀ W, Below wA.heap.size wA W → Below wA.heap.size wA W ∧ W.cell? ⟨bo, j, none⟩ = some (.int .i64 x) ∧ W.cell? ⟨ob, ooff + j, none⟩ = some (.int .i64 x)) := fun W h => by
            refine ⟨h, (HLQ.out _ h).ro.atI hlt2 hx, ?_⟩
            obtain ⟨b2, o2, e, _, c2⟩ := RdN.int (HLQ.out _ h).rd (by rw [HLO.out.1]; exact hlt2) ((HLO.out.2 j hlt2).trans hx)
            simp at e
            obtain ⟨rfl, rfl⟩ := e
            exact c2
          have FO : Hid (∀ W, Below wA.heap.size wA W → Calls Try.prog 15 #[.slice sa k sc, .slice (some ⟨bo, 0, none⟩) k k, .int .i64 j] W fun e w' => e = .returned (.bool true) ∧ Below wA.heap.size wA w') := fun W h => by
            have := fit_f (c := sc) (oc := k) (U := O) (HZ.out.below (HLQ.out _ h).bel) (HOR.out _ h) HN.out.1 h1 hlt2
            rw [← HG.out.fx j (by rw [HN.out.1]; exact hlt2)] at this
            exact this.mono fun e w' ⟨he, hb⟩ => ⟨by rw [he]; simp, Below.on h hb⟩
          obtain ⟨fv, hfv⟩ : ∃ fv, (U j == outF l U j) = fv := ⟨_, rfl⟩
          have FU : Hid (∀ W, Below wA.heap.size wA W → Calls Try.prog 15 #[.slice sa k sc, .slice ua k uc, .int .i64 j] W fun e w' => e = .returned (.bool fv) ∧ Below wA.heap.size wA w') := fun W h => by
            rw [← hfv]
            exact (fit_f (c := sc) (oc := uc) (U := U) (HZ.out.below (HLQ.out _ h).bel) (HUR.out _ h) HN.out.1 h1 hlt2).mono fun e w' ⟨he, hb⟩ => ⟨he, Below.on h hb⟩
          obtain ⟨ff, hff⟩ : ∃ ff, fts l U j = ff := ⟨_, rfl⟩
          have HFS : Hid (fts l U (j + 1) = (ff && fv)) := by
            show _ = _
            rw [← hff, ← hfv]
            rfl
          rw [hff]
          clear hx hff hfv dx hob
          cases ff
          · have HV : Hid (fts l U (j + 1) = false) := HFS.out.trans (by simp)
            have KEEP0 : Hid _ := HS.out _ ((HQ.out).drew)
            have B0 : Hid (Below wA.heap.size wA wr.drew) := HQ.out.drew
            clear HFS
            go_wp2_with fail
            go_region_held3 (fun w' => Below wA.heap.size wA w' ∧ w'.cell? ⟨bo, j, none⟩ = some (.int .i64 x) ∧ w'.cell? ⟨ob, ooff + j, none⟩ = some (.int .i64 x)) (first | exact Hid.out KEEP1 | exact Hid.out KEEP0 | (go_keep; done)) ((go_at_call 15; refine (Hid.out FO _ (Hid.out B0)).mono ?_; rintro e w7 ⟨rfl, h7⟩; have KEEP1 : Hid _ := (Hid.out HS) w7 h7; have B7 : Hid _ := h7; clear h7))
            all_goals
              go_wp2_with fail
              go_roundw
              case rel => exact ⟨j + 1, by go_num, by omega, by rw [HV.out], B7.out⟩
              case measure => simp [intOf]; omega
          · have HV : Hid (fts l U (j + 1) = fv) := HFS.out.trans (by simp)
            clear HFS
            go_wp2_with (go_at_call 15; refine (Hid.out FU _ (Hid.out HQ)).mono ?_; rintro e w6 ⟨rfl, h6⟩; have B6 : Hid _ := h6; have B6d : Hid (Below wA.heap.size wA w6.drew) := h6.drew; have KEEP0 : Hid _ := (Hid.out HS) w6.drew (h6.drew); clear h6)
            go_region_held3 (fun w' => Below wA.heap.size wA w' ∧ w'.cell? ⟨bo, j, none⟩ = some (.int .i64 x) ∧ w'.cell? ⟨ob, ooff + j, none⟩ = some (.int .i64 x)) (first | exact Hid.out KEEP1 | exact Hid.out KEEP0 | (go_keep; done)) ((go_at_call 15; refine (Hid.out FO _ (Hid.out B6d)).mono ?_; rintro e w7 ⟨rfl, h7⟩; have KEEP1 : Hid _ := (Hid.out HS) w7 h7; have B7 : Hid _ := h7; clear h7))
            all_goals
              go_wp2_with fail
              go_roundw
              case rel => exact ⟨j + 1, by go_num, by omega, by rw [HV.out], B7.out⟩
              case measure => simp [intOf]; omega
        · obtain rfl : j = k := by omega
          have HE : Hid (Below w.heap.size w wr) := Below.on HBW.out HQ.out
          obtain ⟨ff, hff⟩ : ∃ ff, fts l U j = ff := ⟨_, rfl⟩
          obtain ⟨hh, hhh⟩ : ∃ hh, hig U O j = hh := ⟨_, rfl⟩
          have HI : Hid (ff = true → hh = false) := by rw [← hff, ← hhh]; exact HGR.out
          rw [hff]
          try rw [hhh]
          clear hff
          cases hh
          · cases ff
            all_goals
              go_wp2_with fail
              go_ret
              exact ⟨rfl, HE.out⟩
          · obtain rfl : ff = false := by
              cases ff
              · rfl
              · exact absurd (HI.out rfl) (by decide)
            go_wp2_with fail
            go_ret
            exact ⟨rfl, HE.out⟩
    end Go.Proofs.Ytmkhgihhledegaa
