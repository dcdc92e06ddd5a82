/- Proved: the walk of LbtsNext. -/
import Derived.Test.YtmkhgihhledegaaNxp
import Derived.Test.YtmkhgihhledegaaLab
namespace Go.Proofs.Ytmkhgihhledegaa
open Go.RowKit Go.Shelf
open L (Mb IsG lbt oth outM cnt vadd)
set_option linter.unusedVariables false

set_option maxRecDepth 100000 in
set_option maxHeartbeats 4000000 in
theorem next_walk (w : World) (sa : Option Addr) (sc : Nat) (fs : List Int) (hn : fs.length ≤ maxLen) (hz : InN .u16 65535 w sa fs) (la : Option Addr) (lc : Nat) (ls : List Int) (hln : ls.length ≤ maxLen) (hlz : InN .u8 255 w la ls) (a : Int) (ha : 0 ≤ a ∧ a ≤ 65535) :
    Calls Try.prog 6 #[.slice sa fs.length sc, .slice la ls.length lc, .int .u16 a] w fun e w' => e = .returned (.bool true) ∧ Below w.heap.size w w' := by
  unfold maxLen at hn hln
  have HT : Hid (InN .u16 65535 w sa fs) := hz
  have HL : Hid (InN .u8 255 w la ls) := hlz
  obtain ⟨a0, a1⟩ := ha
  obtain ⟨fn', hnn⟩ : ∃ fn', fs.length = fn' := ⟨_, rfl⟩
  obtain ⟨ln, hlnn⟩ : ∃ ln, ls.length = ln := ⟨_, rfl⟩
  have HN : Hid (fs.length = fn' ∧ ls.length = ln) := ⟨hnn, hlnn⟩
  rw [hnn] at hn ⊢
  rw [hlnn] at hln ⊢
  have NI : Hid (∀ W, Calls Try.prog 12 #[.slice none 0 0, .int .i64 3] W fun e w' => e = .returned (.int .i64 1125899906842624) ∧ Below W.heap.size W w') := fun W => pb_nil W 3
  clear hnn hlnn hz hlz
  by_cases hb : fn' = 0
  · subst hb
    go_enter Try.func6, Try.ntmps6
    go_wp2_with (go_at_call 12; refine (Hid.out NI _).mono ?_; rintro e w1 ⟨rfl, h1⟩; have B1 : Hid _ := h1; clear h1)
    go_ret
    exact ⟨rfl, B1.out⟩
  obtain ⟨n, hmin⟩ : ∃ n : Nat, min (fn' : Int) 8 = (n : Int) := ⟨min fn' 8, by omega⟩
  have hn0 : 0 < n := by omega
  have hn8 : n ≤ 8 := by omega
  have h1 : n ≤ 1000 := by omega
  have hnf : n ≤ fn' := by omega
  have hb2 : ((n : Int) == 0) = false := by simp; omega
  have hn0' : (n : Int) ≠ 0 := by omega
  have HNF : Hid (n ≤ fn') := hnf
  have HF : Hid (∀ j, j < n → 0 ≤ nthI fs j ∧ nthI fs j ≤ 65535) := fun j hj => HT.out.1 j (by rw [HN.out.1]; omega)
  have H0 : Hid _ := Mk.made (Below.refl w.heap.size w) (nxm fs ls)
  clear hb
  go_enter Try.func6, Try.ntmps6
  go_wp2_with fail
  go_loopw [8, 9, 10] (fun s8 s9 s10 wr => ∃ (k : Nat) (ra : Option Addr) (rc : Nat), s10 = .int .i64 k ∧ k ≤ n ∧ s8 = .slice ra k rc ∧ s9 = .int .i64 (bst fs k) ∧ Hid (Mk w wr (.slice ra k rc) (nxm fs ls) k)) (fun _ _ s10 _ => n - (intOf s10).toNat)
  case atStart => exact ⟨0, _, _, rfl, Nat.zero_le _, rfl, rfl, H0.out⟩
  case round =>
    obtain ⟨k, ra, rc, rfl, hk, rfl, rfl, HR⟩ := hrel
    by_cases hlt : k < n
    · have hlt' : (k : Int) < (n : Int) := by omega
      have hkf : k < fs.length := by rw [HN.out.1]; omega
      have hkf' : (k : Int) < (fn' : Int) := by omega
      obtain ⟨t0, t1, tb, toff, rfl, htb, htc⟩ := HT.out.cell hkf
      have ct := htc _ HR.out.bel
      obtain ⟨t, htt⟩ : ∃ t, nthI fs k = t := ⟨_, rfl⟩
      rw [htt] at t0 t1 ct
      obtain ⟨p, hp⟩ : ∃ p, bst fs k = p := ⟨_, rfl⟩
      have hpk : p ≤ k := by rw [← hp]; exact (bst_le fs k).1
      have hpf : p < fs.length := by omega
      have hpf' : (p : Int) < (fn' : Int) := by omega
      obtain ⟨p0, p1, tb2, toff2, e2, htb2, htc2⟩ := HT.out.cell hpf
      simp at e2
      obtain ⟨rfl, rfl⟩ := e2
      obtain ⟨y, hy⟩ : ∃ y, nthI fs p = y := ⟨_, rfl⟩
      rw [hy] at p0 p1
      have HTC : Hid (∀ W, Below w.heap.size w W → W.cell? ⟨tb, toff + k, none⟩ = some (.int .u16 t) ∧ W.cell? ⟨tb, toff + p, none⟩ = some (.int .u16 y)) := fun W hW => ⟨by rw [← htt]; exact htc W hW, by rw [← hy]; exact htc2 W hW⟩
      have HBS : Hid (bst fs (k + 1) = if t < y then k else p) := by
        show _ = _
        rw [← htt, ← hy, ← hp]
        rfl
      obtain ⟨lk, hlk⟩ : ∃ lk, lkI ls k = lk := ⟨_, rfl⟩
      obtain ⟨Z, hZ⟩ : ∃ Z, mkL (nxm fs ls) k = Z := ⟨_, rfl⟩
      obtain ⟨Y, hY⟩ : ∃ Y, mkL (nxm fs ls) (k + 1) = Y := ⟨_, rfl⟩
      have HX : Hid (Z ++ [⟨true, true, 0, lk, 2, 100000, t⟩] = Y ∧ Z.length = k ∧ Y.length = k + 1) := ⟨by rw [← hZ, ← hY, ← mkL_succ, ← htt, ← hlk]; rfl, by rw [← hZ, mkL_len], by rw [← hY, mkL_len]⟩
      have HYE : Hid (mkL (nxm fs ls) (k + 1) = Y) := hY
      unfold Mk at HR
      rw [hZ] at HR
      rw [hp]
      clear htc htc2 htt hy hp hZ hY
      by_cases c1 : k < ln
      · have c1' : (k : Int) < (ln : Int) := by omega
        obtain ⟨l0, l1, lb, loff, rfl, hlb, hlc⟩ := HL.out.cell (by rw [HN.out.2]; exact c1)
        have cl := hlc _ HR.out.bel
        have elk : 1 + nthI ls k = lk := by rw [← hlk]; unfold lkI; rw [if_pos (by rw [HN.out.2]; exact c1)]
        obtain ⟨z, hz⟩ : ∃ z, nthI ls k = z := ⟨_, rfl⟩
        rw [hz] at l0 l1 cl elk
        clear hlc hz hlk
        by_cases hty : t < y
        · have HB : Hid (bst fs (k + 1) = k) := HBS.out.trans (if_pos hty)
          clear HBS
          go_wp2_with (at_builtin; refine wpList_append_R tyL (fun _ => True) _ rfl (.tmp 37) (.tmp 45) rfl (.slice ra k rc) _ _ Z [⟨true, true, 0, lk, 2, 100000, t⟩] rfl rfl ((Hid.out HR).on (al _ _)).own (RdN.newAt cB _ _ _ _ _ (by simp) rfl trivial) (by rw [HX.out.2.1]; omega) (by simp) Y HX.out.1 ?_; intro ra' rc' w3 ho hm; have H3 : Hid (Rmk 33 w w3 (.slice ra' Y.length rc') Y) := ((Hid.out HR).on (al _ _)).app ho hm; obtain ⟨ct3, cb3⟩ := Hid.out HTC w3 (Hid.out H3).bel; clear ho hm)
          go_quiet (fail)
          go_wp2_with fail
          go_roundw
          case rel =>
            refine ⟨k + 1, ra', rc', by go_num, by omega, by rw [HX.out.2.2], by rw [HB.out], ?_⟩
            have := H3.out
            rw [HX.out.2.2, ← HYE.out] at this
            exact Rmk.on this ⟨rfl, rfl, rfl, Nat.le_refl _, fun _ _ => rfl⟩
          case measure => simp [intOf]; omega
        · have HB : Hid (bst fs (k + 1) = p) := HBS.out.trans (if_neg hty)
          clear HBS
          go_wp2_with (at_builtin; refine wpList_append_R tyL (fun _ => True) _ rfl (.tmp 37) (.tmp 45) rfl (.slice ra k rc) _ _ Z [⟨true, true, 0, lk, 2, 100000, t⟩] rfl rfl ((Hid.out HR).on (al _ _)).own (RdN.newAt cB _ _ _ _ _ (by simp) rfl trivial) (by rw [HX.out.2.1]; omega) (by simp) Y HX.out.1 ?_; intro ra' rc' w3 ho hm; have H3 : Hid (Rmk 33 w w3 (.slice ra' Y.length rc') Y) := ((Hid.out HR).on (al _ _)).app ho hm; obtain ⟨ct3, cb3⟩ := Hid.out HTC w3 (Hid.out H3).bel; clear ho hm)
          go_quiet (fail)
          go_wp2_with fail
          go_roundw
          case rel =>
            refine ⟨k + 1, ra', rc', by go_num, by omega, by rw [HX.out.2.2], by rw [HB.out], ?_⟩
            have := H3.out
            rw [HX.out.2.2, ← HYE.out] at this
            exact Rmk.on this ⟨rfl, rfl, rfl, Nat.le_refl _, fun _ _ => rfl⟩
          case measure => simp [intOf]; omega
      · have c1' : ¬ (k : Int) < (ln : Int) := by omega
        have elk : (1 : Int) = lk := by rw [← hlk]; unfold lkI; rw [if_neg (by rw [HN.out.2]; exact c1)]
        clear hlk
        subst elk
        by_cases hty : t < y
        · have HB : Hid (bst fs (k + 1) = k) := HBS.out.trans (if_pos hty)
          clear HBS
          go_wp2_with (at_builtin; refine wpList_append_R tyL (fun _ => True) _ rfl (.tmp 37) (.tmp 45) rfl (.slice ra k rc) _ _ Z [⟨true, true, 0, 1, 2, 100000, t⟩] rfl rfl ((Hid.out HR).on (al _ _)).own (RdN.newAt cB _ _ _ _ _ (by simp) rfl trivial) (by rw [HX.out.2.1]; omega) (by simp) Y HX.out.1 ?_; intro ra' rc' w3 ho hm; have H3 : Hid (Rmk 33 w w3 (.slice ra' Y.length rc') Y) := ((Hid.out HR).on (al _ _)).app ho hm; obtain ⟨ct3, cb3⟩ := Hid.out HTC w3 (Hid.out H3).bel; clear ho hm)
          go_quiet (fail)
          go_wp2_with fail
          go_roundw
          case rel =>
            refine ⟨k + 1, ra', rc', by go_num, by omega, by rw [HX.out.2.2], by rw [HB.out], ?_⟩
            have := H3.out
            rw [HX.out.2.2, ← HYE.out] at this
            exact Rmk.on this ⟨rfl, rfl, rfl, Nat.le_refl _, fun _ _ => rfl⟩
          case measure => simp [intOf]; omega
        · have HB : Hid (bst fs (k + 1) = p) := HBS.out.trans (if_neg hty)
          clear HBS
          go_wp2_with (at_builtin; refine wpList_append_R tyL (fun _ => True) _ rfl (.tmp 37) (.tmp 45) rfl (.slice ra k rc) _ _ Z [⟨true, true, 0, 1, 2, 100000, t⟩] rfl rfl ((Hid.out HR).on (al _ _)).own (RdN.newAt cB _ _ _ _ _ (by simp) rfl trivial) (by rw [HX.out.2.1]; omega) (by simp) Y HX.out.1 ?_; intro ra' rc' w3 ho hm; have H3 : Hid (Rmk 33 w w3 (.slice ra' Y.length rc') Y) := ((Hid.out HR).on (al _ _)).app ho hm; obtain ⟨ct3, cb3⟩ := Hid.out HTC w3 (Hid.out H3).bel; clear ho hm)
          go_quiet (fail)
          go_wp2_with fail
          go_roundw
          case rel =>
            refine ⟨k + 1, ra', rc', by go_num, by omega, by rw [HX.out.2.2], by rw [HB.out], ?_⟩
            have := H3.out
            rw [HX.out.2.2, ← HYE.out] at this
            exact Rmk.on this ⟨rfl, rfl, rfl, Nat.le_refl _, fun _ _ => rfl⟩
          case measure => simp [intOf]; omega
    · obtain rfl : k = n := by omega
      rename World => wA
      unfold Mk at HR
      obtain ⟨g, rfl, hcr⟩ := Cr.of HR.out (mkL_len _ _) hn0
      have HC : Hid (Cr w wA g k (mkL (nxm fs ls) k)) := hcr
      have HC2 : Hid (Cr w wA g k (mkL (mix fs ls a 0) k)) := by
        rw [mix_start]
        exact hcr
      obtain ⟨O, hG⟩ := L.G_ex (mkL (nxm fs ls) k)
      obtain ⟨P, hP⟩ := L.G_ex (mkL (nym ls a) k)
      have HP : Hid (IsG (mkL (nym ls a) k) P) := hP
      obtain ⟨p, hp⟩ : ∃ p, bst fs k = p := ⟨_, rfl⟩
      have hpk : p < k := by rw [← hp]; exact (bst_le fs k).2 hn0
      have hpf : p < fs.length := by rw [HN.out.1]; omega
      have hpf' : (p : Int) < (fn' : Int) := by omega
      obtain ⟨p0, p1, tb, toff, rfl, htb, htc⟩ := HT.out.cell hpf
      obtain ⟨y, hy⟩ : ∃ y, nthI fs p = y := ⟨_, rfl⟩
      rw [hy] at p0 p1 htc
      obtain ⟨v, hv⟩ : ∃ v, lbt (mkL (nxm fs ls) k) O p = v := ⟨_, rfl⟩
      have hvy : ¬ v ≤ y := by
        have := next_gt hG hn0 HF.out (p : Int)
        rw [hp, hy, hv] at this
        omega
      have PB : Hid (∀ W, Cr w W g k (mkL (nxm fs ls) k) → Calls Try.prog 12 #[.slice (some ⟨g, 0, none⟩) k rc, .int .i64 p] W fun e w' => e = .returned (.int .i64 v) ∧ Cr w w' g k (mkL (nxm fs ls) k)) := fun W hW => by
        rw [← hv]
        exact (pb_any hG hW.rd hW.len h1 p).mono fun e w' ⟨he, hb⟩ => ⟨he, hW.on hb⟩
      have HS : Hid (∀ W, Cr w W g k (mkL (nxm fs ls) k) → Cr w W g k (mkL (nxm fs ls) k) ∧ W.cell? ⟨tb, toff + p, none⟩ = some (.int .u16 y)) := fun W h => ⟨h, htc W h.bel⟩
      have KEEP0 : Hid _ := HS.out wA.drew (hcr.on (Below.refl _ _).drew)
      have B0 : Hid (Cr w wA.drew g k (mkL (nxm fs ls) k)) := hcr.on (Below.refl _ _).drew
      have cy := KEEP0.out.2
      rw [hp]
      clear hcr hG hP hp hv hy htc
      go_wp2_with fail
      go_region_held3 (fun w' => Cr w w' g k (mkL (nxm fs ls) k) ∧ w'.cell? ⟨tb, toff + p, none⟩ = some (.int .u16 y)) (first | exact Hid.out KEEP1 | exact Hid.out KEEP0 | (go_keep; done)) ((go_at_call 12; refine (Hid.out PB _ (Hid.out B0)).mono ?_; rintro e w4 ⟨rfl, h4⟩; have KEEP1 : Hid _ := (Hid.out HS) w4 h4; have B4 : Hid (Cr w w4 g k (mkL (mix fs ls a 0) k)) := (by rw [mix_start]; exact h4); clear h4))
      rw [show IntKind.i64.wrap y = y by rw [IntKind.wrap_i64]; omega]
      go_wp2_with fail
      go_loopw [12] (fun s12 wr => ∃ (j : Nat), s12 = .int .i64 j ∧ j ≤ k ∧ Hid (Cr w wr g k (mkL (mix fs ls a j) k))) (fun s12 _ => k - (intOf s12).toNat)
      case atStart => exact ⟨0, rfl, Nat.zero_le _, B4.out⟩
      case round =>
        obtain ⟨j, rfl, hj, HQ⟩ := hrel
        by_cases hlt2 : j < k
        · have hlt2' : (j : Int) < (k : Int) := by omega
          have q0 := HQ.out.c j hlt2
          have r6 := (q0 6 (by omega))
          have r5 := (q0 5 (by omega))
          obtain ⟨m, hm⟩ : ∃ m, L.nth (mkL (mix fs ls a j) k) j = m := ⟨_, rfl⟩
          rw [hm] at r5 r6
          have r6c : wr.cell? ⟨g, j * 7 + 6, none⟩ = some (.int .i64 m.fi) := r6.1
          have r6f := r6.2
          have r5p := set_o (W := wr) (q := g) (i := j * 7 + 6) (j := j * 7 + 5) (v := .int .i64 1125899906842624) (u := .int .i64 m.ak) (by omega) r5
          have HN2 : Hid _ := Cr.nxt HQ.out hlt2
          obtain ⟨X1, hX1⟩ : ∃ X1, wr.setCell ⟨g, j * 7 + 6, none⟩ (.int .i64 1125899906842624) = X1 := ⟨_, rfl⟩
          rw [hX1] at r5p HN2
          obtain ⟨r5c, r5f⟩ := r5p
          clear q0 r5 r6 hm
          go_wp2_with fail
          go_roundw
          case rel => exact ⟨j + 1, by go_num, by omega, HN2.out⟩
          case measure => simp [intOf]; omega
        · obtain rfl : j = k := by omega
          have HQ2 : Hid (Cr w wr g j (mkL (nym ls a) j)) := by
            rw [← mix_end fs ls a j]
            exact HQ.out
          clear HQ
          go_wp2_with fail
          go_loopw [13] (fun s13 wr => ∃ (i : Nat), s13 = .int .i64 i ∧ i ≤ j ∧ Hid (Cr w wr g j (mkL (nym ls a) j))) (fun s13 _ => j - (intOf s13).toNat)
          case atStart => exact ⟨0, rfl, Nat.zero_le _, HQ2.out⟩
          case round =>
            obtain ⟨i, rfl, hi, HQ3⟩ := hrel
            by_cases hlt3 : i < j
            · have hlt3' : (i : Int) < (j : Int) := by omega
              obtain ⟨v2, hv2⟩ : ∃ v2, lbt (mkL (nym ls a) j) P i = v2 := ⟨_, rfl⟩
              have hva : ¬ v2 ≤ a := by
                have := after_gt HP.out ⟨a0, a1⟩ (i : Int)
                rw [hv2] at this
                omega
              have PB2 : Hid (Calls Try.prog 12 #[.slice (some ⟨g, 0, none⟩) j rc, .int .i64 i] wr fun e w' => e = .returned (.int .i64 v2) ∧ Cr w w' g j (mkL (nym ls a) j)) := by
                rw [← hv2]
                exact (pb_any HP.out HQ3.out.rd HQ3.out.len h1 i).mono fun e w' ⟨he, hb⟩ => ⟨he, HQ3.out.on hb⟩
              clear hv2
              go_wp2_with (go_at_call 12; refine (Hid.out PB2).mono ?_; rintro e w5 ⟨rfl, h5⟩; have B5 : Hid _ := h5; clear h5)
              go_roundw
              case rel => exact ⟨i + 1, by go_num, by omega, B5.out⟩
              case measure => simp [intOf]; omega
            · obtain rfl : i = j := by omega
              go_wp2_with fail
              go_ret
              exact ⟨rfl, HQ3.out.bel⟩
    end Go.Proofs.Ytmkhgihhledegaa
