/- Proved: contracts of Settle and of Keys of the document's past. -/
import Derived.Test.YtgifanioeeacdaaDc2
import Derived.Test.YtgifanioeeacdaaPky
namespace Go.Proofs.Ytgifanioeeacdaa
open Go.RowKit Go.Shelf Go.Sort
set_option linter.unusedVariables false

set_option maxRecDepth 100000 in
set_option maxHeartbeats 4000000 in
theorem rsettle_any {Y : Nat → Prop} {w : World} {fl : Int} {L : List P} {b : Nat} (h : RP Y w fl L b) (t : Int) :
    Calls Try.prog 17 #[.pointer (some ⟨b, 0, none⟩), .int .i64 t] w (ROut Y w (max fl t) (gonT t L) (L.filter (fun x => !low t x)) b) := by
  obtain ⟨l, ra, rc, rfl, hq, hs⟩ := h
  obtain ⟨n, hn⟩ : ∃ n, l.length = n := ⟨_, rfl⟩
  obtain ⟨f, hf⟩ : ∃ f : E → Bool, f = fun x => low t x.p := ⟨_, rfl⟩
  obtain ⟨f', hf'⟩ : ∃ f' : E → Bool, f' = fun x => !low t x.p := ⟨_, rfl⟩
  have HFIN : Hid (∀ {W : World} {oa la : Option Addr} {oc lc mo ml : Nat}, (l.filter f).length = mo → (l.filter f').length = ml → R2 w W (.slice oa mo oc) (l.filter f) (.slice la ml lc) (l.filter f') → ROut Y w (max fl t) (gonT t (l.map E.p)) ((l.map E.p).filter (fun x => !low t x)) b (.returned (.slice oa mo oc)) ((W.setCell ⟨b, 1, none⟩ (.slice la ml lc)).setCell ⟨b, 0, none⟩ (.int .i64 (max fl t)))) := fun {W oa la oc lc mo ml} e1 e2 h2 => by
    subst e1 e2
    exact (rout_fin hq (Below.refl _ _) h2 (fun x hx => (List.mem_filter.1 hx).1) (fun x hx => (List.mem_filter.1 hx).1) (by have := hq.cap; have h9 : (l.filter f').length ≤ l.length := List.length_filter_le _ _; omega) (by rw [hf]; exact filter_p _ _) (by rw [hf']; exact filter_p (fun x => !low t x) _) (hs.filter _) (max fl t)).2
  have HRD : Hid (∀ W, Below w.heap.size w W → (W.cell? ⟨b, 1, none⟩ = some (.slice ra n rc) ∧ W.frozen? ⟨b, 1, none⟩ = false ∧ b < W.heap.size ∧ W.cell? ⟨b, 0, none⟩ = some (.int .i64 fl) ∧ W.frozen? ⟨b, 0, none⟩ = false) ∧ RdN cE (fun _ => True) W ra l) := fun W hW => by
    have c1 := (hq.below hW).c1
    rw [hn] at c1
    exact ⟨⟨c1, frozB (hq.below hW).blk 1, (hq.below hW).lt, (hq.below hW).c0, frozB (hq.below hW).blk 0⟩, (hq.below hW).row.wide (fun _ _ _ => trivial)⟩
  have HMD : Hid (R2 w ((w.alloc (.cells #[] 40)).alloc (.cells #[] 40)) (.slice (some ⟨w.heap.size, 0, none⟩) 0 0) [] (.slice (some ⟨w.heap.size + 1, 0, none⟩) 0 0) []) := R2.made w
  have HNL : Hid (l.length = n) := hn
  have HFF : Hid (f = fun x => low t x.p) := hf
  have HFF' : Hid (f' = fun x => !low t x.p) := hf'
  have hcap : n ≤ 64 := by rw [← hn]; exact hq.cap
  clear hq hs hn hf hf'
  go_enter Try.func17, Try.ntmps17
  go_wp2_with fail
  go_loopw [5, 6, 7] (fun s5 s6 s7 wr => ∃ (i : Nat) (oa la : Option Addr) (oc lc mo ml : Nat), s7 = .int .i64 i ∧ i ≤ n ∧ s5 = .slice oa mo oc ∧ s6 = .slice la ml lc ∧ mo ≤ i ∧ ml ≤ i ∧ Hid (((l.take i).filter f).length = mo) ∧ Hid (((l.take i).filter f').length = ml) ∧ Hid (R2 w wr (.slice oa mo oc) ((l.take i).filter f) (.slice la ml lc) ((l.take i).filter f'))) (fun _ _ s7 _ => n - (intOf s7).toNat)
  case atStart => exact ⟨0, _, _, _, _, 0, 0, rfl, Nat.zero_le _, rfl, rfl, Nat.le_refl _, Nat.le_refl _, (rfl : (([] : List E).filter f).length = 0), (rfl : (([] : List E).filter f').length = 0), HMD.out⟩
  case round =>
    obtain ⟨i, oa, la, oc, lc, mo, ml, rfl, hi, rfl, rfl, hmo, hml, HMO, HML, H2⟩ := hrel
    have HBW : Hid (Below w.heap.size w wr) := H2.out.l.bel
    obtain ⟨⟨q1, q2, lbw, q3, q4⟩, _⟩ := HRD.out wr HBW.out
    by_cases hlt : i < n
    · have hlt' : (i : Int) < (n : Int) := by omega
      have hil : i < l.length := by rw [HNL.out]; exact hlt
      obtain ⟨x, hx⟩ : ∃ x, nth cE l i = x := ⟨_, rfl⟩
      obtain ⟨g, go, rfl, lgw, _, u0, u1, u2, u3, u4, u5, u6, u7, u8, u9⟩ := (HRD.out wr HBW.out).2.entry hil hx
      have hfx : f x = decide (x.p.m.1.1 < t) := by rw [HFF.out]; rfl
      have hfx' : f' x = !decide (x.p.m.1.1 < t) := by rw [HFF'.out]; rfl
      have hstep := filter_step f l hil
      have hstep' := filter_step f' l hil
      rw [← nth_get (C := cE) hil, hx] at hstep hstep'
      obtain ⟨⟨⟨⟨y1, y2, y3⟩, y4, y5, y6⟩, y7, y8, y9, yos⟩, yoa, yoc⟩ := x
      dsimp only at u0 u1 u2 u3 u4 u5 u6 u7 u8 u9 hfx hfx'
      obtain ⟨m, hm⟩ : ∃ m, yos.length = m := ⟨_, rfl⟩
      rw [hm] at u9
      have HEV2 : Hid (#[.int .i64 y1, .int .i64 y2, .int .i64 y3, .int .i64 y4, .int .i64 y5, .int .i64 y6, .int .i64 y7, .int .i64 y8, .int .i64 y9, .slice yoa m yoc] = (cE.enc ⟨⟨((y1, y2, y3), y4, y5, y6), y7, y8, y9, yos⟩, yoa, yoc⟩).toArray) := by show #[.int .i64 y1, .int .i64 y2, .int .i64 y3, .int .i64 y4, .int .i64 y5, .int .i64 y6, .int .i64 y7, .int .i64 y8, .int .i64 y9, .slice yoa m yoc] = (cE.enc ⟨⟨((y1, y2, y3), y4, y5, y6), y7, y8, y9, yos⟩, yoa, yoc⟩).toArray; rw [← hm]; rfl
      by_cases hrl : y1 < t
      · have hft : f ⟨⟨((y1, y2, y3), y4, y5, y6), y7, y8, y9, yos⟩, yoa, yoc⟩ = true := by rw [hfx]; simpa using hrl
        have hft' : f' ⟨⟨((y1, y2, y3), y4, y5, y6), y7, y8, y9, yos⟩, yoa, yoc⟩ = false := by rw [hfx']; simpa using hrl
        rw [hft] at hstep
        rw [hft'] at hstep'
        simp only [if_true] at hstep
        simp only [Bool.false_eq_true, if_false, List.append_nil] at hstep'
        obtain ⟨X, hX⟩ : ∃ X, (l.take i).filter f ++ [⟨⟨((y1, y2, y3), y4, y5, y6), y7, y8, y9, yos⟩, yoa, yoc⟩] = X := ⟨_, rfl⟩
        have HX : Hid ((l.take i).filter f ++ [⟨⟨((y1, y2, y3), y4, y5, y6), y7, y8, y9, yos⟩, yoa, yoc⟩] = X) := hX
        have HX2 : Hid (X = (l.take (i + 1)).filter f) := by show X = _; rw [hstep, ← hX]
        have HXL : Hid (X.length = mo + 1) := by show X.length = mo + 1; rw [← hX, List.length_append, HMO.out]; rfl
        have HAL : Hid (((l.take i).filter f).length ≤ 100000) := by show ((l.take i).filter f).length ≤ 100000; rw [HMO.out]; omega
        have HST : Hid ((l.take (i + 1)).filter f' = (l.take i).filter f') := hstep'
        clear hx hfx hfx' hstep hstep' hm hX hft hft'
        go_wp2_with (at_builtin; refine wpList_append_R tyD (fun _ => True) _ rfl (.tmp 31) (.tmp 39) rfl (.slice oa mo oc) _ _ ((l.take i).filter f) [⟨⟨((y1, y2, y3), y4, y5, y6), y7, y8, y9, yos⟩, yoa, yoc⟩] rfl rfl (OwR.below (RwS.own (R2.o (Hid.out H2))) (al _ _)) (RdN.new cE _ ⟨⟨((y1, y2, y3), y4, y5, y6), y7, y8, y9, yos⟩, yoa, yoc⟩ _ _ (Hid.out HEV2) trivial) (Hid.out HAL) (by simp) X (Hid.out HX) ?_; intro a' c' w8 ho hm; have H28 : Hid (R2 w w8 (.slice a' X.length c') X (.slice la ml lc) ((l.take i).filter f')) := R2.out (R2.on (Hid.out H2) (al _ _)) ho hm; clear ho hm)
        go_roundw
        case rel =>
          refine ⟨i + 1, a', la, c', lc, mo + 1, ml, by go_num, by omega, by rw [HXL.out], rfl, by omega, by omega, ?_, ?_, ?_⟩
          · have h1 := HXL.out
            rw [HX2.out] at h1
            exact h1
          · have h1 := HML.out
            rw [← HST.out] at h1
            exact h1
          · have h1 : R2 w w8 (.slice a' X.length c') X (.slice la ml lc) ((l.take i).filter f') := H28.out
            rw [HXL.out, HX2.out, ← HST.out] at h1
            exact h1
        case measure => simp [intOf]; omega
      · have hft : f ⟨⟨((y1, y2, y3), y4, y5, y6), y7, y8, y9, yos⟩, yoa, yoc⟩ = false := by rw [hfx]; simpa using hrl
        have hft' : f' ⟨⟨((y1, y2, y3), y4, y5, y6), y7, y8, y9, yos⟩, yoa, yoc⟩ = true := by rw [hfx']; simpa using hrl
        rw [hft] at hstep
        rw [hft'] at hstep'
        simp only [if_true] at hstep'
        simp only [Bool.false_eq_true, if_false, List.append_nil] at hstep
        obtain ⟨X, hX⟩ : ∃ X, (l.take i).filter f' ++ [⟨⟨((y1, y2, y3), y4, y5, y6), y7, y8, y9, yos⟩, yoa, yoc⟩] = X := ⟨_, rfl⟩
        have HX : Hid ((l.take i).filter f' ++ [⟨⟨((y1, y2, y3), y4, y5, y6), y7, y8, y9, yos⟩, yoa, yoc⟩] = X) := hX
        have HX2 : Hid (X = (l.take (i + 1)).filter f') := by show X = _; rw [hstep', ← hX]
        have HXL : Hid (X.length = ml + 1) := by show X.length = ml + 1; rw [← hX, List.length_append, HML.out]; rfl
        have HAL : Hid (((l.take i).filter f').length ≤ 100000) := by show ((l.take i).filter f').length ≤ 100000; rw [HML.out]; omega
        have HST : Hid ((l.take (i + 1)).filter f = (l.take i).filter f) := hstep
        clear hx hfx hfx' hstep hstep' hm hX hft hft'
        go_wp2_with (at_builtin; refine wpList_append_R tyD (fun _ => True) _ rfl (.tmp 41) (.tmp 49) rfl (.slice la ml lc) _ _ ((l.take i).filter f') [⟨⟨((y1, y2, y3), y4, y5, y6), y7, y8, y9, yos⟩, yoa, yoc⟩] rfl rfl (OwR.below (RwS.own (R2.l (Hid.out H2))) (al _ _)) (RdN.new cE _ ⟨⟨((y1, y2, y3), y4, y5, y6), y7, y8, y9, yos⟩, yoa, yoc⟩ _ _ (Hid.out HEV2) trivial) (Hid.out HAL) (by simp) X (Hid.out HX) ?_; intro a' c' w8 ho hm; have H28 : Hid (R2 w w8 (.slice oa mo oc) ((l.take i).filter f) (.slice a' X.length c') X) := R2.left (R2.on (Hid.out H2) (al _ _)) ho hm; clear ho hm)
        go_roundw
        case rel =>
          refine ⟨i + 1, oa, a', oc, c', mo, ml + 1, by go_num, by omega, rfl, by rw [HXL.out], by omega, by omega, ?_, ?_, ?_⟩
          · have h1 := HMO.out
            rw [← HST.out] at h1
            exact h1
          · have h1 := HXL.out
            rw [HX2.out] at h1
            exact h1
          · have h1 : R2 w w8 (.slice oa mo oc) ((l.take i).filter f) (.slice a' X.length c') X := H28.out
            rw [HXL.out, HX2.out, ← HST.out] at h1
            exact h1
        case measure => simp [intOf]; omega
    · obtain rfl : i = n := by omega
      have htk : l.take i = l := List.take_of_length_le (by rw [HNL.out]; exact Nat.le_refl _)
      have HO1 : Hid ((l.filter f).length = mo) := by have h1 := HMO.out; rw [htk] at h1; exact h1
      have HL1 : Hid ((l.filter f').length = ml) := by have h1 := HML.out; rw [htk] at h1; exact h1
      have H3 : Hid (R2 w wr (.slice oa mo oc) (l.filter f) (.slice la ml lc) (l.filter f')) := by have h1 := H2.out; rw [htk] at h1; exact h1
      clear htk H2 HML HMO
      go_wp2
      go_ret
      exact HFIN.out HO1.out HL1.out H3.out
set_option maxRecDepth 100000 in
set_option maxHeartbeats 2000000 in
theorem rkeys_any {Y : Nat → Prop} {w : World} {fl : Int} {L : List P} {b : Nat} (h : RP Y w fl L b) :
    Calls Try.prog 21 #[.pointer (some ⟨b, 0, none⟩)] w fun e w' => ∃ a c, e = .returned (.slice a L.length c) ∧ RwS cK 29 w w' (.slice a L.length c) (keysP L) := by
  obtain ⟨l, ra, rc, rfl, hq, hs⟩ := h
  obtain ⟨n, hn⟩ : ∃ n, l.length = n := ⟨_, rfl⟩
  have ek : keysP (l.map E.p) = l.map keyE := by unfold keysP keyE; simp
  rw [ek, List.length_map, hn]
  have HRD : Hid (∀ W, Below w.heap.size w W → (W.cell? ⟨b, 1, none⟩ = some (.slice ra n rc) ∧ b < W.heap.size) ∧ RdN cE (fun _ => True) W ra l) := fun W hW => by
    have c1 := (hq.below hW).c1
    rw [hn] at c1
    exact ⟨⟨c1, (hq.below hW).lt⟩, (hq.below hW).row.wide (fun _ _ _ => trivial)⟩
  have HNL : Hid (l.length = n) := hn
  have hcap : n ≤ 64 := by rw [← hn]; exact hq.cap
  have HMD : Hid (RwS cK 29 w (w.alloc (.cells #[] 29)) (.slice (some ⟨w.heap.size, 0, none⟩) 0 0) []) := RwS.made _ _ (Below.refl _ _)
  clear hq hs hn ek
  go_enter Try.func21, Try.ntmps21
  go_wp2_with fail
  go_loopw [3, 4] (fun s3 s4 wr => ∃ (i : Nat) (ka : Option Addr) (kc : Nat), s4 = .int .i64 i ∧ i ≤ n ∧ s3 = .slice ka i kc ∧ Hid (RwS cK 29 w wr (.slice ka i kc) ((l.take i).map keyE))) (fun _ s4 _ => n - (intOf s4).toNat)
  case atStart => exact ⟨0, _, _, rfl, Nat.zero_le _, rfl, HMD.out⟩
  case round =>
    obtain ⟨i, ka, kc, rfl, hi, rfl, H2⟩ := hrel
    have HBW : Hid (Below w.heap.size w wr) := H2.out.bel
    obtain ⟨⟨q1, lbw⟩, _⟩ := HRD.out wr HBW.out
    by_cases hlt : i < n
    · have hlt' : (i : Int) < (n : Int) := by omega
      have hil : i < l.length := by rw [HNL.out]; exact hlt
      obtain ⟨x, hx⟩ : ∃ x, nth cE l i = x := ⟨_, rfl⟩
      obtain ⟨g, go, rfl, lgw, _, u0, u1, u2, _⟩ := (HRD.out wr HBW.out).2.entry hil hx
      obtain ⟨k1, k2, k3, hk3⟩ : ∃ k1 k2 k3, x.p.m.1 = (k1, k2, k3) := ⟨_, _, _, rfl⟩
      rw [hk3] at u0 u1 u2
      obtain ⟨X, hX⟩ : ∃ X, (l.take i).map keyE ++ [(k1, k2, k3)] = X := ⟨_, rfl⟩
      have hX2 : X = (l.take (i + 1)).map keyE := by
        rw [← hX, List.take_add_one, List.map_append, List.getElem?_eq_getElem hil]
        rw [nth_get hil] at hx
        simp [hx, keyE, hk3]
      have HX : Hid ((l.take i).map keyE ++ [(k1, k2, k3)] = X) := hX
      have HX2 : Hid (X = (l.take (i + 1)).map keyE) := hX2
      have HXL : Hid (X.length = i + 1) := by show X.length = i + 1; rw [hX2, List.length_map, List.length_take, HNL.out]; omega
      have HAL : Hid (((l.take i).map keyE).length ≤ 100000) := by show ((l.take i).map keyE).length ≤ 100000; rw [List.length_map, List.length_take, HNL.out]; omega
      clear hx hX hX2 hk3
      go_wp2_with (at_builtin; refine wpList_append_R tyK (fun _ => True) _ rfl (.tmp 15) (.tmp 25) rfl (.slice ka i kc) _ _ ((l.take i).map keyE) [(k1, k2, k3)] rfl rfl (OwR.below (RwS.own (Hid.out H2)) (al _ _)) (RdN.new cK _ (k1, k2, k3) _ _ rfl trivial) (Hid.out HAL) (by simp) X (Hid.out HX) ?_; intro a' c' w8 ho hm; have H28 : Hid (RwS cK 29 w w8 (.slice a' X.length c') X) := RwS.app (RwS.on (Hid.out H2) (al _ _)) ho hm; clear ho hm)
      go_roundw
      case rel =>
        refine ⟨i + 1, a', c', by go_num, by omega, by rw [HXL.out], ?_⟩
        have h1 : RwS cK 29 w w8 (.slice a' X.length c') X := H28.out
        rw [HXL.out, HX2.out] at h1
        exact h1
      case measure => simp [intOf]; omega
    · obtain rfl : i = n := by omega
      go_wp2
      go_ret
      refine ⟨ka, kc, rfl, ?_⟩
      have h1 := H2.out
      rw [List.take_of_length_le (by rw [HNL.out]; exact Nat.le_refl _)] at h1
      exact h1
end Go.Proofs.Ytgifanioeeacdaa
