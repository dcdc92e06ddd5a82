/- Proved: what the document's own Num tells is what lines.Num tells. -/
import Derived.Test.YtjlcmgfgbmcjpaaDoorNum2
import Derived.Lib.Split
import Derived.Lib.SplitLaws
namespace Go.Proofs.YtjlcmgfgbmcjpaaDoor
open Go.RowKit
set_option linter.unusedVariables false

theorem takeN_snoc (s : ByteArray) (k : Nat) (h : k < s.size) : s.data.toList.take (k + 1) = s.data.toList.take k ++ [s[k]] := by
  rw [List.take_succ_eq_append_getElem (by simpa using h)]; rfl
theorem takeN_all (s : ByteArray) (k : Nat) (h : ¬ k < s.size) : s.data.toList.take k = s.data.toList := List.take_of_length_le (by simp; omega)
theorem memN (s : ByteArray) (k : Nat) (h : k < s.size) : s[k] ∈ s.data.toList := by
  have : s[k] = s.data.toList[k]'(by simpa using h) := rfl
  rw [this]; exact List.getElem_mem _
theorem lenN (S : ByteArray) : S.data.toList.length = S.size := by simp

/-- From the loop on: T is what stands behind the sign. -/
def Rest (s T : ByteArray) (k : Nat) (n : Int) : Prop := n = (val (T.data.toList.take k) : Int) ∧ n ≤ 1152921504606846976

set_option maxRecDepth 100000 in
set_option maxHeartbeats 2000000 in
theorem refNum_any (s : ByteArray) (w : World) (hs : s.size ≤ 1024) :
    Calls Tryd.prog 16 #[.string s] w fun e w' => e = .returned (.tuple #[.int .i64 (numN s.data.toList), .int .i64 (numE s.data.toList)]) ∧ w' = w := by
  by_cases hneg : 0 < s.size ∧ s.data.toList.head? = some 45
  · obtain ⟨h0, h45⟩ := hneg
    have hb : (s[0].toNat : Int) = 45 := by
      have : s.data.toList.head? = some s[0] := by
        rw [List.head?_eq_getElem?, List.getElem?_eq_getElem (by simpa using h0)]; rfl
      rw [this] at h45
      rw [Option.some.inj h45]; rfl
    obtain ⟨T, hT⟩ : ∃ T : ByteArray, T = s.extract 1 s.size := ⟨_, rfl⟩
    have hTd : T.data.toList = magOf s.data.toList := by
      rw [hT, magOf, if_pos h45]
      exact Lib.extract_to_end s 1
    have hTs : T.size = s.size - 1 := by rw [hT]; simp
    have hT' : s.extract 1 s.size = T := hT.symm
    have HT := hideN hTd
    have HSG : Hid (signedVal s.data.toList = -(val T.data.toList : Int)) := by
      show _ = _
      rw [signedVal, if_pos h45, hTd]
    have hp0 : (0 : Int) < (s.size : Int) := by omega
    have hTi : ((s.size - 1 : Nat) : Int) = (T.size : Int) := by omega
    clear hT hTd h45 hTs
    by_cases hlen : T.size < 1 ∨ 19 < T.size
    · have HR := hideN (num_none (num_len (l := s.data.toList) (by rw [← HT.out, lenN]; exact hlen)))
      have hl1 : ¬ (1 ≤ T.size ∧ T.size ≤ 19) := by omega
      go_enter Tryd.func16, Tryd.ntmps16
      go_wp2
      all_goals first | (exfalso; omega) | skip
      all_goals go_ret2
      all_goals exact ⟨by rw [HR.out.1, HR.out.2]; rfl, rfl⟩
    · have hl1 : 1 ≤ T.size := by omega
      have hl2 : T.size ≤ 19 := by omega
      have hx1 : ¬ ((T.size : Int) < 1) := by omega
      have hx2 : ¬ ((19 : Int) < (T.size : Int)) := by omega
      go_enter Tryd.func16, Tryd.ntmps16
      go_wp2
      go_loop [6, 7] (fun v i => ∃ k V : Nat, k ≤ T.size ∧ i = .int .i64 k ∧ v = .int .i64 V ∧ V ≤ 1152921504606846976 ∧ Hid (V = val (T.data.toList.take k))) (fun _ i => T.size - (intOf i).toNat)
      case atStart => exact ⟨0, 0, Nat.zero_le _, rfl, rfl, by omega, rfl⟩
      case round =>
        obtain ⟨k, V, hk, rfl, rfl, hV, hh⟩ := hrel
        by_cases hlt : k < T.size
        · have hlt' : (k : Int) < (T.size : Int) := by omega
          have hkl : k < (magOf s.data.toList).length := by rw [← HT.out, lenN]; exact hlt
          have h256 := UInt8.toNat_lt T[k]
          by_cases hd : 48 ≤ T[k].toNat ∧ T[k].toNat ≤ 57
          · obtain ⟨hd1, hd2⟩ := hd
            by_cases hm : 576460752303423488 < V
            · have HR := hideN (num_none (num_more (l := s.data.toList) hkl (by rw [← HT.out, ← hh.out]; exact hm)))
              have hm' : (576460752303423488 : Int) < (V : Int) := by omega
              go_wp2
              all_goals first | (exfalso; omega) | skip
              go_ret2
              exact ⟨by rw [HR.out.1, HR.out.2]; rfl, rfl⟩
            · have hm' : ¬ ((576460752303423488 : Int) < (V : Int)) := by omega
              obtain ⟨V', hV'⟩ : ∃ V', V' = V * 10 + (T[k].toNat - 48) := ⟨_, rfl⟩
              have HV : Hid (V' = val (T.data.toList.take (k + 1))) := by
                show _ = _
                rw [hV', takeN_snoc T k hlt, val_snoc, ← hh.out]
              have hVi : (V : Int) * 10 + ((T[k].toNat : Int) - 48) = (V' : Int) := by omega
              by_cases hv : 1152921504606846976 < V'
              · have HR := hideN (num_none (num_much (l := s.data.toList) (k := k + 1) (by rw [← HT.out, ← HV.out]; exact hv)))
                have hv' : (1152921504606846976 : Int) < (V' : Int) := by omega
                go_wp2
                all_goals first | (exfalso; omega) | skip
                go_ret2
                exact ⟨by rw [HR.out.1, HR.out.2]; rfl, rfl⟩
              · have hv' : ¬ ((1152921504606846976 : Int) < (V' : Int)) := by omega
                go_wp2
                all_goals first | (exfalso; omega) | skip
                go_round
                case rel => exact ⟨k + 1, V', by omega, by go_num, by first | rfl | exact congrArg (Value.int .i64) (by omega), by omega, HV.out⟩
                case measure => simp [intOf]; omega
          · have HR := hideN (num_none (num_char (l := s.data.toList) (c := T[k]) (by rw [← HT.out]; exact memN T k hlt) hd))
            go_wp2
            all_goals first | (exfalso; omega) | skip
            all_goals go_ret2
            all_goals exact ⟨by rw [HR.out.1, HR.out.2]; rfl, rfl⟩
        · have hkT : V = val T.data.toList := by rw [hh.out, takeN_all T k hlt]
          have HKT := hideN hkT
          clear hkT
          have hI := fun x : World => refInt_any (-(V : Int)) x (by omega) (by omega)
          by_cases he : Lib.itoa (-(V : Int)) = s.data.toList
          · have HR := hideN (num_some (l := s.data.toList) (n := -(V : Int)) (by rw [← he]; exact numOf_itoa _ (by omega) (by omega)))
            simp only [str_eq he] at hI
            clear he
            go_wp2_with (go_at_call 18; refine (hI _).mono ?_; rintro e w1 ⟨rfl, rfl⟩)
            go_ret2
            exact ⟨by rw [HR.out.1, HR.out.2]; rfl, rfl⟩
          · have HR := hideN (num_none (num_other (l := s.data.toList) (by rw [HSG.out, ← HKT.out]; exact he)))
            obtain ⟨Z, hZ⟩ : ∃ Z : ByteArray, Z = ⟨(Lib.itoa (-(V : Int))).toArray⟩ := ⟨_, rfl⟩
            simp only [← hZ] at hI
            have hne : ¬ (Z.toList = s.toList) := by rw [ByteArray.toList_eq, ByteArray.toList_eq, hZ]; simpa using he
            have hnb : (Z.toList == s.toList) = false := by rw [beq_eq_false_iff_ne]; exact hne
            clear he hZ
            go_wp2_with (go_at_call 18; refine (hI _).mono ?_; rintro e w1 ⟨rfl, rfl⟩)
            go_ret2
            exact ⟨by rw [HR.out.1, HR.out.2]; rfl, rfl⟩
  · obtain ⟨T, hT⟩ : ∃ T : ByteArray, T = s := ⟨_, rfl⟩
    have h45 : s.data.toList.head? ≠ some 45 := by
      intro e
      refine hneg ⟨?_, e⟩
      have := List.length_pos_of_mem (List.mem_of_head? e)
      rw [lenN] at this; exact this
    have HT : Hid (T.data.toList = magOf s.data.toList) := by
      show _ = _
      rw [hT, magOf, if_neg h45]
    have HSG : Hid (signedVal s.data.toList = (val T.data.toList : Int)) := by
      show _ = _
      rw [signedVal, if_neg h45, ← HT.out]
    have hb : ∀ h0 : 0 < s.size, ¬ ((s[0].toNat : Int) = 45) := by
      intro h0 e
      apply h45
      rw [List.head?_eq_getElem?, List.getElem?_eq_getElem (by simpa using h0)]
      have : s[0] = 45 := UInt8.toNat_inj.1 (Int.natCast_inj.1 e)
      exact congrArg some this
    clear hneg h45
    subst hT
    by_cases h0 : 0 < T.size
    · have hb := hb h0
      have hp0 : (0 : Int) < (T.size : Int) := by omega
      by_cases hlen : T.size < 1 ∨ 19 < T.size
      · have HR := hideN (num_none (num_len (l := T.data.toList) (by rw [← HT.out, lenN]; exact hlen)))
        have hl1 : ¬ (1 ≤ T.size ∧ T.size ≤ 19) := by omega
        go_enter Tryd.func16, Tryd.ntmps16
        go_wp2
        all_goals first | (exfalso; omega) | skip
        all_goals go_ret2
        all_goals exact ⟨by rw [HR.out.1, HR.out.2]; rfl, rfl⟩
      · have hl1 : 1 ≤ T.size := by omega
        have hl2 : T.size ≤ 19 := by omega
        have hx1 : ¬ ((T.size : Int) < 1) := by omega
        have hx2 : ¬ ((19 : Int) < (T.size : Int)) := by omega
        go_enter Tryd.func16, Tryd.ntmps16
        go_wp2
        go_loop [6, 7] (fun v i => ∃ k V : Nat, k ≤ T.size ∧ i = .int .i64 k ∧ v = .int .i64 V ∧ V ≤ 1152921504606846976 ∧ Hid (V = val (T.data.toList.take k))) (fun _ i => T.size - (intOf i).toNat)
        case atStart => exact ⟨0, 0, Nat.zero_le _, rfl, rfl, by omega, rfl⟩
        case round =>
          obtain ⟨k, V, hk, rfl, rfl, hV, hh⟩ := hrel
          by_cases hlt : k < T.size
          · have hlt' : (k : Int) < (T.size : Int) := by omega
            have hkl : k < (magOf T.data.toList).length := by rw [← HT.out, lenN]; exact hlt
            have h256 := UInt8.toNat_lt T[k]
            by_cases hd : 48 ≤ T[k].toNat ∧ T[k].toNat ≤ 57
            · obtain ⟨hd1, hd2⟩ := hd
              by_cases hm : 576460752303423488 < V
              · have HR := hideN (num_none (num_more (l := T.data.toList) hkl (by rw [← HT.out, ← hh.out]; exact hm)))
                have hm' : (576460752303423488 : Int) < (V : Int) := by omega
                go_wp2
                all_goals first | (exfalso; omega) | skip
                go_ret2
                exact ⟨by rw [HR.out.1, HR.out.2]; rfl, rfl⟩
              · have hm' : ¬ ((576460752303423488 : Int) < (V : Int)) := by omega
                obtain ⟨V', hV'⟩ : ∃ V', V' = V * 10 + (T[k].toNat - 48) := ⟨_, rfl⟩
                have HV : Hid (V' = val (T.data.toList.take (k + 1))) := by
                  show _ = _
                  rw [hV', takeN_snoc T k hlt, val_snoc, ← hh.out]
                have hVi : (V : Int) * 10 + ((T[k].toNat : Int) - 48) = (V' : Int) := by omega
                by_cases hv : 1152921504606846976 < V'
                · have HR := hideN (num_none (num_much (l := T.data.toList) (k := k + 1) (by rw [← HT.out, ← HV.out]; exact hv)))
                  have hv' : (1152921504606846976 : Int) < (V' : Int) := by omega
                  go_wp2
                  all_goals first | (exfalso; omega) | skip
                  go_ret2
                  exact ⟨by rw [HR.out.1, HR.out.2]; rfl, rfl⟩
                · have hv' : ¬ ((1152921504606846976 : Int) < (V' : Int)) := by omega
                  go_wp2
                  all_goals first | (exfalso; omega) | skip
                  go_round
                  case rel => exact ⟨k + 1, V', by omega, by go_num, by first | rfl | exact congrArg (Value.int .i64) (by omega), by omega, HV.out⟩
                  case measure => simp [intOf]; omega
            · have HR := hideN (num_none (num_char (l := T.data.toList) (c := T[k]) (by rw [← HT.out]; exact memN T k hlt) hd))
              go_wp2
              all_goals first | (exfalso; omega) | skip
              all_goals go_ret2
              all_goals exact ⟨by rw [HR.out.1, HR.out.2]; rfl, rfl⟩
          · have hkT : V = val T.data.toList := by rw [hh.out, takeN_all T k hlt]
            have HKT := hideN hkT
            clear hkT
            have hI := fun x : World => refInt_any ((V : Int)) x (by omega) (by omega)
            by_cases he : Lib.itoa ((V : Int)) = T.data.toList
            · have HR := hideN (num_some (l := T.data.toList) (n := (V : Int)) (by rw [← he]; exact numOf_itoa _ (by omega) (by omega)))
              simp only [str_eq he] at hI
              clear he
              go_wp2_with (go_at_call 18; refine (hI _).mono ?_; rintro e w1 ⟨rfl, rfl⟩)
              go_ret2
              exact ⟨by rw [HR.out.1, HR.out.2]; rfl, rfl⟩
            · have HR := hideN (num_none (num_other (l := T.data.toList) (by rw [HSG.out, ← HKT.out]; exact he)))
              obtain ⟨Z, hZ⟩ : ∃ Z : ByteArray, Z = ⟨(Lib.itoa ((V : Int))).toArray⟩ := ⟨_, rfl⟩
              simp only [← hZ] at hI
              have hne : ¬ (Z.toList = T.toList) := by rw [ByteArray.toList_eq, ByteArray.toList_eq, hZ]; simpa using he
              have hnb : (Z.toList == T.toList) = false := by rw [beq_eq_false_iff_ne]; exact hne
              clear he hZ
              go_wp2_with (go_at_call 18; refine (hI _).mono ?_; rintro e w1 ⟨rfl, rfl⟩)
              go_ret2
              exact ⟨by rw [HR.out.1, HR.out.2]; rfl, rfl⟩
    · have HR := hideN (num_none (num_len (l := T.data.toList) (by rw [← HT.out, lenN]; omega)))
      have hz : T.size = 0 := by omega
      have hp0 : ((T.size : Int)) = 0 := by omega
      go_enter Tryd.func16, Tryd.ntmps16
      go_wp2
      all_goals first | (exfalso; omega) | skip
      all_goals go_ret2
      all_goals exact ⟨by rw [HR.out.1, HR.out.2]; rfl, rfl⟩
end Go.Proofs.YtjlcmgfgbmcjpaaDoor
