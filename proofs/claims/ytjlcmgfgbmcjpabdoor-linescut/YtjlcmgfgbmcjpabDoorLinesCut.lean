/- Proved: a text of rows that is cut off behind a line is the first rows, and cut off anywhere else it is none, and its last line is told (LinesCut); the listed package-level variables start as the text of the program lays them (the card ties them). -/
import Derived.Test.YtjlcmgfgbmcjpabDoorCards
import Derived.Test.YtjlcmgfgbmcjpabDoorTie
import Derived.WalkKit
import Derived.ProofKit
import Derived.OpenShut
import Derived.ShutString
import Derived.ChangeOld
import Derived.Below
import Derived.Test.YtjlcmgfgbmcjpabDoorTied
import Derived.Test.YtjlcmgfgbmcjpabDoorSame
import Derived.Test.YtjlcmgfgbmcjpabDoorHeavy
import Derived.Test.YtjlcmgfgbmcjpabDoorBack
import Derived.Test.YtjlcmgfgbmcjpabDoorCut0
namespace Go.Proofs.YtjlcmgfgbmcjpabDoor.linesCut
open Go.ChangeShapes Go.WideShapes Go.ChangeAt Go.RowKit
open Go.ChangeMaps (open_string shut_string)
set_option linter.unusedVariables false

set_option maxRecDepth 100000 in
set_option maxHeartbeats 4000000 in
theorem walk (w : World) (hm : MaxAt w) (hg : ErrTypeAt w) (v0 : Value) (a0 : List (List ByteArray)) (w0 : IsRows w.heap.size w v0 a0) (f0 : ∃ a n c, v0 = .slice a n c ∧ n ≤ c) (a1 : Int) (w1 : (Lit.int .i64 a1).wf = true) :
    Calls Tryd.prog 4 #[v0, .int .i64 a1] w fun e w' => e = .returned (.bool true) ∧ Below w.heap.size w w' := by
  have hm4 := hm.lt
  have hg0 := hg.lt
  obtain ⟨ad, ln, cap, rfl, hcap⟩ := f0
  obtain rfl : ln = a0.length := by obtain ⟨_, _, e, _⟩ := w0; exact (Value.slice.inj e).2.1
  cases hbare : bare a0 with
  | true =>
    have HT := hide (encText_bare hbare)
    have hE := fun (hl : rowsW a0 ≤ 2048) => encode_any (.slice ad a0.length cap) a0 w (by omega) w0
    have hR := fun (w1 : World) (hl : rowsW a0 ≤ 2048) (hv : IsRows w1.heap.size w1 (.slice ad a0.length cap) a0) => refEncode_any (.slice ad a0.length cap) a0 w1 hl hv
    rw [HT.out.1, HT.out.2] at hE
    simp only [HT.out.1, HT.out.2] at hR
    clear hbare
    go_enter Tryd.func4, Tryd.ntmps4
    go_wp2_with (first | (go_at_call 8; refine (heavy_any _ a0 _ w0).mono ?_; rintro e w2 ⟨b, rfl, rfl, hb⟩; have HH := hide hb; clear hb; cases b) | (go_at_call 5; refine (hE (HH.out (by simp))).mono ?_; rintro e w2 ⟨rfl, hb1⟩; have HB1 := hide hb1; clear hb1) | (go_at_call 9; refine (hR _ (HH.out (by simp)) ((w0.keep HB1.out).mono HB1.out.size)).mono ?_; rintro e w3 ⟨rfl, hb2⟩; have HB2 := hide hb2; clear hb2))
    all_goals go_ret
    all_goals first | exact ⟨rfl, Below.refl _ _⟩ | exact ⟨rfl, HB1.out.trans (HB2.out.mono HB1.out.size)⟩
  | false =>
    have HT := hide (encText_full hbare)
    obtain ⟨S, hS⟩ : ∃ S : ByteArray, S = ⟨(encRows (lettersR a0)).toArray⟩ := ⟨_, rfl⟩
    have hSl : S.data.toList = encRows (lettersR a0) := by rw [hS, text_letters]
    have hsz := text_size a0
    rw [← hS] at hsz
    have hE := fun (hl : rowsW a0 ≤ 2048) => encode_any (.slice ad a0.length cap) a0 w (by omega) w0
    have hR := fun (w1 : World) (hl : rowsW a0 ≤ 2048) (hv : IsRows w1.heap.size w1 (.slice ad a0.length cap) a0) => refEncode_any (.slice ad a0.length cap) a0 w1 hl hv
    rw [HT.out.1, HT.out.2, ← hS] at hE
    simp only [HT.out.1, HT.out.2, ← hS] at hR
    have HSL := hide hSl
    have HFULL := hide (full_rows hbare)
    have HL := hide (length_le_rowsW a0)
    clear hbare hS hSl
    by_cases hn : 0 < S.size
    · obtain ⟨u, k, hu, hu1, hu2, hk1, hk2, hkn⟩ := mod_two a1 S.size hn
      have hct := cut_tells (lettersR a0) HFULL.out k (by rw [← HSL.out, len_size]; omega)
      rw [← HSL.out, lettersR_length] at hct
      obtain ⟨m, hm'⟩ : ∃ m, m = (S.data.toList.take k).count 10 := ⟨_, rfl⟩
      rw [← hm'] at hct
      have HM := hide hm'
      obtain ⟨hmle, hway⟩ := hct
      have HWAY := hide hway
      have hd0 : (decide ((S.size : Int) = 0)) = false := decide_eq_false (by omega)
      have hd1 : ((S.size : Int) == 0) = false := by rw [beq_eq_false_iff_ne]; omega
      have hne : S.toList.isEmpty = false := full_of hn
      clear hm' hway
      go_enter Tryd.func4, Tryd.ntmps4
      go_wp2_with fail
      refine (heavy_any _ a0 _ w0).mono ?_
      rintro e wz ⟨b, rfl, hwz, hb⟩
      rw [hwz]
      clear hwz
      rcases b with _ | _
      case true =>
        go_wp2_with fail
        go_ret
        exact ⟨rfl, Below.refl _ _⟩
      have HH := hide (hb rfl)
      have hS6 : S.size ≤ 6144 := by have := hb rfl; omega
      clear hb
      go_wp2_with fail
      refine (hE HH.out).mono ?_
      rintro e x1 ⟨rfl, hb1⟩
      have HB1 := hide hb1
      clear hb1
      go_wp2_with fail
      refine (hR _ HH.out ((w0.keep HB1.out).mono HB1.out.size)).mono ?_
      rintro e x2 ⟨rfl, hb2⟩
      have HB2 := hide (HB1.out.trans (hb2.mono HB1.out.size))
      clear hb2 hE hR
      have hm6 : m ≤ 2048 := by have := HH.out; have := HL.out; omega
      have hT : (S.extract 0 k).size ≤ 1073741824 := by rw [ByteArray.size_extract]; omega
      rcases HWAY.out with ⟨hok, hdec⟩ | ⟨hk0, hno, hdec⟩
      · have hD := decode_rows (S.extract 0 k) (a0.take m) x2 (by rw [take_data, hdec]; simp [lettersR]) hT (hm.keep hm4 HB2.out) (hg.keep hg0 HB2.out)
        have hml : (a0.take m).length = m := by rw [List.length_take]; omega
        rw [hml] at hD
        clear hdec
        go_wp2_with fail
        refine hD.mono ?_
        rintro e x3 ⟨da, dc, rfl, hb3, ho⟩
        have HB3 := hide (HB2.out.trans (hb3.mono HB2.out.size))
        have HO := hide ho
        clear hb3 ho hD
        go_wp2
        go_loop [13, 14] (fun mv i => ∃ q : Nat, q ≤ k ∧ i = .int .i64 q ∧ mv = .int .i64 (((S.data.toList.take q).count 10 : Nat) : Int)) (fun _ i => k - (intOf i).toNat)
        case atStart => exact ⟨0, Nat.zero_le _, rfl, rfl⟩
        case round =>
          obtain ⟨q, hq, rfl, rfl⟩ := hrel
          by_cases hlt : q < k
          · have hqS : q < S.size := by omega
            have hcl := feeds_le S q (by omega)
            have HS := hide (feeds_snoc S q hqS)
            by_cases h10 : S[q] = 10
            · have n10 : (S[q].toNat : Int) = 10 := by rw [h10]; rfl
              go_wp2
              go_round
              case rel => exact ⟨q + 1, by omega, by go_num, by rw [HS.out, if_pos h10]; go_num⟩
              case measure => simp [intOf]; omega
            · have n10 : ¬ ((S[q].toNat : Int) = 10) := u8_ne h10
              go_wp2
              go_round
              case rel => exact ⟨q + 1, by omega, by go_num, by rw [HS.out, if_neg h10]; go_num⟩
              case measure => simp [intOf]; omega
          · obtain rfl : q = k := by omega
            rw [← HM.out]
            by_cases hk0 : q = 0
            · subst hk0
              go_wp2_with fail
              refine (same_true _ _ (a0.take m) _ (by have := rowsW_take a0 m; have := HH.out; omega) HO.out (((w0.front m hmle).keep HB3.out).mono HB3.out.size)).mono ?_
              rintro e x4 ⟨rfl, hb4⟩
              have HB4 := hide (HB3.out.trans (hb4.mono HB3.out.size))
              clear hb4
              go_wp2
              go_ret
              exact ⟨rfl, HB4.out⟩
            · obtain ⟨p, rfl⟩ : ∃ p, q = p + 1 := ⟨q - 1, by omega⟩
              have hp10 : (S[p].toNat : Int) = 10 := by
                rcases hok with h | h
                · exact absurd h hk0
                · rw [Nat.add_sub_cancel, List.getElem?_eq_getElem (by rw [len_size]; omega)] at h
                  have h2 : S[p] = 10 := Option.some.inj h
                  rw [h2]; rfl
              go_wp2_with fail
              refine (same_true _ _ (a0.take m) _ (by have := rowsW_take a0 m; have := HH.out; omega) HO.out (((w0.front m hmle).keep HB3.out).mono HB3.out.size)).mono ?_
              rintro e x4 ⟨rfl, hb4⟩
              have HB4 := hide (HB3.out.trans (hb4.mono HB3.out.size))
              clear hb4
              go_wp2
              go_ret
              exact ⟨rfl, HB4.out⟩
      · have hD := decode_wrong (S.extract 0 k) (m + 1) x2 (by rw [take_data, hdec]) hT (hm.keep hm4 HB2.out) (hg.keep hg0 HB2.out)
        have HN := hide hno
        clear hdec
        go_wp2_with fail
        refine hD.mono ?_
        rintro e x3 ⟨rfl, hb3⟩
        have HB3 := hide (HB2.out.trans (hb3.mono HB2.out.size))
        clear hb3 hD
        go_wp2
        go_loop [13, 14] (fun mv i => ∃ q : Nat, q ≤ k ∧ i = .int .i64 q ∧ mv = .int .i64 (((S.data.toList.take q).count 10 : Nat) : Int)) (fun _ i => k - (intOf i).toNat)
        case atStart => exact ⟨0, Nat.zero_le _, rfl, rfl⟩
        case round =>
          obtain ⟨q, hq, rfl, rfl⟩ := hrel
          by_cases hlt : q < k
          · have hqS : q < S.size := by omega
            have hcl := feeds_le S q (by omega)
            have HS := hide (feeds_snoc S q hqS)
            by_cases h10 : S[q] = 10
            · have n10 : (S[q].toNat : Int) = 10 := by rw [h10]; rfl
              go_wp2
              go_round
              case rel => exact ⟨q + 1, by omega, by go_num, by rw [HS.out, if_pos h10]; go_num⟩
              case measure => simp [intOf]; omega
            · have n10 : ¬ ((S[q].toNat : Int) = 10) := u8_ne h10
              go_wp2
              go_round
              case rel => exact ⟨q + 1, by omega, by go_num, by rw [HS.out, if_neg h10]; go_num⟩
              case measure => simp [intOf]; omega
          · obtain rfl : q = k := by omega
            rw [← HM.out]
            obtain ⟨p, rfl⟩ : ∃ p, q = p + 1 := ⟨q - 1, by omega⟩
            have hpS : p < S.size := by omega
            have hp10 : ¬ (((S[p]'hpS).toNat : Int) = 10) := by
              refine u8_ne (d := 10) (fun h2 => hno ?_)
              rw [Nat.add_sub_cancel, List.getElem?_eq_getElem (by rw [len_size]; omega)]
              exact congrArg some h2
            have hpb : ((((S[p]'hpS).toNat : Int)) == 10) = false := by rw [beq_eq_false_iff_ne]; exact hp10
            have hpz : (((p : Int) + 1) == 0) = false := by rw [beq_eq_false_iff_ne]; omega
            clear hno hk0 hk1 hk2 hu hT
            go_wp2
            go_ret
            exact ⟨rfl, HB3.out⟩
    · have h0 : S.size = 0 := by omega
      have hd1 : (S.size : Int) = 0 := by omega
      have hne : S.toList.isEmpty = true := empty_of hn
      go_enter Tryd.func4, Tryd.ntmps4
      go_wp2_with (first | (go_at_call 8; refine (heavy_any _ a0 _ w0).mono ?_; rintro e w2 ⟨b, rfl, rfl, hb⟩; have HH := hide hb; clear hb; cases b) | (go_at_call 5; refine (hE (HH.out (by simp))).mono ?_; rintro e w2 ⟨rfl, hb1⟩; have HB1 := hide hb1; clear hb1) | (go_at_call 9; refine (hR _ (HH.out (by simp)) ((w0.keep HB1.out).mono HB1.out.size)).mono ?_; rintro e w3 ⟨rfl, hb2⟩; have HB2 := hide hb2; clear hb2))
      all_goals go_ret
      all_goals first | exact ⟨rfl, Below.refl _ _⟩ | exact ⟨rfl, HB1.out.trans (HB2.out.mono HB1.out.size)⟩

theorem reads (os : Os) {H : Type} (enc : TypeId × Value → H) : ∃ places, DataW.whole enc Tryd.prog ((errLaid (World.laidAll Tryd.prog os (laid3.filter fun x => x.2.handleName?.isNone))).forCall (fun _ _ => 0) ⟨#[], #[.slice none 0 0, .int .i64 0], []⟩).memory Tryd.f4.params.toList Rows.linesCutSpec.vars false #[(.slice none 0 0 : Value), (.int .i64 0 : Value)].toList 8 = some ([.nil, .lit (.int .i64 0)], [], places) :=
  ⟨[], by kernel_rfl⟩

set_option maxRecDepth 100000 in
theorem lifted (os : Os) (started : os.Started) (H : Type) (enc : TypeId × Value → H) (F : Stop.Interp) :
    ReturnsInHanded {} Tryd.checked os 4 .any ((OpenSpec.ofChange Rows.linesCutSpec).preRow enc Tryd.prog Tryd.f4 Rows.linesCutRow.domain false Rows.linesCutRow.laid) (((OpenSpec.ofChange Rows.linesCutSpec).at F).post enc Tryd.prog Tryd.f4 false true false false) := by
  obtain ⟨places, hx⟩ := reads os enc
  refine returnsInHanded_of_row (C := Tryd.checked) (s := OpenSpec.ofChange Rows.linesCutSpec) own started (by kernel_rfl) Tryd.func4
    (witness_row_at (enc := enc) (C := Tryd.checked) false (errLaid (World.laidAll Tryd.prog os (laid3.filter fun x => x.2.handleName?.isNone))) #[.slice none 0 0, .int .i64 0] rfl (by kernel_rfl) (by kernel_rfl) (by kernel_rfl)
      (OpenSpec.preRow_of_cond 8 hx (by kernel_rfl) (fun k hk => by cases hk) (by kernel_rfl) (laidWorld_met os _))) ?_
  intro W base args ds gs before hval0 hW _ _ _ hL hsh _
  have hval : ∀ (j : Nat) t v, Tryd.f4.params[j]? = some t → args[j]? = some v → Value.okWide Tryd.prog W .any base t v := hval0
  have hW' := hW
  obtain ⟨p, q, hA0, hV, rfl, hfz, hnd⟩ := hW
  have hA : DataW.TrodAll enc Tryd.prog W 0 (fun _ => true) true Tryd.f4.params.toList args.toList ds p := hA0
  rw [Tryd.params4] at hA hval
  obtain ⟨v0, vs0, d0, ds0, p0, q0, hargs, rfl, rfl, h0, r0⟩ := trodAll_cons hA
  obtain ⟨v1, vs1, d1, ds1, p1, q1, rfl, rfl, rfl, h1, r1⟩ := trodAll_cons r0
  obtain ⟨rfl, rfl, rfl⟩ := trodAll_nil r1
  obtain rfl : args = #[v0, v1] := by cases args; simp_all
  obtain ⟨rfl, rfl⟩ := trodVars_none hV
  have k0 := h0
  have lt0 : ∀ x ∈ p0, x.block < W.heap.size := by obtain ⟨m, hm⟩ := k0; exact DataW.trod_lt m _ _ _ hm
  have k1 := h1
  have lt1 : ∀ x ∈ p1, x.block < W.heap.size := by obtain ⟨m, hm⟩ := k1; exact DataW.trod_lt m _ _ _ hm
  obtain ⟨sa0, sl0, sc0, rfl⟩ := okWide_slice Tryd.underlying23 (hval 0 23 v0 rfl rfl)
  obtain ⟨a0, w0, f0⟩ : ∃ rs, IsRows W.heap.size W (.slice sa0 sl0 sc0) rs ∧ ∃ a n c, (Value.slice sa0 sl0 sc0) = .slice a n c ∧ n ≤ c := by
    obtain ⟨fuel, hf⟩ := h0
    obtain ⟨rs, hr⟩ := open_rows hf
    exact ⟨rs, hr, open_cap hf⟩
  obtain ⟨a1, rfl, rfl, rfl, w1⟩ := open_int Tryd.underlying3 (hval 1 3 v1 rfl rfl) h1
  clear hA0 hval0
  refine (walk W (max_of hsh) (errType_of hL) _ a0 w0 f0 a1 w1).mono fun e W' ⟨he, bel⟩ => ?_
  subst he
  exact ⟨_, rfl, _, _, _, [], _, [], hW', trodAll_mk1 (shut_bool Tryd.underlying4 _), (trodAll_cons_mk (Below.trod laidOut (by kernel_rfl) (of_decide_eq_true (by kernel_rfl)) k0 bel lt0) (trodAll_cons_mk (Below.trod laidOut (by kernel_rfl) (of_decide_eq_true (by kernel_rfl)) k1 bel lt1) trodAll_mk0)), rfl, bel.frame _, fun h => by cases h⟩

theorem said : Rows.LinesCutSaid :=
  OpenClaim.holds_of_cond 4 Tryd.f4 rfl rfl rfl rfl rfl rfl rfl ⟨rfl, rfl, rfl, rfl, rfl⟩ rfl rfl rfl rfl rfl (by kernel_rfl) Tryd.func4 (by kernel_rfl)
    (of_decide_eq_true (by kernel_rfl)) (by unfold Func.isWrapper; first | (rw [if_pos (by decide +kernel)]; kernel_rfl) | (rw [if_neg (by decide +kernel)]; exact ⟨rfl, rfl⟩))
    (fun os started H enc _ F => by rw [OpenClaim.pre_eq_preRow]; exact lifted os started H enc F)

theorem plain (f : FuncId) (fn : Func) (hf : Tryd.pinned.checked.prog.funcNamed "paceline/pacelinelaw02.LinesCut" = some f) (hfn : Tryd.pinned.checked.prog.funcs[f]? = some fn) :
    true = Tryd.pinned.checked.prog.looks [] ∧ ∀ (j : Nat) t, fn.params[j]? = some t → Tryd.pinned.checked.prog.wantsStandIn t = false := by
  obtain rfl : f = 4 := Option.some.inj ((show Tryd.prog.funcNamed "paceline/pacelinelaw02.LinesCut" = some 4 by kernel_rfl).symm.trans hf) |>.symm
  obtain rfl : fn = Tryd.f4 := (Option.some.inj (Tryd.func4.symm.trans hfn)).symm
  refine ⟨by kernel_rfl, fun j t ht => ?_⟩
  rw [Tryd.params4] at ht
  have hm : t ∈ [3, 23] := by
    have := Array.mem_of_getElem? ht
    simp at this ⊢
    first | omega | (rcases this with h | h <;> simp [h]) | (rcases this with h | h | h <;> simp [h])
  have hall : ([3, 23].all fun u => !Tryd.prog.wantsStandIn u) = true := by kernel_rfl
  exact (show Tryd.prog.wantsStandIn t = false by simpa using List.all_eq_true.1 hall t hm)
end Go.Proofs.YtjlcmgfgbmcjpabDoor.linesCut
namespace Go.Proofs.YtjlcmgfgbmcjpabDoor
theorem linesCut_holds : Rows.LinesCutCardSaid :=
  Claim7.holds_tied_plain_at .later [] _ _ _ _ linesCut.said (fun _ h => by cases h) (by kernel_rfl) (fun _ h => by cases h) linesCut_row_tie rfl ⟨rfl, rfl⟩ (by kernel_rfl) rfl linesCut.plain (by kernel_rfl)
#print axioms linesCut_holds
end Go.Proofs.YtjlcmgfgbmcjpabDoor
