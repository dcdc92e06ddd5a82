/- Proved: a field is written without commas and line feeds, whatever it is, and read back, three times as long at most (LinesFields); the listed package-level variables start as the program's text lays them (the card ties them). -/
import Derived.Test.YtjlcmgfgbmcjpabDoorCards
import Derived.Test.YtjlcmgfgbmcjpabDoorTie
import Derived.WalkKit
import Derived.ProofKit
import Derived.OpenShut
import Derived.ShutString
import Derived.ChangeOld
import Derived.Below
import Derived.Test.YtjlcmgfgbmcjpabDoorTied
import Derived.Test.YtjlcmgfgbmcjpabDoorSame
import Derived.Test.YtjlcmgfgbmcjpabDoorHeavy
import Derived.Test.YtjlcmgfgbmcjpabDoorBack
namespace Go.Proofs.YtjlcmgfgbmcjpabDoor.linesFields
open Go.ChangeShapes Go.WideShapes Go.ChangeAt Go.RowKit
open Go.ChangeMaps (open_string shut_string)
set_option linter.unusedVariables false

set_option maxRecDepth 100000 in
set_option maxHeartbeats 4000000 in
theorem walk (w : World) (hm : MaxAt w) (hg : ErrTypeAt w) (a0 : ByteArray) (w0 : a0.size ≤ maxLen) :
    Calls Tryd.prog 3 #[.string a0] w fun e w' => e = .returned (.bool true) ∧ Below w.heap.size w w' := by
  by_cases hbig : a0.size ≤ 1024
  · obtain ⟨S, hS⟩ : ∃ S : ByteArray, S = ⟨(encRows (lettersR [[a0]])).toArray⟩ := ⟨_, rfl⟩
    obtain ⟨n, hn⟩ : ∃ n, n = (encField a0.data.toList).length := ⟨_, rfl⟩
    have hSl : S.data.toList = encField a0.data.toList ++ [10] := by rw [hS, text_letters]; simp [lettersR, letters, encRows, encRow, body]
    have hsz : S.size = n + 1 := by rw [← len_size, hSl, hn]; simp
    have hlo : a0.size ≤ n := by rw [hn, ← len_size]; exact (encField_len _).1
    have hhi : n ≤ 3 * a0.size := by rw [hn, ← len_size]; exact (encField_len _).2
    have hget : ∀ k (h : k < S.size), S[k] = (encField a0.data.toList ++ [10])[k]'(by rw [← hSl]; simpa using h) := by
      intro k h
      have : S[k] = S.data.toList[k]'(by simpa using h) := rfl
      rw [this]
      congr 1
    have hlast : ((S[n]'(by rw [hsz]; exact Nat.lt_succ_self n)).toNat : Int) = 10 := by
      rw [hget n (by omega), List.getElem_append_right (by omega)]
      simp [hn]
    have hno : ∀ k (h : k < n), ¬ (((S[k]'(by rw [hsz]; exact Nat.lt_succ_of_lt h)).toNat : Int) = 44) ∧ ¬ (((S[k]'(by rw [hsz]; exact Nat.lt_succ_of_lt h)).toNat : Int) = 10) := by
      intro k h
      have h' : k < (encField a0.data.toList).length := by omega
      rw [hget k (by omega), List.getElem_append_left h']
      exact ⟨u8_ne (encField_no44 _ _ (List.getElem_mem h')), u8_ne (encField_no10 _ _ (List.getElem_mem h'))⟩
    have hW : rowsW [[a0]] = a0.size + 1 + 1 := by simp [rowsW, rowW]
    have hbare : bare [[a0]] = false := rfl
    have HR : Hid (IsRows (w.heap.size + 1 + 1) ((w.alloc (.cells #[.string a0] 9)).alloc (.cells #[.slice (some ⟨w.heap.size, 0, none⟩) 1 1] 22)) (.slice (some ⟨w.heap.size + 1, 0, none⟩) 1 1) [[a0]]) := by
      refine ⟨_, 1, rfl, fun _ => ⟨w.heap.size + 1, 0, rfl, by omega, fun i hi => ?_⟩⟩
      have hi0 : i = 0 := by simp at hi; exact hi
      subst hi0
      refine ⟨_, by rw [World.cell?_alloc_at _ _ _ _ (by simp)]; rfl, _, 1, rfl, fun _ => ⟨w.heap.size, 0, rfl, by omega, fun j hj => ?_⟩⟩
      have hj0 : j = 0 := by simp at hj; exact hj
      subst hj0
      rw [World.cell?_alloc_lt _ _ _ (by simp), World.cell?_alloc_at _ _ _ _ rfl]; rfl
    have hBw : Below w.heap.size w ((w.alloc (.cells #[.string a0] 9)).alloc (.cells #[.slice (some ⟨w.heap.size, 0, none⟩) 1 1] 22)) := ((Below.refl _ _).alloc (Nat.le_refl _) _).alloc (by simp) _
    have HBw := hide hBw
    have hsize2 : ((w.alloc (.cells #[.string a0] 9)).alloc (.cells #[.slice (some ⟨w.heap.size, 0, none⟩) 1 1] 22)).heap.size = w.heap.size + 1 + 1 := by simp
    have hE := encode_any (.slice (some ⟨w.heap.size + 1, 0, none⟩) 1 1) [[a0]] ((w.alloc (.cells #[.string a0] 9)).alloc (.cells #[.slice (some ⟨w.heap.size, 0, none⟩) 1 1] 22)) (by omega) (by rw [hsize2]; exact HR.out)
    rw [(encText_full hbare).1, (encText_full hbare).2, ← hS] at hE
    have hD := fun (x : World) (hm : MaxAt x) (hg : ErrTypeAt x) => decode_back [[a0]] x hbare (by omega) hm hg
    simp only [← hS] at hD
    have hm4 := hm.lt
    have hg0 := hg.lt
    have HNO := hide hno
    have hd1 : (decide (n < a0.size)) = false := by simp; omega
    have hd2 : (decide (3 * (a0.size : Int) < (n : Int))) = false := by simp; omega
    have hd3 : (decide ((1024 : Int) < (a0.size : Int))) = false := by simp; omega
    clear hS hSl hget hBw hbare hn hno
    go_enter Tryd.func3, Tryd.ntmps3
    go_wp2_with fail
    refine hE.mono ?_
    rintro e x1 ⟨rfl, hb1⟩
    have HB0 := hide (HR.out.keep (hb1.mono (by rw [hsize2]; exact Nat.le_refl _)))
    have HS1 := hide (Nat.le_trans (Nat.le_of_eq hsize2.symm) hb1.size)
    have HB1 := hide (HBw.out.trans (hb1.mono HBw.out.size))
    clear hb1 hE
    go_wp2
    go_loop [6] (fun i => ∃ k : Nat, k ≤ n ∧ i = .int .i64 k) (fun i => n - (intOf i).toNat)
    case atStart => exact ⟨0, Nat.zero_le _, rfl⟩
    case round =>
      obtain ⟨k, hk, rfl⟩ := hrel
      by_cases hlt : k < n
      · obtain ⟨h44, h10⟩ := HNO.out k hlt
        have hb44 : (((S[k]'(by rw [hsz]; exact Nat.lt_succ_of_lt hlt)).toNat : Int) == 44) = false := by simpa using h44
        have hb10 : (((S[k]'(by rw [hsz]; exact Nat.lt_succ_of_lt hlt)).toNat : Int) == 10) = false := by simpa using h10
        clear h44 h10
        go_wp2
        go_round
        case rel => exact ⟨k + 1, by omega, by go_num⟩
        case measure => simp [intOf]; omega
      · obtain rfl : k = n := by omega
        go_wp2_with fail
        refine (hD _ (hm.keep hm4 HB1.out) (hg.keep hg0 HB1.out)).mono ?_
        rintro e x2 ⟨da, dc, rfl, hb2, ho⟩
        have HB2 := hide (HB1.out.trans (hb2.mono HB1.out.size))
        have HK := hide (HB0.out.keep (hb2.mono HS1.out))
        have HS2 := hide (Nat.le_trans HS1.out hb2.size)
        have HO := hide ho
        clear hb2 ho
        go_wp2_with fail
        refine (same_true _ _ [[a0]] _ (by omega) HO.out (HK.out.mono HS2.out)).mono ?_
        rintro e x3 ⟨rfl, hb3⟩
        have HB3 := hide (HB2.out.trans (hb3.mono HB2.out.size))
        clear hb3
        go_wp2
        go_ret
        exact ⟨rfl, HB3.out⟩
  · go_enter Tryd.func3, Tryd.ntmps3
    go_wp2
    go_ret
    exact ⟨rfl, Below.refl _ _⟩

theorem reads (os : Os) {H : Type} (enc : TypeId × Value → H) : ∃ places, DataW.whole enc Tryd.prog ((errLaid (World.laidAll Tryd.prog os (laid3.filter fun x => x.2.handleName?.isNone))).forCall (fun _ _ => 0) ⟨#[], #[.string ByteArray.empty], []⟩).memory Tryd.f3.params.toList Rows.linesFieldsSpec.vars false #[(.string ByteArray.empty : Value)].toList 8 = some ([.lit (.string [])], [], places) :=
  ⟨[], by kernel_rfl⟩

set_option maxRecDepth 100000 in
theorem lifted (os : Os) (started : os.Started) (H : Type) (enc : TypeId × Value → H) (F : Stop.Interp) :
    ReturnsInHanded {} Tryd.checked os 3 .any ((OpenSpec.ofChange Rows.linesFieldsSpec).preRow enc Tryd.prog Tryd.f3 Rows.linesFieldsRow.domain false Rows.linesFieldsRow.laid) (((OpenSpec.ofChange Rows.linesFieldsSpec).at F).post enc Tryd.prog Tryd.f3 false true false false) := by
  obtain ⟨places, hx⟩ := reads os enc
  refine returnsInHanded_of_row (C := Tryd.checked) (s := OpenSpec.ofChange Rows.linesFieldsSpec) own started (by kernel_rfl) Tryd.func3
    (witness_row_at (enc := enc) (C := Tryd.checked) false (errLaid (World.laidAll Tryd.prog os (laid3.filter fun x => x.2.handleName?.isNone))) #[.string ByteArray.empty] rfl (by kernel_rfl) (by kernel_rfl) (by kernel_rfl)
      (OpenSpec.preRow_of_cond 8 hx (by kernel_rfl) (fun k hk => by cases hk) (by kernel_rfl) (laidWorld_met os _))) ?_
  intro W base args ds gs before hval0 hW _ _ _ hL hsh _
  have hval : ∀ (j : Nat) t v, Tryd.f3.params[j]? = some t → args[j]? = some v → Value.okWide Tryd.prog W .any base t v := hval0
  have hW' := hW
  obtain ⟨p, q, hA0, hV, rfl, hfz, hnd⟩ := hW
  have hA : DataW.TrodAll enc Tryd.prog W 0 (fun _ => true) true Tryd.f3.params.toList args.toList ds p := hA0
  rw [Tryd.params3] at hA hval
  obtain ⟨v0, vs0, d0, ds0, p0, q0, hargs, rfl, rfl, h0, r0⟩ := trodAll_cons hA
  obtain ⟨rfl, rfl, rfl⟩ := trodAll_nil r0
  obtain rfl : args = #[v0] := by cases args; simp_all
  obtain ⟨rfl, rfl⟩ := trodVars_none hV
  have k0 := h0
  have lt0 : ∀ x ∈ p0, x.block < W.heap.size := by obtain ⟨m, hm⟩ := k0; exact DataW.trod_lt m _ _ _ hm
  obtain ⟨a0, rfl, rfl, rfl, w0⟩ := open_string Tryd.underlying9 (hval 0 9 v0 rfl rfl) h0
  clear hA0 hval0
  refine (walk W (max_of hsh) (errType_of hL) a0 w0).mono fun e W' ⟨he, bel⟩ => ?_
  subst he
  exact ⟨_, rfl, _, _, _, [], _, [], hW', trodAll_mk1 (shut_bool Tryd.underlying4 _), (trodAll_cons_mk (Below.trod laidOut (by kernel_rfl) (of_decide_eq_true (by kernel_rfl)) k0 bel lt0) trodAll_mk0), rfl, bel.frame _, fun h => by cases h⟩

theorem said : Rows.LinesFieldsSaid :=
  OpenClaim.holds_of_cond 3 Tryd.f3 rfl rfl rfl rfl rfl rfl rfl ⟨rfl, rfl, rfl, rfl, rfl⟩ rfl rfl rfl rfl rfl (by kernel_rfl) Tryd.func3 (by kernel_rfl)
    (of_decide_eq_true (by kernel_rfl)) (by unfold Func.isWrapper; first | (rw [if_pos (by decide +kernel)]; kernel_rfl) | (rw [if_neg (by decide +kernel)]; exact ⟨rfl, rfl⟩))
    (fun os started H enc _ F => by rw [OpenClaim.pre_eq_preRow]; exact lifted os started H enc F)

theorem plain (f : FuncId) (fn : Func) (hf : Tryd.pinned.checked.prog.funcNamed "paceline/pacelinelaw02.LinesFields" = some f) (hfn : Tryd.pinned.checked.prog.funcs[f]? = some fn) :
    true = Tryd.pinned.checked.prog.looks [] ∧ ∀ (j : Nat) t, fn.params[j]? = some t → Tryd.pinned.checked.prog.wantsStandIn t = false := by
  obtain rfl : f = 3 := Option.some.inj ((show Tryd.prog.funcNamed "paceline/pacelinelaw02.LinesFields" = some 3 by kernel_rfl).symm.trans hf) |>.symm
  obtain rfl : fn = Tryd.f3 := (Option.some.inj (Tryd.func3.symm.trans hfn)).symm
  refine ⟨by kernel_rfl, fun j t ht => ?_⟩
  rw [Tryd.params3] at ht
  have hm : t ∈ [9] := by
    have := Array.mem_of_getElem? ht
    simp at this ⊢
    omega
  have hall : ([9].all fun u => !Tryd.prog.wantsStandIn u) = true := by kernel_rfl
  exact (show Tryd.prog.wantsStandIn t = false by simpa using List.all_eq_true.1 hall t hm)
end Go.Proofs.YtjlcmgfgbmcjpabDoor.linesFields
namespace Go.Proofs.YtjlcmgfgbmcjpabDoor
theorem linesFields_holds : Rows.LinesFieldsCardSaid :=
  Claim7.holds_tied_plain_at .later [] _ _ _ _ linesFields.said (fun _ h => by cases h) (by kernel_rfl) (fun _ h => by cases h) linesFields_row_tie rfl ⟨rfl, rfl⟩ (by kernel_rfl) rfl linesFields.plain (by kernel_rfl)
#print axioms linesFields_holds
end Go.Proofs.YtjlcmgfgbmcjpabDoor
