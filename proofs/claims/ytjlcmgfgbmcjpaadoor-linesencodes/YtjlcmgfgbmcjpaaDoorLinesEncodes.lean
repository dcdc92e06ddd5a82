/- Proved: any rows are the document's text, or refused, and are read back (LinesEncodes); the listed package-level variables start as the program's text lays them (the card ties them). -/
import Derived.Test.YtjlcmgfgbmcjpaaDoorCards
import Derived.Test.YtjlcmgfgbmcjpaaDoorTie
import Derived.WalkKit
import Derived.ProofKit
import Derived.OpenShut
import Derived.ShutString
import Derived.ChangeOld
import Derived.Below
import Derived.Test.YtjlcmgfgbmcjpaaDoorTied
import Derived.Test.YtjlcmgfgbmcjpaaDoorSame
import Derived.Test.YtjlcmgfgbmcjpaaDoorHeavy
import Derived.Test.YtjlcmgfgbmcjpaaDoorBack
namespace Go.Proofs.YtjlcmgfgbmcjpaaDoor.linesEncodes
open Go.ChangeShapes Go.WideShapes Go.ChangeAt Go.RowKit
open Go.ChangeMaps (open_string shut_string)
set_option linter.unusedVariables false

set_option maxRecDepth 100000 in
set_option maxHeartbeats 4000000 in
theorem walk (w : World) (hm : MaxAt w) (hg : ErrTypeAt w) (v0 : Value) (a0 : List (List ByteArray)) (w0 : IsRows w.heap.size w v0 a0) :
    Calls Tryd.prog 3 #[v0] w fun e w' => e = .returned (.bool true) ∧ Below w.heap.size w w' := by
  cases hbare : bare a0 with
  | true =>
    have HT := hide (encText_bare hbare)
    have hE := fun (hl : rowsW a0 ≤ 2048) => encode_any v0 a0 w (by omega) w0
    have hR := fun (w1 : World) (hl : rowsW a0 ≤ 2048) (hv : IsRows w1.heap.size w1 v0 a0) => refEncode_any v0 a0 w1 hl hv
    rw [HT.out.1, HT.out.2] at hE
    simp only [HT.out.1, HT.out.2] at hR
    clear hbare
    go_enter Tryd.func3, Tryd.ntmps3
    go_wp2_with (first | (go_at_call 9; refine (heavy_any _ a0 _ w0).mono ?_; rintro e w1 ⟨b, rfl, rfl, hb⟩; have HH := hide hb; clear hb; cases b) | (go_at_call 10; refine (hE (HH.out (by simp))).mono ?_; rintro e w1 ⟨rfl, hb1⟩; have HB1 := hide hb1; clear hb1) | (go_at_call 11; refine (hR _ (HH.out (by simp)) ((w0.keep HB1.out).mono HB1.out.size)).mono ?_; rintro e w2 ⟨rfl, hb2⟩; have HB2 := hide hb2; clear hb2))
    all_goals go_ret
    all_goals first | exact ⟨rfl, Below.refl _ _⟩ | exact ⟨rfl, HB1.out.trans (HB2.out.mono HB1.out.size)⟩
  | false =>
    have HT := hide (encText_full hbare)
    have hE := fun (hl : rowsW a0 ≤ 2048) => encode_any v0 a0 w (by omega) w0
    have hR := fun (w1 : World) (hl : rowsW a0 ≤ 2048) (hv : IsRows w1.heap.size w1 v0 a0) => refEncode_any v0 a0 w1 hl hv
    have hD := fun (w1 : World) (hl : rowsW a0 ≤ 2048) (hm : MaxAt w1) (hg : ErrTypeAt w1) => decode_back a0 w1 hbare (by omega) hm hg
    rw [HT.out.1, HT.out.2] at hE
    simp only [HT.out.1, HT.out.2] at hR
    clear hbare
    have hm4 := hm.lt
    have hg0 := hg.lt
    go_enter Tryd.func3, Tryd.ntmps3
    go_wp2_with (first | (go_at_call 9; refine (heavy_any _ a0 _ w0).mono ?_; rintro e w1 ⟨b, rfl, rfl, hb⟩; have HH := hide hb; clear hb; cases b) | (go_at_call 10; refine (hE (HH.out (by simp))).mono ?_; rintro e w1 ⟨rfl, hb1⟩; have HB1 := hide hb1; clear hb1) | (go_at_call 11; refine (hR _ (HH.out (by simp)) ((w0.keep HB1.out).mono HB1.out.size)).mono ?_; rintro e w2 ⟨rfl, hb2⟩; have HB2 := hide (HB1.out.trans (hb2.mono HB1.out.size)); clear hb2) | (go_at_call 12; refine (hD _ (HH.out (by simp)) (hm.keep hm4 HB2.out) (hg.keep hg0 HB2.out)).mono ?_; rintro e w3 ⟨da, dc, rfl, hb3, ho⟩; have HB3 := hide (HB2.out.trans (hb3.mono HB2.out.size)); have HO := hide ho; clear hb3 ho) | (go_at_call 13; refine (same_true _ _ a0 _ (by have := HH.out (by simp); omega) HO.out ((w0.keep HB3.out).mono HB3.out.size)).mono ?_; rintro e w4 ⟨rfl, hb4⟩; have HB4 := hide (HB3.out.trans (hb4.mono HB3.out.size)); clear hb4))
    all_goals go_ret
    all_goals first | exact ⟨rfl, Below.refl _ _⟩ | exact ⟨rfl, HB4.out⟩

theorem reads (os : Os) {H : Type} (enc : TypeId × Value → H) : ∃ places, DataW.whole enc Tryd.prog ((errLaid (World.laidAll Tryd.prog os (laid3.filter fun x => x.2.handleName?.isNone))).forCall (fun _ _ => 0) ⟨#[], #[.slice none 0 0], []⟩).memory Tryd.f3.params.toList Rows.linesEncodesSpec.vars false #[(.slice none 0 0 : Value)].toList 8 = some ([.nil], [], places) :=
  ⟨[], by kernel_rfl⟩

set_option maxRecDepth 100000 in
theorem lifted (os : Os) (started : os.Started) (H : Type) (enc : TypeId × Value → H) (F : Stop.Interp) :
    ReturnsInHanded {} Tryd.checked os 3 .any ((OpenSpec.ofChange Rows.linesEncodesSpec).preRow enc Tryd.prog Tryd.f3 Rows.linesEncodesRow.domain false Rows.linesEncodesRow.laid) (((OpenSpec.ofChange Rows.linesEncodesSpec).at F).post enc Tryd.prog Tryd.f3 false true false false) := by
  obtain ⟨places, hx⟩ := reads os enc
  refine returnsInHanded_of_row (C := Tryd.checked) (s := OpenSpec.ofChange Rows.linesEncodesSpec) own started (by kernel_rfl) Tryd.func3
    (witness_row_at (enc := enc) (C := Tryd.checked) false (errLaid (World.laidAll Tryd.prog os (laid3.filter fun x => x.2.handleName?.isNone))) #[.slice none 0 0] rfl (by kernel_rfl) (by kernel_rfl) (by kernel_rfl)
      (OpenSpec.preRow_of_cond 8 hx (by kernel_rfl) (fun k hk => by cases hk) (by kernel_rfl) (laidWorld_met os _))) ?_
  intro W base args ds gs before hval0 hW _ _ _ hL hsh _
  have hval : ∀ (j : Nat) t v, Tryd.f3.params[j]? = some t → args[j]? = some v → Value.okWide Tryd.prog W .any base t v := hval0
  have hW' := hW
  obtain ⟨p, q, hA0, hV, rfl, hfz, hnd⟩ := hW
  have hA : DataW.TrodAll enc Tryd.prog W 0 (fun _ => true) true Tryd.f3.params.toList args.toList ds p := hA0
  rw [Tryd.params3] at hA hval
  obtain ⟨v0, vs0, d0, ds0, p0, q0, hargs, rfl, rfl, h0, r0⟩ := trodAll_cons hA
  obtain ⟨rfl, rfl, rfl⟩ := trodAll_nil r0
  obtain rfl : args = #[v0] := by cases args; simp_all
  obtain ⟨rfl, rfl⟩ := trodVars_none hV
  have k0 := h0
  have lt0 : ∀ x ∈ p0, x.block < W.heap.size := by obtain ⟨m, hm⟩ := k0; exact DataW.trod_lt m _ _ _ hm
  obtain ⟨sa0, sl0, sc0, rfl⟩ := okWide_slice Tryd.underlying22 (hval 0 22 v0 rfl rfl)
  obtain ⟨a0, w0⟩ : ∃ rs, IsRows W.heap.size W (.slice sa0 sl0 sc0) rs := by
    obtain ⟨fuel, hf⟩ := h0
    exact open_rows hf
  clear hA0 hval0
  refine (walk W (max_of hsh) (errType_of hL) _ a0 w0).mono fun e W' ⟨he, bel⟩ => ?_
  subst he
  exact ⟨_, rfl, _, _, _, [], _, [], hW', trodAll_mk1 (shut_bool Tryd.underlying4 _), (trodAll_cons_mk (Below.trod laidOut (by kernel_rfl) (of_decide_eq_true (by kernel_rfl)) k0 bel lt0) trodAll_mk0), rfl, bel.frame _, fun h => by cases h⟩

theorem said : Rows.LinesEncodesSaid :=
  OpenClaim.holds_of_cond 3 Tryd.f3 rfl rfl rfl rfl rfl rfl rfl ⟨rfl, rfl, rfl, rfl, rfl⟩ rfl rfl rfl rfl rfl (by kernel_rfl) Tryd.func3 (by kernel_rfl)
    (of_decide_eq_true (by kernel_rfl)) (by unfold Func.isWrapper; first | (rw [if_pos (by decide +kernel)]; kernel_rfl) | (rw [if_neg (by decide +kernel)]; exact ⟨rfl, rfl⟩))
    (fun os started H enc _ F => by rw [OpenClaim.pre_eq_preRow]; exact lifted os started H enc F)

theorem plain (f : FuncId) (fn : Func) (hf : Tryd.pinned.checked.prog.funcNamed "paceline/pacelinelaw02.LinesEncodes" = some f) (hfn : Tryd.pinned.checked.prog.funcs[f]? = some fn) :
    true = Tryd.pinned.checked.prog.looks [] ∧ ∀ (j : Nat) t, fn.params[j]? = some t → Tryd.pinned.checked.prog.wantsStandIn t = false := by
  obtain rfl : f = 3 := Option.some.inj ((show Tryd.prog.funcNamed "paceline/pacelinelaw02.LinesEncodes" = some 3 by kernel_rfl).symm.trans hf) |>.symm
  obtain rfl : fn = Tryd.f3 := (Option.some.inj (Tryd.func3.symm.trans hfn)).symm
  refine ⟨by kernel_rfl, fun j t ht => ?_⟩
  rw [Tryd.params3] at ht
  have hm : t ∈ [22] := by
    have := Array.mem_of_getElem? ht
    simp at this ⊢
    omega
  have hall : ([22].all fun u => !Tryd.prog.wantsStandIn u) = true := by kernel_rfl
  exact (show Tryd.prog.wantsStandIn t = false by simpa using List.all_eq_true.1 hall t hm)
end Go.Proofs.YtjlcmgfgbmcjpaaDoor.linesEncodes
namespace Go.Proofs.YtjlcmgfgbmcjpaaDoor
theorem linesEncodes_holds : Rows.LinesEncodesCardSaid :=
  Claim7.holds_tied_plain_at .later [] _ _ _ _ linesEncodes.said (fun _ h => by cases h) (by kernel_rfl) (fun _ h => by cases h) linesEncodes_row_tie rfl ⟨rfl, rfl⟩ (by kernel_rfl) rfl linesEncodes.plain (by kernel_rfl)
#print axioms linesEncodes_holds
end Go.Proofs.YtjlcmgfgbmcjpaaDoor
