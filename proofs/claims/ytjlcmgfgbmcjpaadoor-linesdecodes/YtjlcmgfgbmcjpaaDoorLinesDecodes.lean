/- Proved: any text is the rows of the document, or its line and error, and a text that is rows is the text of these rows (LinesDecodes); the listed package-level variables start as the text of the program lays them (the card ties them). -/
import Derived.Test.YtjlcmgfgbmcjpaaDoorCards
import Derived.Test.YtjlcmgfgbmcjpaaDoorTie
import Derived.WalkKit
import Derived.ProofKit
import Derived.OpenShut
import Derived.ShutString
import Derived.ChangeOld
import Derived.Below
import Derived.Test.YtjlcmgfgbmcjpaaDoorTied
import Derived.Test.YtjlcmgfgbmcjpaaDoorSame
import Derived.Test.YtjlcmgfgbmcjpaaDoorHeavy
import Derived.Test.YtjlcmgfgbmcjpaaDoorBack
import Derived.Test.YtjlcmgfgbmcjpaaDoorDec5
namespace Go.Proofs.YtjlcmgfgbmcjpaaDoor.linesDecodes
open Go.ChangeShapes Go.WideShapes Go.ChangeAt Go.RowKit
open Go.ChangeMaps (open_string shut_string)
set_option linter.unusedVariables false

set_option maxRecDepth 100000 in
set_option maxHeartbeats 4000000 in
theorem walk (w : World) (hm : MaxAt w) (hg : ErrTypeAt w) (a0 : ByteArray) (w0 : a0.size ≤ maxLen) :
    Calls Tryd.prog 4 #[.string a0] w fun e w' => e = .returned (.bool true) ∧ Below w.heap.size w w' := by
  by_cases hbig : a0.size ≤ 2048
  · have hm4 := hm.lt
    have hg0 := hg.lt
    cases hd : dec 1 [] [] a0.data.toList with
    | error n =>
      have hD := decode_wrong a0 n w hd (by omega) hm hg
      have hR := fun x => refDecode_wrong a0 n x hd hbig
      have hN : ∀ x : World, IsRows x.heap.size x (.slice none 0 0) [] := fun x => ⟨none, 0, rfl, fun h => absurd rfl h⟩
      have hT := encText_full (rs := []) rfl
      have hE := fun x => encode_any (.slice none 0 0) [] x (by simp [rowsW]) (hN x)
      simp only [hT.1, hT.2] at hE
      clear hd hT
      go_enter Tryd.func4, Tryd.ntmps4
      go_wp2_with fail
      refine hD.mono ?_
      rintro e x1 ⟨rfl, hb1⟩
      have HB1 := hide hb1
      clear hb1 hD
      go_wp2_with fail
      refine (hR _).mono ?_
      rintro e x2 ⟨rfl, hb2⟩
      have HB2 := hide (HB1.out.trans (hb2.mono HB1.out.size))
      clear hb2 hR
      go_wp2_with fail
      refine (same_true _ _ [] _ (by simp [rowsW]) (hN _) (hN _)).mono ?_
      rintro e x3 ⟨rfl, hb3⟩
      have HB3 := hide (HB2.out.trans (hb3.mono HB2.out.size))
      clear hb3
      go_wp2_with fail
      refine (hE _).mono ?_
      rintro e x4 ⟨rfl, hb4⟩
      have HB4 := hide (HB3.out.trans (hb4.mono HB3.out.size))
      clear hb4
      go_wp2
      go_ret
      exact ⟨rfl, HB4.out⟩
    | ok rows =>
      obtain ⟨RS, rfl⟩ := lettersR_all rows
      obtain ⟨hbare, htext, hlen⟩ := rows_text hd
      have hD := decode_rows a0 RS w hd (by omega) hm hg
      have hR := fun x => refDecode_rows a0 RS x hd hbig
      have hT := encText_full hbare
      have hE := fun (v : Value) (x : World) (hv : IsRows x.heap.size x v RS) => encode_any v RS x (by omega) hv
      simp only [hT.1, hT.2, htext] at hE
      clear hd hT hbare htext
      go_enter Tryd.func4, Tryd.ntmps4
      go_wp2_with fail
      refine hD.mono ?_
      rintro e x1 ⟨da, dc, rfl, hb1, ho1⟩
      have HB1 := hide hb1
      have HO1 := hide ho1
      clear hb1 ho1 hD
      go_wp2_with fail
      refine (hR _).mono ?_
      rintro e x2 ⟨db, dd, rfl, hb2, ho2⟩
      have HB2 := hide (HB1.out.trans (hb2.mono HB1.out.size))
      have HO1' := hide ((HO1.out.keep hb2).mono hb2.size)
      have HO2 := hide ho2
      clear hb2 ho2 hR
      go_wp2_with fail
      refine (same_true _ _ RS _ (by omega) HO1'.out HO2.out).mono ?_
      rintro e x3 ⟨rfl, hb3⟩
      have HB3 := hide (HB2.out.trans (hb3.mono HB2.out.size))
      have HO3 := hide ((HO1'.out.keep hb3).mono hb3.size)
      clear hb3
      go_wp2_with fail
      refine (hE _ _ HO3.out).mono ?_
      rintro e x4 ⟨rfl, hb4⟩
      have HB4 := hide (HB3.out.trans (hb4.mono HB3.out.size))
      clear hb4
      go_wp2
      go_ret
      exact ⟨rfl, HB4.out⟩
  · go_enter Tryd.func4, Tryd.ntmps4
    go_wp2
    go_ret
    exact ⟨rfl, Below.refl _ _⟩

theorem reads (os : Os) {H : Type} (enc : TypeId × Value → H) : ∃ places, DataW.whole enc Tryd.prog ((errLaid (World.laidAll Tryd.prog os (laid3.filter fun x => x.2.handleName?.isNone))).forCall (fun _ _ => 0) ⟨#[], #[.string ByteArray.empty], []⟩).memory Tryd.f4.params.toList Rows.linesDecodesSpec.vars false #[(.string ByteArray.empty : Value)].toList 8 = some ([.lit (.string [])], [], places) :=
  ⟨[], by kernel_rfl⟩

set_option maxRecDepth 100000 in
theorem lifted (os : Os) (started : os.Started) (H : Type) (enc : TypeId × Value → H) (F : Stop.Interp) :
    ReturnsInHanded {} Tryd.checked os 4 .any ((OpenSpec.ofChange Rows.linesDecodesSpec).preRow enc Tryd.prog Tryd.f4 Rows.linesDecodesRow.domain false Rows.linesDecodesRow.laid) (((OpenSpec.ofChange Rows.linesDecodesSpec).at F).post enc Tryd.prog Tryd.f4 false true false false) := by
  obtain ⟨places, hx⟩ := reads os enc
  refine returnsInHanded_of_row (C := Tryd.checked) (s := OpenSpec.ofChange Rows.linesDecodesSpec) own started (by kernel_rfl) Tryd.func4
    (witness_row_at (enc := enc) (C := Tryd.checked) false (errLaid (World.laidAll Tryd.prog os (laid3.filter fun x => x.2.handleName?.isNone))) #[.string ByteArray.empty] rfl (by kernel_rfl) (by kernel_rfl) (by kernel_rfl)
      (OpenSpec.preRow_of_cond 8 hx (by kernel_rfl) (fun k hk => by cases hk) (by kernel_rfl) (laidWorld_met os _))) ?_
  intro W base args ds gs before hval0 hW _ _ _ hL hsh _
  have hval : ∀ (j : Nat) t v, Tryd.f4.params[j]? = some t → args[j]? = some v → Value.okWide Tryd.prog W .any base t v := hval0
  have hW' := hW
  obtain ⟨p, q, hA0, hV, rfl, hfz, hnd⟩ := hW
  have hA : DataW.TrodAll enc Tryd.prog W 0 (fun _ => true) true Tryd.f4.params.toList args.toList ds p := hA0
  rw [Tryd.params4] at hA hval
  obtain ⟨v0, vs0, d0, ds0, p0, q0, hargs, rfl, rfl, h0, r0⟩ := trodAll_cons hA
  obtain ⟨rfl, rfl, rfl⟩ := trodAll_nil r0
  obtain rfl : args = #[v0] := by cases args; simp_all
  obtain ⟨rfl, rfl⟩ := trodVars_none hV
  have k0 := h0
  have lt0 : ∀ x ∈ p0, x.block < W.heap.size := by obtain ⟨m, hm⟩ := k0; exact DataW.trod_lt m _ _ _ hm
  obtain ⟨a0, rfl, rfl, rfl, w0⟩ := open_string Tryd.underlying9 (hval 0 9 v0 rfl rfl) h0
  clear hA0 hval0
  refine (walk W (max_of hsh) (errType_of hL) a0 w0).mono fun e W' ⟨he, bel⟩ => ?_
  subst he
  exact ⟨_, rfl, _, _, _, [], _, [], hW', trodAll_mk1 (shut_bool Tryd.underlying4 _), (trodAll_cons_mk (Below.trod laidOut (by kernel_rfl) (of_decide_eq_true (by kernel_rfl)) k0 bel lt0) trodAll_mk0), rfl, bel.frame _, fun h => by cases h⟩

theorem said : Rows.LinesDecodesSaid :=
  OpenClaim.holds_of_cond 4 Tryd.f4 rfl rfl rfl rfl rfl rfl rfl ⟨rfl, rfl, rfl, rfl, rfl⟩ rfl rfl rfl rfl rfl (by kernel_rfl) Tryd.func4 (by kernel_rfl)
    (of_decide_eq_true (by kernel_rfl)) (by unfold Func.isWrapper; first | (rw [if_pos (by decide +kernel)]; kernel_rfl) | (rw [if_neg (by decide +kernel)]; exact ⟨rfl, rfl⟩))
    (fun os started H enc _ F => by rw [OpenClaim.pre_eq_preRow]; exact lifted os started H enc F)

theorem plain (f : FuncId) (fn : Func) (hf : Tryd.pinned.checked.prog.funcNamed "paceline/pacelinelaw02.LinesDecodes" = some f) (hfn : Tryd.pinned.checked.prog.funcs[f]? = some fn) :
    true = Tryd.pinned.checked.prog.looks [] ∧ ∀ (j : Nat) t, fn.params[j]? = some t → Tryd.pinned.checked.prog.wantsStandIn t = false := by
  obtain rfl : f = 4 := Option.some.inj ((show Tryd.prog.funcNamed "paceline/pacelinelaw02.LinesDecodes" = some 4 by kernel_rfl).symm.trans hf) |>.symm
  obtain rfl : fn = Tryd.f4 := (Option.some.inj (Tryd.func4.symm.trans hfn)).symm
  refine ⟨by kernel_rfl, fun j t ht => ?_⟩
  rw [Tryd.params4] at ht
  have hm : t ∈ [9] := by
    have := Array.mem_of_getElem? ht
    simp at this ⊢
    first | omega | (rcases this with h | h <;> simp [h]) | (rcases this with h | h | h <;> simp [h])
  have hall : ([9].all fun u => !Tryd.prog.wantsStandIn u) = true := by kernel_rfl
  exact (show Tryd.prog.wantsStandIn t = false by simpa using List.all_eq_true.1 hall t hm)
end Go.Proofs.YtjlcmgfgbmcjpaaDoor.linesDecodes
namespace Go.Proofs.YtjlcmgfgbmcjpaaDoor
theorem linesDecodes_holds : Rows.LinesDecodesCardSaid :=
  Claim7.holds_tied_plain_at .later [] _ _ _ _ linesDecodes.said (fun _ h => by cases h) (by kernel_rfl) (fun _ h => by cases h) linesDecodes_row_tie rfl ⟨rfl, rfl⟩ (by kernel_rfl) rfl linesDecodes.plain (by kernel_rfl)
#print axioms linesDecodes_holds
end Go.Proofs.YtjlcmgfgbmcjpaaDoor
