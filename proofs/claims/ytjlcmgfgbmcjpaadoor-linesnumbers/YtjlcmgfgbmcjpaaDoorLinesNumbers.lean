/- Proved: the digits of any integer, and any text as an integer, are those of the document, and what is within the bounds is read back (LinesNumbers); the listed package-level variables start as the text of the program lays them (the card ties them). -/
import Derived.Test.YtjlcmgfgbmcjpaaDoorCards
import Derived.Test.YtjlcmgfgbmcjpaaDoorTie
import Derived.WalkKit
import Derived.ProofKit
import Derived.OpenShut
import Derived.ShutString
import Derived.ChangeOld
import Derived.Below
import Derived.Test.YtjlcmgfgbmcjpaaDoorTiedN
import Derived.Test.YtjlcmgfgbmcjpaaDoorNum3
import Derived.DataShut
import Derived.Deep.DeepHandedRow
namespace Go.Proofs.YtjlcmgfgbmcjpaaDoor.linesNumbers
open Go.ChangeShapes Go.WideShapes Go.ChangeAt Go.RowKit
open Go.ChangeMaps (open_string shut_string)
set_option linter.unusedVariables false

set_option maxRecDepth 100000 in
set_option maxHeartbeats 4000000 in
theorem walk (w : World) (hL : TabsN w) (a0 : Int) (w0 : (Lit.int .i64 a0).wf = true) (a1 : ByteArray) (w1 : a1.size ≤ maxLen) :
    Calls Tryd.prog 6 #[.int .i64 a0, .string a1] w fun e w' => e = .returned (.bool true) ∧ Below w.heap.size w w' := by
  have hn : NumAt w := hL
  have hb : -9223372036854775808 ≤ a0 ∧ a0 ≤ 9223372036854775807 := (Lit.wf_int_iff .i64 a0).1 w0
  by_cases hbig : a1.size ≤ 1024
  · have hs1 : ¬ ((1024 : Int) < (a1.size : Int)) := by omega
    have hA := fun (x : World) (h : NumAt x) => num_any a1 x (by omega) h
    have hB := fun (x : World) => refNum_any a1 x hbig
    have hC := fun (x : World) (h : NumAt x) => int_any a0 x hb.1 hb.2 h.1
    have hD := fun (x : World) => refInt_any a0 x hb.1 hb.2
    obtain ⟨T, hT⟩ : ∃ T : ByteArray, T = ⟨(Lib.itoa a0).toArray⟩ := ⟨_, rfl⟩
    have hTd : T.data.toList = Lib.itoa a0 := by rw [hT]
    have hTs : T.size ≤ 1073741824 := by
      have h1 := congrArg List.length hTd
      rw [lenN] at h1
      have h2 : (Lib.itoa a0).length ≤ 20 := by
        unfold Lib.itoa
        split
        · have := dec_len a0.natAbs (by omega); simp; omega
        · have := dec_len a0.toNat (by omega); omega
      omega
    have hE := fun (x : World) (h : NumAt x) => num_any T x hTs h
    simp only [← hT] at hC hD
    rw [hTd] at hE
    obtain ⟨m, hm⟩ : ∃ m, m = numN a1.data.toList := ⟨_, rfl⟩
    obtain ⟨f, hf⟩ : ∃ f, f = numE a1.data.toList := ⟨_, rfl⟩
    simp only [← hm, ← hf] at hA hB
    clear hm hf hT hTd
    by_cases ho : a0 < -1152921504606846976 ∨ 1152921504606846976 < a0
    · obtain ⟨e1, e2⟩ := num_none (numOf_big a0 hb ho)
      simp only [e1, e2] at hE
      clear e1 e2
      go_enter Tryd.func6, Tryd.ntmps6
      go_wp2_with fail
      refine (hA _ hn).mono ?_
      rintro e x1 ⟨rfl, hb1⟩
      have hn1 := hn.keep hb1
      have HB1 := hideN hb1
      clear hb1
      go_wp2_with fail
      refine (hB _).mono ?_
      rintro e x2 ⟨rfl, hx⟩
      rw [hx]
      clear hx
      go_wp2_with fail
      refine (hC _ hn1).mono ?_
      rintro e x3 ⟨rfl, hb3⟩
      have hn3 := hn1.keep hb3
      have HB3 := hideN (HB1.out.trans (hb3.mono HB1.out.size))
      clear hb3
      go_wp2_with fail
      refine (hE _ hn3).mono ?_
      rintro e x4 ⟨rfl, hb4⟩
      have HB4 := hideN (HB3.out.trans (hb4.mono HB3.out.size))
      clear hb4
      go_wp2_with fail
      refine (hD _).mono ?_
      rintro e x5 ⟨rfl, hx⟩
      rw [hx]
      clear hx
      go_wp2
      all_goals first | (exfalso; omega) | skip
      all_goals go_ret
      all_goals exact ⟨rfl, HB4.out⟩
    · obtain ⟨e1, e2⟩ := num_some (numOf_itoa a0 (by omega) (by omega))
      simp only [e1, e2] at hE
      clear e1 e2
      go_enter Tryd.func6, Tryd.ntmps6
      go_wp2_with fail
      refine (hA _ hn).mono ?_
      rintro e x1 ⟨rfl, hb1⟩
      have hn1 := hn.keep hb1
      have HB1 := hideN hb1
      clear hb1
      go_wp2_with fail
      refine (hB _).mono ?_
      rintro e x2 ⟨rfl, hx⟩
      rw [hx]
      clear hx
      go_wp2_with fail
      refine (hC _ hn1).mono ?_
      rintro e x3 ⟨rfl, hb3⟩
      have hn3 := hn1.keep hb3
      have HB3 := hideN (HB1.out.trans (hb3.mono HB1.out.size))
      clear hb3
      go_wp2_with fail
      refine (hE _ hn3).mono ?_
      rintro e x4 ⟨rfl, hb4⟩
      have HB4 := hideN (HB3.out.trans (hb4.mono HB3.out.size))
      clear hb4
      go_wp2_with fail
      refine (hD _).mono ?_
      rintro e x5 ⟨rfl, hx⟩
      rw [hx]
      clear hx
      go_wp2
      all_goals first | (exfalso; omega) | skip
      all_goals go_ret
      all_goals exact ⟨rfl, HB4.out⟩
  · have hs1 : (1024 : Int) < (a1.size : Int) := by omega
    go_enter Tryd.func6, Tryd.ntmps6
    go_wp2
    go_ret
    exact ⟨rfl, Below.refl _ _⟩

theorem reads (os : Os) {H : Type} (enc : TypeId × Value → H) : ∃ places, DataW.whole enc Tryd.prog ((World.laidAll Tryd.prog os laidC).forCall (fun _ _ => 0) ⟨#[], #[.int .i64 0, .string ByteArray.empty], []⟩).memory Tryd.f6.params.toList Rows.linesNumbersSpec.vars false #[(.int .i64 0 : Value), (.string ByteArray.empty : Value)].toList 8 = some ([.lit (.int .i64 0), .lit (.string [])], [], places) :=
  ⟨[], by kernel_rfl⟩

set_option maxRecDepth 100000 in
theorem lifted (os : Os) (started : os.Started) (H : Type) (enc : TypeId × Value → H) (F : Stop.Interp) :
    ReturnsInHanded {} Tryd.checked os 6 .any ((OpenSpec.ofChange Rows.linesNumbersSpec).preRow enc Tryd.prog Tryd.f6 Rows.linesNumbersRow.domain false Rows.linesNumbersRow.laid) (((OpenSpec.ofChange Rows.linesNumbersSpec).at F).post enc Tryd.prog Tryd.f6 false true false false) := by
  obtain ⟨places, hx⟩ := reads os enc
  refine returnsInHanded_of_row (C := Tryd.checked) (s := OpenSpec.ofChange Rows.linesNumbersSpec) own started (by kernel_rfl) Tryd.func6
    (witness_row_at (enc := enc) (C := Tryd.checked) false (World.laidAll Tryd.prog os laidC) #[.int .i64 0, .string ByteArray.empty] rfl (by kernel_rfl) (by kernel_rfl) (by kernel_rfl)
      (OpenSpec.preRow_of_cond 8 hx (by kernel_rfl) (fun k hk => by cases hk) (by kernel_rfl) (laidWorldC_met os _))) ?_
  intro W base args ds gs before hval0 hW _ _ _ hL hsh _
  have hval : ∀ (j : Nat) t v, Tryd.f6.params[j]? = some t → args[j]? = some v → Value.okWide Tryd.prog W .any base t v := hval0
  have hW' := hW
  obtain ⟨p, q, hA0, hV, rfl, hfz, hnd⟩ := hW
  have hA : DataW.TrodAll enc Tryd.prog W 0 (fun _ => true) true Tryd.f6.params.toList args.toList ds p := hA0
  rw [Tryd.params6] at hA hval
  obtain ⟨v0, vs0, d0, ds0, p0, q0, hargs, rfl, rfl, h0, r0⟩ := trodAll_cons hA
  obtain ⟨v1, vs1, d1, ds1, p1, q1, rfl, rfl, rfl, h1, r1⟩ := trodAll_cons r0
  obtain ⟨rfl, rfl, rfl⟩ := trodAll_nil r1
  obtain rfl : args = #[v0, v1] := by cases args; simp_all
  obtain ⟨rfl, rfl⟩ := trodVars_none hV
  have k0 := h0
  have lt0 : ∀ x ∈ p0, x.block < W.heap.size := by obtain ⟨m, hm⟩ := k0; exact DataW.trod_lt m _ _ _ hm
  have k1 := h1
  have lt1 : ∀ x ∈ p1, x.block < W.heap.size := by obtain ⟨m, hm⟩ := k1; exact DataW.trod_lt m _ _ _ hm
  obtain ⟨a0, rfl, rfl, rfl, w0⟩ := open_int Tryd.underlying3 (hval 0 3 v0 rfl rfl) h0
  obtain ⟨a1, rfl, rfl, rfl, w1⟩ := open_string Tryd.underlying9 (hval 1 9 v1 rfl rfl) h1
  clear hA0 hval0
  refine (walk W (tabsN_of hL) a0 w0 a1 w1).mono fun e W' ⟨he, bel⟩ => ?_
  subst he
  exact ⟨_, rfl, _, _, _, [], _, [], hW', trodAll_mk1 (shut_bool Tryd.underlying4 _), (trodAll_cons_mk (Below.trod laidOut (by kernel_rfl) (of_decide_eq_true (by kernel_rfl)) k0 bel lt0) (trodAll_cons_mk (Below.trod laidOut (by kernel_rfl) (of_decide_eq_true (by kernel_rfl)) k1 bel lt1) trodAll_mk0)), rfl, bel.frame _, fun h => by cases h⟩

theorem said : Rows.LinesNumbersSaid :=
  OpenClaim.holds_of_cond 6 Tryd.f6 rfl rfl rfl rfl rfl rfl rfl ⟨rfl, rfl, rfl, rfl, rfl⟩ rfl rfl rfl rfl rfl (by kernel_rfl) Tryd.func6 (by kernel_rfl)
    (of_decide_eq_true (by kernel_rfl)) (by unfold Func.isWrapper; first | (rw [if_pos (by decide +kernel)]; kernel_rfl) | (rw [if_neg (by decide +kernel)]; exact ⟨rfl, rfl⟩))
    (fun os started H enc _ F => by rw [OpenClaim.pre_eq_preRow]; exact lifted os started H enc F)

theorem plain (f : FuncId) (fn : Func) (hf : Tryd.pinned.checked.prog.funcNamed "paceline/pacelinelaw02.LinesNumbers" = some f) (hfn : Tryd.pinned.checked.prog.funcs[f]? = some fn) :
    true = Tryd.pinned.checked.prog.looks [] ∧ ∀ (j : Nat) t, fn.params[j]? = some t → Tryd.pinned.checked.prog.wantsStandIn t = false := by
  obtain rfl : f = 6 := Option.some.inj ((show Tryd.prog.funcNamed "paceline/pacelinelaw02.LinesNumbers" = some 6 by kernel_rfl).symm.trans hf) |>.symm
  obtain rfl : fn = Tryd.f6 := (Option.some.inj (Tryd.func6.symm.trans hfn)).symm
  refine ⟨by kernel_rfl, fun j t ht => ?_⟩
  rw [Tryd.params6] at ht
  have hm : t ∈ [3, 9] := by
    have := Array.mem_of_getElem? ht
    simp at this ⊢
    first | omega | (rcases this with h | h <;> simp [h]) | (rcases this with h | h | h <;> simp [h])
  have hall : ([3, 9].all fun u => !Tryd.prog.wantsStandIn u) = true := by kernel_rfl
  exact (show Tryd.prog.wantsStandIn t = false by simpa using List.all_eq_true.1 hall t hm)
end Go.Proofs.YtjlcmgfgbmcjpaaDoor.linesNumbers
namespace Go.Proofs.YtjlcmgfgbmcjpaaDoor
theorem linesNumbers_holds : Rows.LinesNumbersCardSaid :=
  Claim7.holds_tied_plain_at .later [] _ _ _ _ linesNumbers.said (fun _ h => by cases h) (by kernel_rfl) (fun _ h => by cases h) linesNumbers_row_tie rfl ⟨rfl, rfl⟩ (by kernel_rfl) rfl linesNumbers.plain (by kernel_rfl)
#print axioms linesNumbers_holds
end Go.Proofs.YtjlcmgfgbmcjpaaDoor
