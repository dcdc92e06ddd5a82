/- Proved: any text is sealed as the document says, and unsealed, and any text is what the document says that was sealed, or nothing (LinesSeals); the listed package-level variables start as the text of the program lays them (the card ties them). -/
import Derived.Test.YtjlcmgfgbmcjpaaDoorCards
import Derived.Test.YtjlcmgfgbmcjpaaDoorTie
import Derived.WalkKit
import Derived.ProofKit
import Derived.OpenShut
import Derived.ShutString
import Derived.ChangeOld
import Derived.Below
import Derived.Test.YtjlcmgfgbmcjpaaDoorTiedS
import Derived.DataShut
import Derived.Deep.DeepHandedRow
namespace Go.Proofs.YtjlcmgfgbmcjpaaDoor.linesSeals
open Go.ChangeShapes Go.WideShapes Go.ChangeAt Go.RowKit
open Go.ChangeMaps (open_string shut_string)
set_option linter.unusedVariables false

set_option maxRecDepth 100000 in
set_option maxHeartbeats 4000000 in
theorem walk (w : World) (hL : ShAt w) (a0 : ByteArray) (w0 : a0.size ≤ maxLen) (a1 : ByteArray) (w1 : a1.size ≤ maxLen) :
    Calls Tryd.prog 7 #[.string a0, .string a1] w fun e w' => e = .returned (.bool true) ∧ Below w.heap.size w w' := by
  by_cases hb : a0.size ≤ 2048 ∧ a1.size ≤ 2048
  · obtain ⟨h0, h1⟩ := hb
    have hs0 : ¬ ((2048 : Int) < (a0.size : Int)) := by omega
    have hs1 : ¬ ((2048 : Int) < (a1.size : Int)) := by omega
    have hA := fun (x : World) (h : ShAt x) => seal_any a0 x (by omega) h
    have hX := sealB_size a0
    have hU := fun (x : World) (h : ShAt x) => unseal_any (sealB a0) x (by omega) h
    obtain ⟨e1, e2⟩ := un_yes (sealed_seal a0)
    simp only [e1, e2, front_seal] at hU
    obtain ⟨X, hXX⟩ : ∃ X, X = sealB a0 := ⟨_, rfl⟩
    have hV := fun (x : World) (h : ShAt x) => unseal_any a1 x (by omega) h
    have hW := fun (x : World) => refUnseal_any a1 x (by omega)
    have hR := fun (x : World) => refSeal_any a0 x (by omega)
    have hM := fun (x : World) => sum_any a0 x (by omega)
    have hN := fun (x : World) => refSum_any a0 x (by omega)
    obtain ⟨Y, hY⟩ : ∃ Y, Y = unT a1 := ⟨_, rfl⟩
    obtain ⟨f, hf⟩ : ∃ f, f = unE a1 := ⟨_, rfl⟩
    obtain ⟨m, hm⟩ : ∃ m, m = sumI a0 := ⟨_, rfl⟩
    simp only [← hXX] at hA hU hR
    simp only [← hY, ← hf] at hV hW
    simp only [← hm] at hM hN
    clear e1 e2 hX hXX hY hf hm
    go_enter Tryd.func7, Tryd.ntmps7
    go_wp2_with fail
    refine (hA _ hL).mono ?_
    rintro e x1 ⟨rfl, hb1⟩
    have hL1 := hL.keep hb1
    have HB1 := hideH hb1
    clear hb1
    go_wp2_with fail
    refine (hU _ hL1).mono ?_
    rintro e x2 ⟨rfl, hb2⟩
    have hL2 := hL1.keep hb2
    have HB2 := hideH (HB1.out.trans (hb2.mono HB1.out.size))
    clear hb2
    go_wp2_with fail
    refine (hV _ hL2).mono ?_
    rintro e x3 ⟨rfl, hb3⟩
    have HB3 := hideH (HB2.out.trans (hb3.mono HB2.out.size))
    clear hb3
    go_wp2_with fail
    refine (hW _).mono ?_
    rintro e x4 ⟨rfl, hx⟩
    rw [hx]
    clear hx
    go_wp2_with (first | (go_at_call 22; refine (hR _).mono ?_; rintro e y ⟨rfl, rfl⟩) | (go_at_call 23; refine (hM _).mono ?_; rintro e y ⟨rfl, rfl⟩) | (go_at_call 24; refine (hN _).mono ?_; rintro e y ⟨rfl, rfl⟩))
    go_ret
    exact ⟨rfl, HB3.out⟩
  · go_enter Tryd.func7, Tryd.ntmps7
    go_wp2
    all_goals first | (exfalso; omega) | skip
    all_goals go_ret
    all_goals exact ⟨rfl, Below.refl _ _⟩

theorem reads (os : Os) {H : Type} (enc : TypeId × Value → H) : ∃ places, DataW.whole enc Tryd.prog ((World.laidAll Tryd.prog os laidB).forCall (fun _ _ => 0) ⟨#[], #[.string ByteArray.empty, .string ByteArray.empty], []⟩).memory Tryd.f7.params.toList Rows.linesSealsSpec.vars false #[(.string ByteArray.empty : Value), (.string ByteArray.empty : Value)].toList 8 = some ([.lit (.string []), .lit (.string [])], [], places) :=
  ⟨[], by kernel_rfl⟩

set_option maxRecDepth 100000 in
theorem lifted (os : Os) (started : os.Started) (H : Type) (enc : TypeId × Value → H) (F : Stop.Interp) :
    ReturnsInHanded {} Tryd.checked os 7 .any ((OpenSpec.ofChange Rows.linesSealsSpec).preRow enc Tryd.prog Tryd.f7 Rows.linesSealsRow.domain false Rows.linesSealsRow.laid) (((OpenSpec.ofChange Rows.linesSealsSpec).at F).post enc Tryd.prog Tryd.f7 false true false false) := by
  obtain ⟨places, hx⟩ := reads os enc
  refine returnsInHanded_of_row (C := Tryd.checked) (s := OpenSpec.ofChange Rows.linesSealsSpec) own started (by kernel_rfl) Tryd.func7
    (witness_row_at (enc := enc) (C := Tryd.checked) false (World.laidAll Tryd.prog os laidB) #[.string ByteArray.empty, .string ByteArray.empty] rfl (by kernel_rfl) (by kernel_rfl) (by kernel_rfl)
      (OpenSpec.preRow_of_cond 8 hx (by kernel_rfl) (fun k hk => by cases hk) (by kernel_rfl) (laidWorldB_met os _))) ?_
  intro W base args ds gs before hval0 hW _ _ _ hL hsh _
  have hval : ∀ (j : Nat) t v, Tryd.f7.params[j]? = some t → args[j]? = some v → Value.okWide Tryd.prog W .any base t v := hval0
  have hW' := hW
  obtain ⟨p, q, hA0, hV, rfl, hfz, hnd⟩ := hW
  have hA : DataW.TrodAll enc Tryd.prog W 0 (fun _ => true) true Tryd.f7.params.toList args.toList ds p := hA0
  rw [Tryd.params7] at hA hval
  obtain ⟨v0, vs0, d0, ds0, p0, q0, hargs, rfl, rfl, h0, r0⟩ := trodAll_cons hA
  obtain ⟨v1, vs1, d1, ds1, p1, q1, rfl, rfl, rfl, h1, r1⟩ := trodAll_cons r0
  obtain ⟨rfl, rfl, rfl⟩ := trodAll_nil r1
  obtain rfl : args = #[v0, v1] := by cases args; simp_all
  obtain ⟨rfl, rfl⟩ := trodVars_none hV
  have k0 := h0
  have lt0 : ∀ x ∈ p0, x.block < W.heap.size := by obtain ⟨m, hm⟩ := k0; exact DataW.trod_lt m _ _ _ hm
  have k1 := h1
  have lt1 : ∀ x ∈ p1, x.block < W.heap.size := by obtain ⟨m, hm⟩ := k1; exact DataW.trod_lt m _ _ _ hm
  obtain ⟨a0, rfl, rfl, rfl, w0⟩ := open_string Tryd.underlying9 (hval 0 9 v0 rfl rfl) h0
  obtain ⟨a1, rfl, rfl, rfl, w1⟩ := open_string Tryd.underlying9 (hval 1 9 v1 rfl rfl) h1
  clear hA0 hval0
  refine (walk W (sh_of hL) a0 w0 a1 w1).mono fun e W' ⟨he, bel⟩ => ?_
  subst he
  exact ⟨_, rfl, _, _, _, [], _, [], hW', trodAll_mk1 (shut_bool Tryd.underlying4 _), (trodAll_cons_mk (Below.trod laidOut (by kernel_rfl) (of_decide_eq_true (by kernel_rfl)) k0 bel lt0) (trodAll_cons_mk (Below.trod laidOut (by kernel_rfl) (of_decide_eq_true (by kernel_rfl)) k1 bel lt1) trodAll_mk0)), rfl, bel.frame _, fun h => by cases h⟩

theorem said : Rows.LinesSealsSaid :=
  OpenClaim.holds_of_cond 7 Tryd.f7 rfl rfl rfl rfl rfl rfl rfl ⟨rfl, rfl, rfl, rfl, rfl⟩ rfl rfl rfl rfl rfl (by kernel_rfl) Tryd.func7 (by kernel_rfl)
    (of_decide_eq_true (by kernel_rfl)) (by unfold Func.isWrapper; first | (rw [if_pos (by decide +kernel)]; kernel_rfl) | (rw [if_neg (by decide +kernel)]; exact ⟨rfl, rfl⟩))
    (fun os started H enc _ F => by rw [OpenClaim.pre_eq_preRow]; exact lifted os started H enc F)

theorem plain (f : FuncId) (fn : Func) (hf : Tryd.pinned.checked.prog.funcNamed "paceline/pacelinelaw02.LinesSeals" = some f) (hfn : Tryd.pinned.checked.prog.funcs[f]? = some fn) :
    true = Tryd.pinned.checked.prog.looks [] ∧ ∀ (j : Nat) t, fn.params[j]? = some t → Tryd.pinned.checked.prog.wantsStandIn t = false := by
  obtain rfl : f = 7 := Option.some.inj ((show Tryd.prog.funcNamed "paceline/pacelinelaw02.LinesSeals" = some 7 by kernel_rfl).symm.trans hf) |>.symm
  obtain rfl : fn = Tryd.f7 := (Option.some.inj (Tryd.func7.symm.trans hfn)).symm
  refine ⟨by kernel_rfl, fun j t ht => ?_⟩
  rw [Tryd.params7] at ht
  have hm : t ∈ [9] := by
    have := Array.mem_of_getElem? ht
    simp at this ⊢
    first | omega | (rcases this with h | h <;> simp [h]) | (rcases this with h | h | h <;> simp [h])
  have hall : ([9].all fun u => !Tryd.prog.wantsStandIn u) = true := by kernel_rfl
  exact (show Tryd.prog.wantsStandIn t = false by simpa using List.all_eq_true.1 hall t hm)
end Go.Proofs.YtjlcmgfgbmcjpaaDoor.linesSeals
namespace Go.Proofs.YtjlcmgfgbmcjpaaDoor
theorem linesSeals_holds : Rows.LinesSealsCardSaid :=
  Claim7.holds_tied_plain_at .later [] _ _ _ _ linesSeals.said (fun _ h => by cases h) (by kernel_rfl) (fun _ h => by cases h) linesSeals_row_tie rfl ⟨rfl, rfl⟩ (by kernel_rfl) rfl linesSeals.plain (by kernel_rfl)
#print axioms linesSeals_holds
end Go.Proofs.YtjlcmgfgbmcjpaaDoor
