/- Proved: a sealed text of which one byte is another one is not unsealed (LinesChanged); the listed package-level variables start as the text of the program lays them (the card ties them). -/
import Derived.Test.YtjlcmgfgbmcjpaaDoorCards
import Derived.Test.YtjlcmgfgbmcjpaaDoorTie
import Derived.WalkKit
import Derived.ProofKit
import Derived.OpenShut
import Derived.ShutString
import Derived.ChangeOld
import Derived.Below
import Derived.Test.YtjlcmgfgbmcjpaaDoorTiedS
import Derived.Test.YtjlcmgfgbmcjpaaDoorChg0
import Derived.DataShut
import Derived.Deep.DeepHandedRow
namespace Go.Proofs.YtjlcmgfgbmcjpaaDoor.linesChanged
open Go.ChangeShapes Go.WideShapes Go.ChangeAt Go.RowKit
open Go.ChangeMaps (open_string shut_string)
set_option linter.unusedVariables false

set_option maxRecDepth 100000 in
set_option maxHeartbeats 4000000 in
theorem walk (w : World) (hL : ShAt w) (a0 : ByteArray) (w0 : a0.size ≤ maxLen) (a1 : Int) (w1 : (Lit.int .i64 a1).wf = true) (a2 : Int) (w2 : (Lit.int .u8 a2).wf = true) :
    Calls Tryd.prog 8 #[.string a0, .int .i64 a1, .int .u8 a2] w fun e w' => e = .returned (.bool true) ∧ Below w.heap.size w w' := by
  by_cases hs : a0.size ≤ 2048
  · have hs0 : ¬ ((2048 : Int) < (a0.size : Int)) := by omega
    obtain ⟨b, rfl⟩ := byte_of a2 w2
    obtain ⟨X, hX⟩ : ∃ X, X = sealB a0 := ⟨_, rfl⟩
    have hXs : X.size = a0.size + 10 := by rw [hX, sealB_size]
    have hA := fun (x : World) (h : ShAt x) => seal_any a0 x (by omega) h
    have hR := fun (x : World) => refSeal_any a0 x (by omega)
    simp only [← hX] at hA hR
    have hn : 0 < X.size := by omega
    obtain ⟨u, k, hu, hu1, hu2, hk1, hk2, hkn⟩ := modS a1 X.size hn
    have hX10 : ¬ ((X.size : Int) < 10) := by omega
    have hXb : X.size ≤ 2058 := by omega
    clear hXs
    obtain ⟨P, hP⟩ : ∃ P : ByteArray, P = X.extract 0 k := ⟨_, rfl⟩
    obtain ⟨Q, hQ⟩ : ∃ Q : ByteArray, Q = X.extract (k + 1) X.size := ⟨_, rfl⟩
    obtain ⟨c, hc⟩ : ∃ c : UInt8, c = X[k] := ⟨_, rfl⟩
    obtain ⟨D, hD⟩ : ∃ D : UInt8, D = c + b := ⟨_, rfl⟩
    have hPs : P.size ≤ 2058 := by rw [hP]; simp; omega
    have hQs : Q.size ≤ 2058 := by rw [hQ]; simp; omega
    have hs1 : ∀ wx : World, (Instr.slice 9 (.string X) none (some (.int .i64 (k : Int))) none).run Tryd.prog wx = .ok (.string P) wx := by
      intro wx
      rw [run_slice_string_h wx 9 X Tryd.underlying9 .i64 _ (by omega) (by omega), hP, Int.toNat_natCast]
    have hs2 : ∀ wx : World, (Instr.slice 9 (.string X) (some (.int .i64 ((k : Int) + 1))) none none).run Tryd.prog wx = .ok (.string Q) wx := by
      intro wx
      rw [run_slice_string_l wx 9 X Tryd.underlying9 .i64 _ (by omega) (by omega), hQ, show ((k : Int) + 1).toNat = k + 1 by omega]
    have hix : ∀ wx : World, (Instr.index 9 (.string X) (.int .i64 (k : Int))).run Tryd.prog wx = .ok (.int .u8 (c.toNat : Int)) wx := by
      intro wx
      rw [run_index_string wx 9 X .i64 (k : Int) Tryd.underlying9, dif_pos (by omega), hc]
      simp
    have hadd : ((c.toNat : Int) + (b.toNat : Int)) % 256 = (D.toNat : Int) := by rw [hD]; exact add_u8 c b
    obtain ⟨O, hO⟩ : ∃ O : ByteArray, O = ⟨#[D]⟩ := ⟨_, rfl⟩
    have hO1 : O.size = 1 := by rw [hO]; rfl
    have hone : ∀ x : World, (convert 40 9 (.slice (some ⟨x.heap.size, 0, none⟩) 1 1)).run Tryd.prog (x.alloc (.cells #[.int .u8 (D.toNat : Int)] 5)).drew = .ok (.string O) (x.alloc (.cells #[.int .u8 (D.toNat : Int)] 5)).drew := by
      intro x
      rw [hO]
      exact one_back D x.drew
    have hwrap : IntKind.u8.wrap ((c.toNat : Int) + (b.toNat : Int)) = (D.toNat : Int) := by rw [← hadd]; rfl
    have hYs : (P ++ O ++ Q).size ≤ 1073741824 := by rw [ByteArray.size_append, ByteArray.size_append]; omega
    have hU := fun (x : World) (h : ShAt x) => unseal_any (P ++ O ++ Q) x hYs h
    obtain ⟨dn, hdn⟩ : ∃ dn : Int, dn = (D.toNat : Int) := ⟨_, rfl⟩
    obtain ⟨cn, hcn⟩ : ∃ cn : Int, cn = (c.toNat : Int) := ⟨_, rfl⟩
    obtain ⟨bn, hbn⟩ : ∃ bn : Int, bn = (b.toNat : Int) := ⟨_, rfl⟩
    have hb0 : 0 ≤ bn ∧ bn < 256 := by have := b.toNat_lt; omega
    have hc0 : 0 ≤ cn ∧ cn < 256 := by have := c.toNat_lt; omega
    simp only [← hdn] at hone
    rw [← hdn, ← hcn, ← hbn] at hadd hwrap
    simp only [← hcn] at hix
    rw [← hbn]
    have HC := hideH hc
    have HD := hideH hD
    have HP := hideH hP
    have HQ := hideH hQ
    have HX := hideH hX
    have HO := hideH hO
    have HBN := hideH hbn
    clear hc hD hP hQ hX hdn hcn hbn hO
    by_cases hbz : b = 0
    · have hbn0 : bn = 0 := by rw [HBN.out, hbz]; rfl
      have hYX : P ++ O ++ Q = X := by
        rw [HP.out, HO.out, HQ.out, HD.out, hbz, UInt8.add_zero, HC.out]
        exact put_same X k hkn
      obtain ⟨e1, e2⟩ := un_yes (sealed_seal a0)
      have e3 : unT (P ++ O ++ Q) = a0 := by rw [hYX, HX.out, e1, front_seal]
      have e4 : unE (P ++ O ++ Q) = 0 := by rw [hYX, HX.out, e2]
      simp only [e3, e4] at hU
      have HBZ := hideH hbn0
      clear e1 e2 e3 e4 hYX hbz hbn0
      go_enter Tryd.func8, Tryd.ntmps8
      go_wp2_with (first | (go_at_call 19; refine (hA _ hL).mono ?_; rintro e x1 ⟨rfl, hb1⟩; have hL1 := hL.keep hb1; have HB1 := hideH hb1; clear hb1) | (go_at_call 22; refine (hR _).mono ?_; rintro e x2 ⟨rfl, rfl⟩))
      go_region
      have hbn0 := HBZ.out
      have hL3 : ShAt (x2.alloc (.cells #[.int .u8 dn] 5)).drew := hL1.keep (((Below.refl _ _).alloc (Nat.le_refl _) _).drew)
      have HB3 := hideH ((HB1.out.alloc HB1.out.size (.cells #[.int .u8 dn] 5)).drew)
      clear hone
      go_wp2_with fail
      refine (hU _ hL3).mono ?_
      rintro e x4 ⟨rfl, hb4⟩
      have HB4 := hideH (HB3.out.trans (hb4.mono HB3.out.size))
      clear hb4
      go_wp2
      go_ret
      exact ⟨rfl, HB4.out⟩
    · have hbn0 : ¬ (bn = 0) := by
        rw [HBN.out]
        exact u8_ne' hbz
      have hno : sealedB (P ++ O ++ Q) = false := by
        rw [HP.out, HO.out, HQ.out]
        have hk' : k < (sealB a0).size := by rw [← HX.out]; exact hkn
        have h1 := put_other a0 k D hk' (by
          rw [HD.out, HC.out]
          have e5 : (sealB a0)[k] = X[k] := by simp only [HX.out]
          rw [e5]
          exact add_ne hbz)
        simp only [← HX.out] at h1
        exact h1
      obtain ⟨e3, e4⟩ := un_no hno
      simp only [e3, e4] at hU
      clear e3 e4 hno hbz
      go_enter Tryd.func8, Tryd.ntmps8
      go_wp2_with (first | (go_at_call 19; refine (hA _ hL).mono ?_; rintro e x1 ⟨rfl, hb1⟩; have hL1 := hL.keep hb1; have HB1 := hideH hb1; clear hb1) | (go_at_call 22; refine (hR _).mono ?_; rintro e x2 ⟨rfl, rfl⟩))
      go_region
      have hL3 : ShAt (x2.alloc (.cells #[.int .u8 dn] 5)).drew := hL1.keep (((Below.refl _ _).alloc (Nat.le_refl _) _).drew)
      have HB3 := hideH ((HB1.out.alloc HB1.out.size (.cells #[.int .u8 dn] 5)).drew)
      clear hone
      go_wp2_with fail
      refine (hU _ hL3).mono ?_
      rintro e x4 ⟨rfl, hb4⟩
      have HB4 := hideH (HB3.out.trans (hb4.mono HB3.out.size))
      clear hb4
      go_wp2
      go_ret
      exact ⟨rfl, HB4.out⟩
  · have hs0 : (2048 : Int) < (a0.size : Int) := by omega
    go_enter Tryd.func8, Tryd.ntmps8
    go_wp2
    go_ret
    exact ⟨rfl, Below.refl _ _⟩

theorem reads (os : Os) {H : Type} (enc : TypeId × Value → H) : ∃ places, DataW.whole enc Tryd.prog ((World.laidAll Tryd.prog os laidB).forCall (fun _ _ => 0) ⟨#[], #[.string ByteArray.empty, .int .i64 0, .int .u8 0], []⟩).memory Tryd.f8.params.toList Rows.linesChangedSpec.vars false #[(.string ByteArray.empty : Value), (.int .i64 0 : Value), (.int .u8 0 : Value)].toList 8 = some ([.lit (.string []), .lit (.int .i64 0), .lit (.int .u8 0)], [], places) :=
  ⟨[], by kernel_rfl⟩

set_option maxRecDepth 100000 in
theorem lifted (os : Os) (started : os.Started) (H : Type) (enc : TypeId × Value → H) (F : Stop.Interp) :
    ReturnsInHanded {} Tryd.checked os 8 .any ((OpenSpec.ofChange Rows.linesChangedSpec).preRow enc Tryd.prog Tryd.f8 Rows.linesChangedRow.domain false Rows.linesChangedRow.laid) (((OpenSpec.ofChange Rows.linesChangedSpec).at F).post enc Tryd.prog Tryd.f8 false true false false) := by
  obtain ⟨places, hx⟩ := reads os enc
  refine returnsInHanded_of_row (C := Tryd.checked) (s := OpenSpec.ofChange Rows.linesChangedSpec) own started (by kernel_rfl) Tryd.func8
    (witness_row_at (enc := enc) (C := Tryd.checked) false (World.laidAll Tryd.prog os laidB) #[.string ByteArray.empty, .int .i64 0, .int .u8 0] rfl (by kernel_rfl) (by kernel_rfl) (by kernel_rfl)
      (OpenSpec.preRow_of_cond 8 hx (by kernel_rfl) (fun k hk => by cases hk) (by kernel_rfl) (laidWorldB_met os _))) ?_
  intro W base args ds gs before hval0 hW _ _ _ hL hsh _
  have hval : ∀ (j : Nat) t v, Tryd.f8.params[j]? = some t → args[j]? = some v → Value.okWide Tryd.prog W .any base t v := hval0
  have hW' := hW
  obtain ⟨p, q, hA0, hV, rfl, hfz, hnd⟩ := hW
  have hA : DataW.TrodAll enc Tryd.prog W 0 (fun _ => true) true Tryd.f8.params.toList args.toList ds p := hA0
  rw [Tryd.params8] at hA hval
  obtain ⟨v0, vs0, d0, ds0, p0, q0, hargs, rfl, rfl, h0, r0⟩ := trodAll_cons hA
  obtain ⟨v1, vs1, d1, ds1, p1, q1, rfl, rfl, rfl, h1, r1⟩ := trodAll_cons r0
  obtain ⟨v2, vs2, d2, ds2, p2, q2, rfl, rfl, rfl, h2, r2⟩ := trodAll_cons r1
  obtain ⟨rfl, rfl, rfl⟩ := trodAll_nil r2
  obtain rfl : args = #[v0, v1, v2] := by cases args; simp_all
  obtain ⟨rfl, rfl⟩ := trodVars_none hV
  have k0 := h0
  have lt0 : ∀ x ∈ p0, x.block < W.heap.size := by obtain ⟨m, hm⟩ := k0; exact DataW.trod_lt m _ _ _ hm
  have k1 := h1
  have lt1 : ∀ x ∈ p1, x.block < W.heap.size := by obtain ⟨m, hm⟩ := k1; exact DataW.trod_lt m _ _ _ hm
  have k2 := h2
  have lt2 : ∀ x ∈ p2, x.block < W.heap.size := by obtain ⟨m, hm⟩ := k2; exact DataW.trod_lt m _ _ _ hm
  obtain ⟨a0, rfl, rfl, rfl, w0⟩ := open_string Tryd.underlying9 (hval 0 9 v0 rfl rfl) h0
  obtain ⟨a1, rfl, rfl, rfl, w1⟩ := open_int Tryd.underlying3 (hval 1 3 v1 rfl rfl) h1
  obtain ⟨a2, rfl, rfl, rfl, w2⟩ := open_int Tryd.underlying5 (hval 2 5 v2 rfl rfl) h2
  clear hA0 hval0
  refine (walk W (sh_of hL) a0 w0 a1 w1 a2 w2).mono fun e W' ⟨he, bel⟩ => ?_
  subst he
  exact ⟨_, rfl, _, _, _, [], _, [], hW', trodAll_mk1 (shut_bool Tryd.underlying4 _), (trodAll_cons_mk (Below.trod laidOut (by kernel_rfl) (of_decide_eq_true (by kernel_rfl)) k0 bel lt0) (trodAll_cons_mk (Below.trod laidOut (by kernel_rfl) (of_decide_eq_true (by kernel_rfl)) k1 bel lt1) (trodAll_cons_mk (Below.trod laidOut (by kernel_rfl) (of_decide_eq_true (by kernel_rfl)) k2 bel lt2) trodAll_mk0))), rfl, bel.frame _, fun h => by cases h⟩

theorem said : Rows.LinesChangedSaid :=
  OpenClaim.holds_of_cond 8 Tryd.f8 rfl rfl rfl rfl rfl rfl rfl ⟨rfl, rfl, rfl, rfl, rfl⟩ rfl rfl rfl rfl rfl (by kernel_rfl) Tryd.func8 (by kernel_rfl)
    (of_decide_eq_true (by kernel_rfl)) (by unfold Func.isWrapper; first | (rw [if_pos (by decide +kernel)]; kernel_rfl) | (rw [if_neg (by decide +kernel)]; exact ⟨rfl, rfl⟩))
    (fun os started H enc _ F => by rw [OpenClaim.pre_eq_preRow]; exact lifted os started H enc F)

theorem plain (f : FuncId) (fn : Func) (hf : Tryd.pinned.checked.prog.funcNamed "paceline/pacelinelaw02.LinesChanged" = some f) (hfn : Tryd.pinned.checked.prog.funcs[f]? = some fn) :
    true = Tryd.pinned.checked.prog.looks [] ∧ ∀ (j : Nat) t, fn.params[j]? = some t → Tryd.pinned.checked.prog.wantsStandIn t = false := by
  obtain rfl : f = 8 := Option.some.inj ((show Tryd.prog.funcNamed "paceline/pacelinelaw02.LinesChanged" = some 8 by kernel_rfl).symm.trans hf) |>.symm
  obtain rfl : fn = Tryd.f8 := (Option.some.inj (Tryd.func8.symm.trans hfn)).symm
  refine ⟨by kernel_rfl, fun j t ht => ?_⟩
  rw [Tryd.params8] at ht
  have hm : t ∈ [3, 5, 9] := by
    have := Array.mem_of_getElem? ht
    simp at this ⊢
    first | omega | (rcases this with h | h <;> simp [h]) | (rcases this with h | h | h <;> simp [h])
  have hall : ([3, 5, 9].all fun u => !Tryd.prog.wantsStandIn u) = true := by kernel_rfl
  exact (show Tryd.prog.wantsStandIn t = false by simpa using List.all_eq_true.1 hall t hm)
end Go.Proofs.YtjlcmgfgbmcjpaaDoor.linesChanged
namespace Go.Proofs.YtjlcmgfgbmcjpaaDoor
theorem linesChanged_holds : Rows.LinesChangedCardSaid :=
  Claim7.holds_tied_plain_at .later [] _ _ _ _ linesChanged.said (fun _ h => by cases h) (by kernel_rfl) (fun _ h => by cases h) linesChanged_row_tie rfl ⟨rfl, rfl⟩ (by kernel_rfl) rfl linesChanged.plain (by kernel_rfl)
#print axioms linesChanged_holds
end Go.Proofs.YtjlcmgfgbmcjpaaDoor
