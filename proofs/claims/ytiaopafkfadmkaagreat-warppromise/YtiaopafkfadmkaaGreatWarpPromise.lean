/- Proved: For every list of calls WarpPromise gives true: of a hundred calls at most what goes to a conservative federate is never below what was promised ahead of it, what is settled is never undone and comes in order; of longer lists it tells what shown tells. -/
import Derived.Test.YtiaopafkfadmkaaGreatRows
import Derived.WalkKit
import Derived.ProofKit
import Derived.OpenShut
import Derived.ShutString
import Derived.ChangeOld
import Derived.Below
import Derived.Test.YtiaopafkfadmkaaGreatZOb
import Derived.Test.YtiaopafkfadmkaaGreatZLw
namespace Go.Proofs.YtiaopafkfadmkaaGreat.warpPromise
open Go.ChangeShapes Go.WideShapes Go.ChangeAt Go.RowKit
open Go.ChangeMaps (open_string shut_string)
set_option linter.unusedVariables false

theorem own : ownKnob Tryz.prog.godebug = none := by kernel_rfl
theorem laidOut : laidOutB Tryz.prog = true := by kernel_rfl

theorem walk (w : World) (sa0 : Option Addr) (sc0 : Nat) (z0 : List Oq) (hn0 : z0.length ≤ maxLen) (hz0 : RdQ w sa0 z0) :
    Calls Tryz.prog 6 #[.slice sa0 z0.length sc0] w fun e w' => e = .returned (.bool true) ∧ Below w.heap.size w w' :=
  V.promise_walk w sa0 sc0 z0 hn0 hz0

set_option maxRecDepth 100000 in
theorem lifted (os : Os) (started : os.Started) (H : Type) (enc : TypeId × Value → H) :
    ReturnsInHanded {} Tryz.checked os 6 .any (Rows.warpPromiseSpec.pre6 enc Tryz.prog Tryz.f6 Rows.warpPromiseRow.domain false) (Rows.warpPromiseSpec.post enc Tryz.prog Tryz.f6 false true false false) := by
  refine returnsInHanded_of_change (C := Tryz.checked) own started (by kernel_rfl) Tryz.func6
    (ChangeSpec.witness6 (enc := enc) (C := Tryz.checked) false ⟨#[], #[.slice none 0 0], []⟩ 8 (by kernel_rfl) (by kernel_rfl) (by kernel_rfl) (by kernel_rfl)) ?_
  intro W base args ds gs before hval0 hW hcnd _
  have hval : ∀ (j : Nat) t v, Tryz.f6.params[j]? = some t → args[j]? = some v → Value.okWide Tryz.prog W .any base t v := hval0
  have hW' := hW
  obtain ⟨p, q, hA0, hV, rfl, hfz, hnd⟩ := hW
  have hA : DataW.TrodAll enc Tryz.prog W 0 (fun _ => true) true Tryz.f6.params.toList args.toList ds p := hA0
  rw [Tryz.params6] at hA hval
  obtain ⟨v0, vs0, d0, ds0, p0, q0, hargs, rfl, rfl, h0, r0⟩ := trodAll_cons hA
  obtain ⟨rfl, rfl, rfl⟩ := trodAll_nil r0
  obtain rfl : args = #[v0] := by cases args; simp_all
  obtain ⟨rfl, rfl⟩ := trodVars_none hV
  have k0 := h0
  have lt0 : ∀ x ∈ p0, x.block < W.heap.size := by obtain ⟨m, hm⟩ := k0; exact DataW.trod_lt m _ _ _ hm
  obtain ⟨sa0, sn0, sc0, rfl⟩ := okWide_slice Tryz.underlying26 (hval 0 26 v0 rfl rfl)
  obtain ⟨z0, rfl, hn0, hz0⟩ : ∃ zs : List Oq, zs.length = sn0 ∧ zs.length ≤ maxLen ∧ RdQ W sa0 zs := by
    obtain ⟨fuel, hf⟩ := h0
    obtain ⟨sa, sc, l, e, hm, hr⟩ := open_ops (v := .slice sa0 sn0 sc0) (by simpa [Value.cells] using hf)
    simp at e
    obtain ⟨rfl, rfl, rfl⟩ := e
    exact ⟨l, rfl, hm, hr⟩
  clear hA0 hval0
  refine (walk W sa0 sc0 z0 hn0 hz0).mono fun e W' ⟨he, bel⟩ => ?_
  subst he
  exact ⟨_, rfl, _, _, _, [], _, [], hW', trodAll_mk1 (shut_bool Tryz.underlying4 _), (trodAll_cons_mk (Below.trod laidOut (by kernel_rfl) (of_decide_eq_true (by kernel_rfl)) k0 bel lt0) trodAll_mk0), rfl, bel.frame _, fun h => by cases h⟩

theorem over : Rows.warpPromiseRow.holds Tryz.pinned (OpenSpec.ofChange Rows.warpPromiseSpec) :=
  OpenClaim.holds_of_wide 6 Tryz.f6 rfl rfl rfl rfl rfl rfl rfl ⟨rfl, rfl, rfl, rfl, rfl⟩ rfl rfl rfl rfl rfl (by kernel_rfl) Tryz.func6 (by kernel_rfl)
    (of_decide_eq_true (by kernel_rfl)) (by unfold Func.isWrapper; first | (rw [if_pos (by decide +kernel)]; kernel_rfl) | (rw [if_neg (by decide +kernel)]; exact ⟨rfl, rfl⟩))
    (fun os started H enc _ => lifted os started H enc)
end Go.Proofs.YtiaopafkfadmkaaGreat.warpPromise
namespace Go.Proofs.YtiaopafkfadmkaaGreat
theorem warpPromise_holds : Rows.WarpPromiseSaid := warpPromise.over
#print axioms warpPromise_holds
end Go.Proofs.YtiaopafkfadmkaaGreat
