/- Proved: for all keys a, b and c the Go function VtimeOrder returns true (Cmp is the document's, and a total order); no condition beside the given statement's own. -/
import Derived.Test.YtdnhlabdpciclaaRows
import Derived.WalkKit
import Derived.ProofKit
import Derived.OpenShut
import Derived.ShutString
import Derived.ChangeOld
import Derived.Below
import Derived.Test.YtdnhlabdpciclaaOrd1
import Derived.Test.YtdnhlabdpciclaaOrd2
import Derived.Test.YtdnhlabdpciclaaKeys
namespace Go.Proofs.Ytdnhlabdpciclaa.vtimeOrder
open Go.ChangeShapes Go.WideShapes Go.ChangeAt Go.RowKit
open Go.ChangeMaps (open_string shut_string)
set_option linter.unusedVariables false

theorem own : ownKnob Try.prog.godebug = none := by kernel_rfl
theorem laidOut : laidOutB Try.prog = true := by kernel_rfl

set_option maxHeartbeats 1000000 in
theorem walk (w : World) (x0 y0 z0 : Int) (wx0 : (Lit.int .i64 x0).wf = true) (wy0 : (Lit.int .i64 y0).wf = true) (wz0 : (Lit.int .i64 z0).wf = true) (x1 y1 z1 : Int) (wx1 : (Lit.int .i64 x1).wf = true) (wy1 : (Lit.int .i64 y1).wf = true) (wz1 : (Lit.int .i64 z1).wf = true) (x2 y2 z2 : Int) (wx2 : (Lit.int .i64 x2).wf = true) (wy2 : (Lit.int .i64 y2).wf = true) (wz2 : (Lit.int .i64 z2).wf = true) :
    Calls Try.prog 5 #[.agg #[.int .i64 x0, .int .i64 y0, .int .i64 z0], .agg #[.int .i64 x1, .int .i64 y1, .int .i64 z1], .agg #[.int .i64 x2, .int .i64 y2, .int .i64 z2]] w fun e w' => e = .returned (.bool true) ∧ Below w.heap.size w w' := by
  rcases kcmp_range x0 y0 z0 x1 y1 z1 with hx | hx | hx
  · have hv : kcmp x1 y1 z1 x0 y0 z0 = 1 := by rw [kcmp_swap, hx]; rfl
    rcases kcmp_range x1 y1 z1 x2 y2 z2 with hy | hy | hy
    · exact order_mm w _ _ _ _ _ _ _ _ _ hx hv hy (order_lt (b1 := x1) (b2 := y1) (b3 := z1) (by omega) (by omega))
    · exact order_m0 w _ _ _ _ _ _ _ _ _ hx hv hy (order_lt (b1 := x1) (b2 := y1) (b3 := z1) (by omega) (by omega))
    · exact order_m1 w _ _ _ _ _ _ _ _ _ hx hv hy
  · obtain ⟨rfl, rfl, rfl⟩ := (kcmp_zero _ _ _ _ _ _).1 hx
    rcases kcmp_range x0 y0 z0 x2 y2 z2 with hy | hy | hy
    · exact order_zm w _ _ _ _ _ _ hx hy
    · exact order_z0 w _ _ _ _ _ _ hx hy
    · exact order_z1 w _ _ _ _ _ _ hx hy
  · have hv : kcmp x1 y1 z1 x0 y0 z0 = -1 := by rw [kcmp_swap, hx]
    exact order_p w _ _ _ _ _ _ _ _ _ hx hv


set_option maxRecDepth 100000 in
theorem lifted (os : Os) (started : os.Started) (H : Type) (enc : TypeId × Value → H) :
    ReturnsInHanded {} Try.checked os 5 .any (Rows.vtimeOrderSpec.pre6 enc Try.prog Try.f5 Rows.vtimeOrderRow.domain false) (Rows.vtimeOrderSpec.post enc Try.prog Try.f5 false true false false) := by
  refine returnsInHanded_of_change (C := Try.checked) own started (by kernel_rfl) Try.func5
    (ChangeSpec.witness6 (enc := enc) (C := Try.checked) false ⟨#[], #[.agg #[.int .i64 0, .int .i64 0, .int .i64 0], .agg #[.int .i64 0, .int .i64 0, .int .i64 0], .agg #[.int .i64 0, .int .i64 0, .int .i64 0]], []⟩ 8 (by kernel_rfl) (by kernel_rfl) (by kernel_rfl) (by kernel_rfl)) ?_
  intro W base args ds gs before hval0 hW hcnd _
  have hval : ∀ (j : Nat) t v, Try.f5.params[j]? = some t → args[j]? = some v → Value.okWide Try.prog W .any base t v := hval0
  have hW' := hW
  obtain ⟨p, q, hA0, hV, rfl, hfz, hnd⟩ := hW
  have hA : DataW.TrodAll enc Try.prog W 0 (fun _ => true) true Try.f5.params.toList args.toList ds p := hA0
  rw [Try.params5] at hA hval
  obtain ⟨v0, vs0, d0, ds0, p0, q0, hargs, rfl, rfl, h0, r0⟩ := trodAll_cons hA
  obtain ⟨v1, vs1, d1, ds1, p1, q1, rfl, rfl, rfl, h1, r1⟩ := trodAll_cons r0
  obtain ⟨v2, vs2, d2, ds2, p2, q2, rfl, rfl, rfl, h2, r2⟩ := trodAll_cons r1
  obtain ⟨rfl, rfl, rfl⟩ := trodAll_nil r2
  obtain rfl : args = #[v0, v1, v2] := by cases args; simp_all
  obtain ⟨rfl, rfl⟩ := trodVars_none hV
  have k0 := h0
  have lt0 : ∀ x ∈ p0, x.block < W.heap.size := by obtain ⟨m, hm⟩ := k0; exact DataW.trod_lt m _ _ _ hm
  have k1 := h1
  have lt1 : ∀ x ∈ p1, x.block < W.heap.size := by obtain ⟨m, hm⟩ := k1; exact DataW.trod_lt m _ _ _ hm
  have k2 := h2
  have lt2 : ∀ x ∈ p2, x.block < W.heap.size := by obtain ⟨m, hm⟩ := k2; exact DataW.trod_lt m _ _ _ hm
  obtain ⟨x0, y0, z0, rfl, rfl, rfl, wx0, wy0, wz0⟩ := open_key (hval 0 29 v0 rfl rfl) h0
  obtain ⟨x1, y1, z1, rfl, rfl, rfl, wx1, wy1, wz1⟩ := open_key (hval 1 29 v1 rfl rfl) h1
  obtain ⟨x2, y2, z2, rfl, rfl, rfl, wx2, wy2, wz2⟩ := open_key (hval 2 29 v2 rfl rfl) h2
  clear hA0 hval0
  refine (walk W x0 y0 z0 wx0 wy0 wz0 x1 y1 z1 wx1 wy1 wz1 x2 y2 z2 wx2 wy2 wz2).mono fun e W' ⟨he, bel⟩ => ?_
  subst he
  exact ⟨_, rfl, _, _, _, [], _, [], hW', trodAll_mk1 (shut_bool Try.underlying4 _), (trodAll_cons_mk (Below.trod laidOut (by kernel_rfl) (of_decide_eq_true (by kernel_rfl)) k0 bel lt0) (trodAll_cons_mk (Below.trod laidOut (by kernel_rfl) (of_decide_eq_true (by kernel_rfl)) k1 bel lt1) (trodAll_cons_mk (Below.trod laidOut (by kernel_rfl) (of_decide_eq_true (by kernel_rfl)) k2 bel lt2) trodAll_mk0))), rfl, bel.frame _, fun h => by cases h⟩

theorem over : Rows.vtimeOrderRow.holds Try.pinned (OpenSpec.ofChange Rows.vtimeOrderSpec) :=
  OpenClaim.holds_of_wide 5 Try.f5 rfl rfl rfl rfl rfl rfl rfl ⟨rfl, rfl, rfl, rfl, rfl⟩ rfl rfl rfl rfl rfl (by kernel_rfl) Try.func5 (by kernel_rfl)
    (of_decide_eq_true (by kernel_rfl)) (by unfold Func.isWrapper; first | (rw [if_pos (by decide +kernel)]; kernel_rfl) | (rw [if_neg (by decide +kernel)]; exact ⟨rfl, rfl⟩))
    (fun os started H enc _ => lifted os started H enc)
end Go.Proofs.Ytdnhlabdpciclaa.vtimeOrder
namespace Go.Proofs.Ytdnhlabdpciclaa
theorem vtimeOrder_holds : Rows.VtimeOrderSaid := vtimeOrder.over
#print axioms vtimeOrder_holds
end Go.Proofs.Ytdnhlabdpciclaa
