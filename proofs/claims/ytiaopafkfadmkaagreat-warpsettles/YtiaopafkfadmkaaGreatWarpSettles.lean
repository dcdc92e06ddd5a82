/- Proved: For all times and steps WarpSettles gives true: of thirty messages at most, in whatever order they come and however many steps are done between, what is settled in the end, what was sent and not taken back, what goes out and the state are what comes of them one behind the other in the order of their keys; of more it tells what shown tells. -/
import Derived.Test.YtiaopafkfadmkaaGreatRows
import Derived.WalkKit
import Derived.ProofKit
import Derived.OpenShut
import Derived.ShutString
import Derived.ChangeOld
import Derived.Below
import Derived.Test.YtiaopafkfadmkaaGreatZOb
import Derived.Test.YtiaopafkfadmkaaGreatZLw
namespace Go.Proofs.YtiaopafkfadmkaaGreat.warpSettles
open Go.ChangeShapes Go.WideShapes Go.ChangeAt Go.RowKit
open Go.ChangeMaps (open_string shut_string)
set_option linter.unusedVariables false

theorem own : ownKnob Tryz.prog.godebug = none := by kernel_rfl
theorem laidOut : laidOutB Tryz.prog = true := by kernel_rfl

theorem walk (w : World) (sa0 : Option Addr) (sc0 : Nat) (z0 : List Int) (hn0 : z0.length ≤ maxLen) (hz0 : InB w sa0 z0) (sa1 : Option Addr) (sc1 : Nat) (z1 : List Int) (hn1 : z1.length ≤ maxLen) (hz1 : InB w sa1 z1) :
    Calls Tryz.prog 4 #[.slice sa0 z0.length sc0, .slice sa1 z1.length sc1] w fun e w' => e = .returned (.bool true) ∧ Below w.heap.size w w' :=
  V.settles_walk w sa0 sc0 z0 sa1 sc1 z1 hz0 hz1 hn0 hn1

set_option maxRecDepth 100000 in
theorem lifted (os : Os) (started : os.Started) (H : Type) (enc : TypeId × Value → H) :
    ReturnsInHanded {} Tryz.checked os 4 .any (Rows.warpSettlesSpec.pre6 enc Tryz.prog Tryz.f4 Rows.warpSettlesRow.domain false) (Rows.warpSettlesSpec.post enc Tryz.prog Tryz.f4 false true false false) := by
  refine returnsInHanded_of_change (C := Tryz.checked) own started (by kernel_rfl) Tryz.func4
    (ChangeSpec.witness6 (enc := enc) (C := Tryz.checked) false ⟨#[], #[.slice none 0 0, .slice none 0 0], []⟩ 8 (by kernel_rfl) (by kernel_rfl) (by kernel_rfl) (by kernel_rfl)) ?_
  intro W base args ds gs before hval0 hW hcnd _
  have hval : ∀ (j : Nat) t v, Tryz.f4.params[j]? = some t → args[j]? = some v → Value.okWide Tryz.prog W .any base t v := hval0
  have hW' := hW
  obtain ⟨p, q, hA0, hV, rfl, hfz, hnd⟩ := hW
  have hA : DataW.TrodAll enc Tryz.prog W 0 (fun _ => true) true Tryz.f4.params.toList args.toList ds p := hA0
  rw [Tryz.params4] at hA hval
  obtain ⟨v0, vs0, d0, ds0, p0, q0, hargs, rfl, rfl, h0, r0⟩ := trodAll_cons hA
  obtain ⟨v1, vs1, d1, ds1, p1, q1, rfl, rfl, rfl, h1, r1⟩ := trodAll_cons r0
  obtain ⟨rfl, rfl, rfl⟩ := trodAll_nil r1
  obtain rfl : args = #[v0, v1] := by cases args; simp_all
  obtain ⟨rfl, rfl⟩ := trodVars_none hV
  have k0 := h0
  have lt0 : ∀ x ∈ p0, x.block < W.heap.size := by obtain ⟨m, hm⟩ := k0; exact DataW.trod_lt m _ _ _ hm
  have k1 := h1
  have lt1 : ∀ x ∈ p1, x.block < W.heap.size := by obtain ⟨m, hm⟩ := k1; exact DataW.trod_lt m _ _ _ hm
  obtain ⟨sa0, sn0, sc0, rfl⟩ := okWide_slice Tryz.underlying67 (hval 0 67 v0 rfl rfl)
  obtain ⟨z0, rfl, hn0, hz0⟩ : ∃ zs : List Int, zs.length = sn0 ∧ zs.length ≤ maxLen ∧ InB W sa0 zs := by
    obtain ⟨fuel, hf⟩ := h0
    obtain ⟨sa, sc, l, e, hm, hr⟩ := open_bytes (v := .slice sa0 sn0 sc0) (by simpa [Value.cells] using hf)
    simp at e
    obtain ⟨rfl, rfl, rfl⟩ := e
    exact ⟨l, rfl, hm, hr⟩
  obtain ⟨sa1, sn1, sc1, rfl⟩ := okWide_slice Tryz.underlying67 (hval 1 67 v1 rfl rfl)
  obtain ⟨z1, rfl, hn1, hz1⟩ : ∃ zs : List Int, zs.length = sn1 ∧ zs.length ≤ maxLen ∧ InB W sa1 zs := by
    obtain ⟨fuel, hf⟩ := h1
    obtain ⟨sa, sc, l, e, hm, hr⟩ := open_bytes (v := .slice sa1 sn1 sc1) (by simpa [Value.cells] using hf)
    simp at e
    obtain ⟨rfl, rfl, rfl⟩ := e
    exact ⟨l, rfl, hm, hr⟩
  clear hA0 hval0
  refine (walk W sa0 sc0 z0 hn0 hz0 sa1 sc1 z1 hn1 hz1).mono fun e W' ⟨he, bel⟩ => ?_
  subst he
  exact ⟨_, rfl, _, _, _, [], _, [], hW', trodAll_mk1 (shut_bool Tryz.underlying4 _), (trodAll_cons_mk (Below.trod laidOut (by kernel_rfl) (of_decide_eq_true (by kernel_rfl)) k0 bel lt0) (trodAll_cons_mk (Below.trod laidOut (by kernel_rfl) (of_decide_eq_true (by kernel_rfl)) k1 bel lt1) trodAll_mk0)), rfl, bel.frame _, fun h => by cases h⟩

theorem over : Rows.warpSettlesRow.holds Tryz.pinned (OpenSpec.ofChange Rows.warpSettlesSpec) :=
  OpenClaim.holds_of_wide 4 Tryz.f4 rfl rfl rfl rfl rfl rfl rfl ⟨rfl, rfl, rfl, rfl, rfl⟩ rfl rfl rfl rfl rfl (by kernel_rfl) Tryz.func4 (by kernel_rfl)
    (of_decide_eq_true (by kernel_rfl)) (by unfold Func.isWrapper; first | (rw [if_pos (by decide +kernel)]; kernel_rfl) | (rw [if_neg (by decide +kernel)]; exact ⟨rfl, rfl⟩))
    (fun os started H enc _ => lifted os started H enc)
end Go.Proofs.YtiaopafkfadmkaaGreat.warpSettles
namespace Go.Proofs.YtiaopafkfadmkaaGreat
theorem warpSettles_holds : Rows.WarpSettlesSaid := warpSettles.over
#print axioms warpSettles_holds
end Go.Proofs.YtiaopafkfadmkaaGreat
