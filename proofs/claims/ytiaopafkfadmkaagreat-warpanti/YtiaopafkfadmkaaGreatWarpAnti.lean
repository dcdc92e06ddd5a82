/- Proved: For all times, marks and steps WarpAnti gives true: of thirty messages at most those that are taken back were never there, what is settled, what goes out, the state and how many wait are as without them; of more it tells what shown tells. -/
import Derived.Test.YtiaopafkfadmkaaGreatRows
import Derived.WalkKit
import Derived.ProofKit
import Derived.OpenShut
import Derived.ShutString
import Derived.ChangeOld
import Derived.Below
import Derived.Test.YtiaopafkfadmkaaGreatZOb
import Derived.Test.YtiaopafkfadmkaaGreatZLw
namespace Go.Proofs.YtiaopafkfadmkaaGreat.warpAnti
open Go.ChangeShapes Go.WideShapes Go.ChangeAt Go.RowKit
open Go.ChangeMaps (open_string shut_string)
set_option linter.unusedVariables false

theorem own : ownKnob Tryz.prog.godebug = none := by kernel_rfl
theorem laidOut : laidOutB Tryz.prog = true := by kernel_rfl

theorem walk (w : World) (sa0 : Option Addr) (sc0 : Nat) (z0 : List Int) (hn0 : z0.length ≤ maxLen) (hz0 : InB w sa0 z0) (sa1 : Option Addr) (sc1 : Nat) (z1 : List Bool) (hz1 : InT w sa1 z1) (sa2 : Option Addr) (sc2 : Nat) (z2 : List Int) (hn2 : z2.length ≤ maxLen) (hz2 : InB w sa2 z2) :
    Calls Tryz.prog 5 #[.slice sa0 z0.length sc0, .slice sa1 z1.length sc1, .slice sa2 z2.length sc2] w fun e w' => e = .returned (.bool true) ∧ Below w.heap.size w w' :=
  V.anti_walk w sa0 sc0 z0 sa1 sc1 z1 sa2 sc2 z2 hz0 hz1 hz2 hn0 hn2

set_option maxRecDepth 100000 in
theorem lifted (os : Os) (started : os.Started) (H : Type) (enc : TypeId × Value → H) :
    ReturnsInHanded {} Tryz.checked os 5 .any (Rows.warpAntiSpec.pre6 enc Tryz.prog Tryz.f5 Rows.warpAntiRow.domain false) (Rows.warpAntiSpec.post enc Tryz.prog Tryz.f5 false true false false) := by
  refine returnsInHanded_of_change (C := Tryz.checked) own started (by kernel_rfl) Tryz.func5
    (ChangeSpec.witness6 (enc := enc) (C := Tryz.checked) false ⟨#[], #[.slice none 0 0, .slice none 0 0, .slice none 0 0], []⟩ 8 (by kernel_rfl) (by kernel_rfl) (by kernel_rfl) (by kernel_rfl)) ?_
  intro W base args ds gs before hval0 hW hcnd _
  have hval : ∀ (j : Nat) t v, Tryz.f5.params[j]? = some t → args[j]? = some v → Value.okWide Tryz.prog W .any base t v := hval0
  have hW' := hW
  obtain ⟨p, q, hA0, hV, rfl, hfz, hnd⟩ := hW
  have hA : DataW.TrodAll enc Tryz.prog W 0 (fun _ => true) true Tryz.f5.params.toList args.toList ds p := hA0
  rw [Tryz.params5] at hA hval
  obtain ⟨v0, vs0, d0, ds0, p0, q0, hargs, rfl, rfl, h0, r0⟩ := trodAll_cons hA
  obtain ⟨v1, vs1, d1, ds1, p1, q1, rfl, rfl, rfl, h1, r1⟩ := trodAll_cons r0
  obtain ⟨v2, vs2, d2, ds2, p2, q2, rfl, rfl, rfl, h2, r2⟩ := trodAll_cons r1
  obtain ⟨rfl, rfl, rfl⟩ := trodAll_nil r2
  obtain rfl : args = #[v0, v1, v2] := by cases args; simp_all
  obtain ⟨rfl, rfl⟩ := trodVars_none hV
  have k0 := h0
  have lt0 : ∀ x ∈ p0, x.block < W.heap.size := by obtain ⟨m, hm⟩ := k0; exact DataW.trod_lt m _ _ _ hm
  have k1 := h1
  have lt1 : ∀ x ∈ p1, x.block < W.heap.size := by obtain ⟨m, hm⟩ := k1; exact DataW.trod_lt m _ _ _ hm
  have k2 := h2
  have lt2 : ∀ x ∈ p2, x.block < W.heap.size := by obtain ⟨m, hm⟩ := k2; exact DataW.trod_lt m _ _ _ hm
  obtain ⟨sa0, sn0, sc0, rfl⟩ := okWide_slice Tryz.underlying67 (hval 0 67 v0 rfl rfl)
  obtain ⟨z0, rfl, hn0, hz0⟩ : ∃ zs : List Int, zs.length = sn0 ∧ zs.length ≤ maxLen ∧ InB W sa0 zs := by
    obtain ⟨fuel, hf⟩ := h0
    obtain ⟨sa, sc, l, e, hm, hr⟩ := open_bytes (v := .slice sa0 sn0 sc0) (by simpa [Value.cells] using hf)
    simp at e
    obtain ⟨rfl, rfl, rfl⟩ := e
    exact ⟨l, rfl, hm, hr⟩
  obtain ⟨sa1, sn1, sc1, rfl⟩ := okWide_slice Tryz.underlying80 (hval 1 80 v1 rfl rfl)
  obtain ⟨z1, rfl, hz1⟩ : ∃ zs : List Bool, zs.length = sn1 ∧ InT W sa1 zs := by
    obtain ⟨fuel, hf⟩ := h1
    obtain ⟨sa, sc, l, e, hr⟩ := open_bools (v := .slice sa1 sn1 sc1) (by simpa [Value.cells] using hf)
    simp at e
    obtain ⟨rfl, rfl, rfl⟩ := e
    exact ⟨l, rfl, hr⟩
  obtain ⟨sa2, sn2, sc2, rfl⟩ := okWide_slice Tryz.underlying67 (hval 2 67 v2 rfl rfl)
  obtain ⟨z2, rfl, hn2, hz2⟩ : ∃ zs : List Int, zs.length = sn2 ∧ zs.length ≤ maxLen ∧ InB W sa2 zs := by
    obtain ⟨fuel, hf⟩ := h2
    obtain ⟨sa, sc, l, e, hm, hr⟩ := open_bytes (v := .slice sa2 sn2 sc2) (by simpa [Value.cells] using hf)
    simp at e
    obtain ⟨rfl, rfl, rfl⟩ := e
    exact ⟨l, rfl, hm, hr⟩
  clear hA0 hval0
  refine (walk W sa0 sc0 z0 hn0 hz0 sa1 sc1 z1 hz1 sa2 sc2 z2 hn2 hz2).mono fun e W' ⟨he, bel⟩ => ?_
  subst he
  exact ⟨_, rfl, _, _, _, [], _, [], hW', trodAll_mk1 (shut_bool Tryz.underlying4 _), (trodAll_cons_mk (Below.trod laidOut (by kernel_rfl) (of_decide_eq_true (by kernel_rfl)) k0 bel lt0) (trodAll_cons_mk (Below.trod laidOut (by kernel_rfl) (of_decide_eq_true (by kernel_rfl)) k1 bel lt1) (trodAll_cons_mk (Below.trod laidOut (by kernel_rfl) (of_decide_eq_true (by kernel_rfl)) k2 bel lt2) trodAll_mk0))), rfl, bel.frame _, fun h => by cases h⟩

theorem over : Rows.warpAntiRow.holds Tryz.pinned (OpenSpec.ofChange Rows.warpAntiSpec) :=
  OpenClaim.holds_of_wide 5 Tryz.f5 rfl rfl rfl rfl rfl rfl rfl ⟨rfl, rfl, rfl, rfl, rfl⟩ rfl rfl rfl rfl rfl (by kernel_rfl) Tryz.func5 (by kernel_rfl)
    (of_decide_eq_true (by kernel_rfl)) (by unfold Func.isWrapper; first | (rw [if_pos (by decide +kernel)]; kernel_rfl) | (rw [if_neg (by decide +kernel)]; exact ⟨rfl, rfl⟩))
    (fun os started H enc _ => lifted os started H enc)
end Go.Proofs.YtiaopafkfadmkaaGreat.warpAnti
namespace Go.Proofs.YtiaopafkfadmkaaGreat
theorem warpAnti_holds : Rows.WarpAntiSaid := warpAnti.over
#print axioms warpAnti_holds
end Go.Proofs.YtiaopafkfadmkaaGreat
