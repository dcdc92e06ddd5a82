/- Proved: TableBodies answers true, whatever it is asked; its arguments read afterwards as they read before. No condition. -/
import Derived.Test.YtddjfjecamcfnaaRows
import Derived.WalkKit
import Derived.ProofKit
import Derived.OpenShut
import Derived.ShutString
import Derived.ChangeOld
import Derived.Below
import Derived.Test.YtddjfjecamcfnaaWBod
namespace Go.Proofs.Ytddjfjecamcfnaa.tableBodies
open Go.ChangeShapes Go.WideShapes Go.ChangeAt Go.RowKit
open Go.ChangeMaps (open_string shut_string)
set_option linter.unusedVariables false

theorem own : ownKnob Try.prog.godebug = none := by kernel_rfl
theorem laidOut : laidOutB Try.prog = true := by kernel_rfl

theorem walk (w : World) (a0 : Int) (w0 : (Lit.int .u16 a0).wf = true) (sa1 : Option Addr) (sn1 sc1 : Nat) (z1 : List Int) (hn1 : sn1 ≤ maxLen) (hz1 : InW w sa1 sn1 z1) (sa2 : Option Addr) (sn2 sc2 : Nat) (z2 : List Int) (hn2 : sn2 ≤ maxLen) (hz2 : InB w sa2 sn2 z2) :
    Calls Try.prog 8 #[.int .u16 a0, .slice sa1 sn1 sc1, .slice sa2 sn2 sc2] w fun e w' => e = .returned (.bool true) ∧ Below w.heap.size w w' :=
  bodies_walk w a0 sa1 sn1 sc1 z1 sa2 sn2 sc2 z2 (by have := bounds_u16 w0; omega) hn1 hz1 hn2 hz2

set_option maxRecDepth 100000 in
theorem lifted (os : Os) (started : os.Started) (H : Type) (enc : TypeId × Value → H) :
    ReturnsInHanded {} Try.checked os 8 .any (Rows.tableBodiesSpec.pre6 enc Try.prog Try.f8 Rows.tableBodiesRow.domain false) (Rows.tableBodiesSpec.post enc Try.prog Try.f8 false true false false) := by
  refine returnsInHanded_of_change (C := Try.checked) own started (by kernel_rfl) Try.func8
    (ChangeSpec.witness6 (enc := enc) (C := Try.checked) false ⟨#[], #[.int .u16 0, .slice none 0 0, .slice none 0 0], []⟩ 8 (by kernel_rfl) (by kernel_rfl) (by kernel_rfl) (by kernel_rfl)) ?_
  intro W base args ds gs before hval0 hW hcnd _
  have hval : ∀ (j : Nat) t v, Try.f8.params[j]? = some t → args[j]? = some v → Value.okWide Try.prog W .any base t v := hval0
  have hW' := hW
  obtain ⟨p, q, hA0, hV, rfl, hfz, hnd⟩ := hW
  have hA : DataW.TrodAll enc Try.prog W 0 (fun _ => true) true Try.f8.params.toList args.toList ds p := hA0
  rw [Try.params8] at hA hval
  obtain ⟨v0, vs0, d0, ds0, p0, q0, hargs, rfl, rfl, h0, r0⟩ := trodAll_cons hA
  obtain ⟨v1, vs1, d1, ds1, p1, q1, rfl, rfl, rfl, h1, r1⟩ := trodAll_cons r0
  obtain ⟨v2, vs2, d2, ds2, p2, q2, rfl, rfl, rfl, h2, r2⟩ := trodAll_cons r1
  obtain ⟨rfl, rfl, rfl⟩ := trodAll_nil r2
  obtain rfl : args = #[v0, v1, v2] := by cases args; simp_all
  obtain ⟨rfl, rfl⟩ := trodVars_none hV
  have k0 := h0
  have lt0 : ∀ x ∈ p0, x.block < W.heap.size := by obtain ⟨m, hm⟩ := k0; exact DataW.trod_lt m _ _ _ hm
  have k1 := h1
  have lt1 : ∀ x ∈ p1, x.block < W.heap.size := by obtain ⟨m, hm⟩ := k1; exact DataW.trod_lt m _ _ _ hm
  have k2 := h2
  have lt2 : ∀ x ∈ p2, x.block < W.heap.size := by obtain ⟨m, hm⟩ := k2; exact DataW.trod_lt m _ _ _ hm
  obtain ⟨a0, rfl, rfl, rfl, w0⟩ := open_int Try.underlying47 (hval 0 47 v0 rfl rfl) h0
  obtain ⟨sa1, sn1, sc1, rfl⟩ := okWide_slice Try.underlying48 (hval 1 48 v1 rfl rfl)
  obtain ⟨hn1, z1, hz1⟩ : sn1 ≤ maxLen ∧ ∃ zs, InW W sa1 sn1 zs := by
    obtain ⟨fuel, hf⟩ := h1
    exact open_words (by simpa [Value.cells] using hf)
  obtain ⟨sa2, sn2, sc2, rfl⟩ := okWide_slice Try.underlying49 (hval 2 49 v2 rfl rfl)
  obtain ⟨hn2, z2, hz2⟩ : sn2 ≤ maxLen ∧ ∃ zs, InB W sa2 sn2 zs := by
    obtain ⟨fuel, hf⟩ := h2
    exact open_bytes (by simpa [Value.cells] using hf)
  clear hA0 hval0
  refine (walk W a0 w0 sa1 sn1 sc1 z1 hn1 hz1 sa2 sn2 sc2 z2 hn2 hz2).mono fun e W' ⟨he, bel⟩ => ?_
  subst he
  exact ⟨_, rfl, _, _, _, [], _, [], hW', trodAll_mk1 (shut_bool Try.underlying4 _), (trodAll_cons_mk (Below.trod laidOut (by kernel_rfl) (of_decide_eq_true (by kernel_rfl)) k0 bel lt0) (trodAll_cons_mk (Below.trod laidOut (by kernel_rfl) (of_decide_eq_true (by kernel_rfl)) k1 bel lt1) (trodAll_cons_mk (Below.trod laidOut (by kernel_rfl) (of_decide_eq_true (by kernel_rfl)) k2 bel lt2) trodAll_mk0))), rfl, bel.frame _, fun h => by cases h⟩

theorem over : Rows.tableBodiesRow.holds Try.pinned (OpenSpec.ofChange Rows.tableBodiesSpec) :=
  OpenClaim.holds_of_wide 8 Try.f8 rfl rfl rfl rfl rfl rfl rfl ⟨rfl, rfl, rfl, rfl, rfl⟩ rfl rfl rfl rfl rfl (by kernel_rfl) Try.func8 (by kernel_rfl)
    (of_decide_eq_true (by kernel_rfl)) (by unfold Func.isWrapper; first | (rw [if_pos (by decide +kernel)]; kernel_rfl) | (rw [if_neg (by decide +kernel)]; exact ⟨rfl, rfl⟩))
    (fun os started H enc _ => lifted os started H enc)
end Go.Proofs.Ytddjfjecamcfnaa.tableBodies
namespace Go.Proofs.Ytddjfjecamcfnaa
theorem tableBodies_holds : Rows.TableBodiesSaid := tableBodies.over
#print axioms tableBodies_holds
end Go.Proofs.Ytddjfjecamcfnaa
