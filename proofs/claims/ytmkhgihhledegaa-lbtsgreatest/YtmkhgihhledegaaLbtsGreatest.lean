/- Proved: LbtsGreatest: the outputs fit to one another, are the document's, and no outputs that are greater somewhere (by what came in) fit; no condition. -/
import Derived.Test.YtmkhgihhledegaaRows
import Derived.WalkKit
import Derived.ProofKit
import Derived.OpenShut
import Derived.ShutString
import Derived.ChangeOld
import Derived.Below
import Derived.Test.YtmkhgihhledegaaOpm
import Derived.Test.YtmkhgihhledegaaWGr
namespace Go.Proofs.Ytmkhgihhledegaa.lbtsGreatest
open Go.ChangeShapes Go.WideShapes Go.ChangeAt Go.RowKit
open Go.ChangeMaps (open_string shut_string)
set_option linter.unusedVariables false

theorem own : ownKnob Try.prog.godebug = none := by kernel_rfl
theorem laidOut : laidOutB Try.prog = true := by kernel_rfl

theorem walk (w : World) (sa0 : Option Addr) (sc0 : Nat) (z0 : List L.Mb) (hn0 : z0.length ≤ maxLen) (hz0 : RdM w sa0 z0) (sa1 : Option Addr) (sc1 : Nat) (z1 : List Int) (hn1 : z1.length ≤ maxLen) (hz1 : (InN .u16 65535) w sa1 z1) :
    Calls Try.prog 4 #[.slice sa0 z0.length sc0, .slice sa1 z1.length sc1] w fun e w' => e = .returned (.bool true) ∧ Below w.heap.size w w' :=
  greatest_walk w sa0 sc0 z0 hn0 hz0 sa1 sc1 z1 hn1 hz1

set_option maxRecDepth 100000 in
theorem lifted (os : Os) (started : os.Started) (H : Type) (enc : TypeId × Value → H) :
    ReturnsInHanded {} Try.checked os 4 .any (Rows.lbtsGreatestSpec.pre6 enc Try.prog Try.f4 Rows.lbtsGreatestRow.domain false) (Rows.lbtsGreatestSpec.post enc Try.prog Try.f4 false true false false) := by
  refine returnsInHanded_of_change (C := Try.checked) own started (by kernel_rfl) Try.func4
    (ChangeSpec.witness6 (enc := enc) (C := Try.checked) false ⟨#[], #[.slice none 0 0, .slice none 0 0], []⟩ 8 (by kernel_rfl) (by kernel_rfl) (by kernel_rfl) (by kernel_rfl)) ?_
  intro W base args ds gs before hval0 hW hcnd _
  have hval : ∀ (j : Nat) t v, Try.f4.params[j]? = some t → args[j]? = some v → Value.okWide Try.prog W .any base t v := hval0
  have hW' := hW
  obtain ⟨p, q, hA0, hV, rfl, hfz, hnd⟩ := hW
  have hA : DataW.TrodAll enc Try.prog W 0 (fun _ => true) true Try.f4.params.toList args.toList ds p := hA0
  rw [Try.params4] at hA hval
  obtain ⟨v0, vs0, d0, ds0, p0, q0, hargs, rfl, rfl, h0, r0⟩ := trodAll_cons hA
  obtain ⟨v1, vs1, d1, ds1, p1, q1, rfl, rfl, rfl, h1, r1⟩ := trodAll_cons r0
  obtain ⟨rfl, rfl, rfl⟩ := trodAll_nil r1
  obtain rfl : args = #[v0, v1] := by cases args; simp_all
  obtain ⟨rfl, rfl⟩ := trodVars_none hV
  have k0 := h0
  have lt0 : ∀ x ∈ p0, x.block < W.heap.size := by obtain ⟨m, hm⟩ := k0; exact DataW.trod_lt m _ _ _ hm
  have k1 := h1
  have lt1 : ∀ x ∈ p1, x.block < W.heap.size := by obtain ⟨m, hm⟩ := k1; exact DataW.trod_lt m _ _ _ hm
  obtain ⟨sa0, sn0, sc0, rfl⟩ := okWide_slice Try.underlying22 (hval 0 22 v0 rfl rfl)
  obtain ⟨z0, rfl, hn0, hz0⟩ : ∃ zs : List L.Mb, zs.length = sn0 ∧ zs.length ≤ maxLen ∧ RdM W sa0 zs := by
    obtain ⟨fuel, hf⟩ := h0
    obtain ⟨sa, sc, l, e, hm, hr⟩ := open_mbs (v := .slice sa0 sn0 sc0) (by simpa [Value.cells] using hf)
    simp at e
    obtain ⟨rfl, rfl, rfl⟩ := e
    exact ⟨l, rfl, hm, hr⟩
  obtain ⟨sa1, sn1, sc1, rfl⟩ := okWide_slice Try.underlying31 (hval 1 31 v1 rfl rfl)
  obtain ⟨z1, rfl, hn1, hz1⟩ : ∃ zs : List Int, zs.length = sn1 ∧ zs.length ≤ maxLen ∧ (InN .u16 65535) W sa1 zs := by
    obtain ⟨fuel, hf⟩ := h1
    obtain ⟨sa, sc, l, e, hm, hr⟩ := open_words (v := .slice sa1 sn1 sc1) (by simpa [Value.cells] using hf)
    simp at e
    obtain ⟨rfl, rfl, rfl⟩ := e
    exact ⟨l, rfl, hm, hr⟩
  clear hA0 hval0
  refine (walk W sa0 sc0 z0 hn0 hz0 sa1 sc1 z1 hn1 hz1).mono fun e W' ⟨he, bel⟩ => ?_
  subst he
  exact ⟨_, rfl, _, _, _, [], _, [], hW', trodAll_mk1 (shut_bool Try.underlying4 _), (trodAll_cons_mk (Below.trod laidOut (by kernel_rfl) (of_decide_eq_true (by kernel_rfl)) k0 bel lt0) (trodAll_cons_mk (Below.trod laidOut (by kernel_rfl) (of_decide_eq_true (by kernel_rfl)) k1 bel lt1) trodAll_mk0)), rfl, bel.frame _, fun h => by cases h⟩

theorem over : Rows.lbtsGreatestRow.holds Try.pinned (OpenSpec.ofChange Rows.lbtsGreatestSpec) :=
  OpenClaim.holds_of_wide 4 Try.f4 rfl rfl rfl rfl rfl rfl rfl ⟨rfl, rfl, rfl, rfl, rfl⟩ rfl rfl rfl rfl rfl (by kernel_rfl) Try.func4 (by kernel_rfl)
    (of_decide_eq_true (by kernel_rfl)) (by unfold Func.isWrapper; first | (rw [if_pos (by decide +kernel)]; kernel_rfl) | (rw [if_neg (by decide +kernel)]; exact ⟨rfl, rfl⟩))
    (fun os started H enc _ => lifted os started H enc)
end Go.Proofs.Ytmkhgihhledegaa.lbtsGreatest
namespace Go.Proofs.Ytmkhgihhledegaa
theorem lbtsGreatest_holds : Rows.LbtsGreatestSaid := lbtsGreatest.over
#print axioms lbtsGreatest_holds
end Go.Proofs.Ytmkhgihhledegaa
