/- Proved: TableWalks answers true, whatever it is asked; its arguments read afterwards as they read before. No condition. -/
import Derived.Test.YtddjfjecamcfnaaRows
import Derived.WalkKit
import Derived.ProofKit
import Derived.OpenShut
import Derived.ShutString
import Derived.ChangeOld
import Derived.Below
import Derived.Test.YtddjfjecamcfnaaWWal
namespace Go.Proofs.Ytddjfjecamcfnaa.tableWalks
open Go.ChangeShapes Go.WideShapes Go.ChangeAt Go.RowKit
open Go.ChangeMaps (open_string shut_string)
set_option linter.unusedVariables false

theorem own : ownKnob Try.prog.godebug = none := by kernel_rfl
theorem laidOut : laidOutB Try.prog = true := by kernel_rfl

theorem walk (w : World) (sa0 : Option Addr) (sc0 : Nat) (z0 : List Rl) (hn0 : z0.length ≤ maxLen) (hz0 : RdR w sa0 z0) (a1 : Int) (w1 : (Lit.int .i64 a1).wf = true) (sa2 : Option Addr) (sc2 : Nat) (z2 : List Int) (hn2 : z2.length ≤ maxLen) (hz2 : RdI w w.heap.size sa2 z2) (sa3 : Option Addr) (sc3 : Nat) (z3 : List Int) (hn3 : z3.length ≤ maxLen) (hz3 : RdI w w.heap.size sa3 z3) :
    Calls Try.prog 5 #[.slice sa0 z0.length sc0, .int .i64 a1, .slice sa2 z2.length sc2, .slice sa3 z3.length sc3] w fun e w' => e = .returned (.bool true) ∧ Below w.heap.size w w' :=
  walks_walk w sa0 sc0 z0 a1 sa2 sc2 z2 sa3 sc3 z3 hn0 hz0 hn2 hz2 hn3 hz3

set_option maxRecDepth 100000 in
theorem lifted (os : Os) (started : os.Started) (H : Type) (enc : TypeId × Value → H) :
    ReturnsInHanded {} Try.checked os 5 .any (Rows.tableWalksSpec.pre6 enc Try.prog Try.f5 Rows.tableWalksRow.domain false) (Rows.tableWalksSpec.post enc Try.prog Try.f5 false true false false) := by
  refine returnsInHanded_of_change (C := Try.checked) own started (by kernel_rfl) Try.func5
    (ChangeSpec.witness6 (enc := enc) (C := Try.checked) false ⟨#[], #[.slice none 0 0, .int .i64 0, .slice none 0 0, .slice none 0 0], []⟩ 8 (by kernel_rfl) (by kernel_rfl) (by kernel_rfl) (by kernel_rfl)) ?_
  intro W base args ds gs before hval0 hW hcnd _
  have hval : ∀ (j : Nat) t v, Try.f5.params[j]? = some t → args[j]? = some v → Value.okWide Try.prog W .any base t v := hval0
  have hW' := hW
  obtain ⟨p, q, hA0, hV, rfl, hfz, hnd⟩ := hW
  have hA : DataW.TrodAll enc Try.prog W 0 (fun _ => true) true Try.f5.params.toList args.toList ds p := hA0
  rw [Try.params5] at hA hval
  obtain ⟨v0, vs0, d0, ds0, p0, q0, hargs, rfl, rfl, h0, r0⟩ := trodAll_cons hA
  obtain ⟨v1, vs1, d1, ds1, p1, q1, rfl, rfl, rfl, h1, r1⟩ := trodAll_cons r0
  obtain ⟨v2, vs2, d2, ds2, p2, q2, rfl, rfl, rfl, h2, r2⟩ := trodAll_cons r1
  obtain ⟨v3, vs3, d3, ds3, p3, q3, rfl, rfl, rfl, h3, r3⟩ := trodAll_cons r2
  obtain ⟨rfl, rfl, rfl⟩ := trodAll_nil r3
  obtain rfl : args = #[v0, v1, v2, v3] := by cases args; simp_all
  obtain ⟨rfl, rfl⟩ := trodVars_none hV
  have k0 := h0
  have lt0 : ∀ x ∈ p0, x.block < W.heap.size := by obtain ⟨m, hm⟩ := k0; exact DataW.trod_lt m _ _ _ hm
  have k1 := h1
  have lt1 : ∀ x ∈ p1, x.block < W.heap.size := by obtain ⟨m, hm⟩ := k1; exact DataW.trod_lt m _ _ _ hm
  have k2 := h2
  have lt2 : ∀ x ∈ p2, x.block < W.heap.size := by obtain ⟨m, hm⟩ := k2; exact DataW.trod_lt m _ _ _ hm
  have k3 := h3
  have lt3 : ∀ x ∈ p3, x.block < W.heap.size := by obtain ⟨m, hm⟩ := k3; exact DataW.trod_lt m _ _ _ hm
  obtain ⟨sa0, sn0, sc0, rfl⟩ := okWide_slice Try.underlying22 (hval 0 22 v0 rfl rfl)
  obtain ⟨hn0, z0, rfl, hz0⟩ : sn0 ≤ maxLen ∧ ∃ zs : List Rl, zs.length = sn0 ∧ RdR W sa0 zs := by
    obtain ⟨fuel, hf⟩ := h0
    exact open_rules (by simpa [Value.cells] using hf)
  obtain ⟨a1, rfl, rfl, rfl, w1⟩ := open_int Try.underlying3 (hval 1 3 v1 rfl rfl) h1
  obtain ⟨sa2, sn2, sc2, rfl⟩ := okWide_slice Try.underlying40 (hval 2 40 v2 rfl rfl)
  obtain ⟨hn2, z2, rfl, hz2⟩ : sn2 ≤ maxLen ∧ ∃ zs : List Int, zs.length = sn2 ∧ RdI W W.heap.size sa2 zs := by
    obtain ⟨fuel, hf⟩ := h2
    exact open_parents (by simpa [Value.cells] using hf)
  obtain ⟨sa3, sn3, sc3, rfl⟩ := okWide_slice Try.underlying40 (hval 3 40 v3 rfl rfl)
  obtain ⟨hn3, z3, rfl, hz3⟩ : sn3 ≤ maxLen ∧ ∃ zs : List Int, zs.length = sn3 ∧ RdI W W.heap.size sa3 zs := by
    obtain ⟨fuel, hf⟩ := h3
    exact open_parents (by simpa [Value.cells] using hf)
  clear hA0 hval0
  refine (walk W sa0 sc0 z0 hn0 hz0 a1 w1 sa2 sc2 z2 hn2 hz2 sa3 sc3 z3 hn3 hz3).mono fun e W' ⟨he, bel⟩ => ?_
  subst he
  exact ⟨_, rfl, _, _, _, [], _, [], hW', trodAll_mk1 (shut_bool Try.underlying4 _), (trodAll_cons_mk (Below.trod laidOut (by kernel_rfl) (of_decide_eq_true (by kernel_rfl)) k0 bel lt0) (trodAll_cons_mk (Below.trod laidOut (by kernel_rfl) (of_decide_eq_true (by kernel_rfl)) k1 bel lt1) (trodAll_cons_mk (Below.trod laidOut (by kernel_rfl) (of_decide_eq_true (by kernel_rfl)) k2 bel lt2) (trodAll_cons_mk (Below.trod laidOut (by kernel_rfl) (of_decide_eq_true (by kernel_rfl)) k3 bel lt3) trodAll_mk0)))), rfl, bel.frame _, fun h => by cases h⟩

theorem over : Rows.tableWalksRow.holds Try.pinned (OpenSpec.ofChange Rows.tableWalksSpec) :=
  OpenClaim.holds_of_wide 5 Try.f5 rfl rfl rfl rfl rfl rfl rfl ⟨rfl, rfl, rfl, rfl, rfl⟩ rfl rfl rfl rfl rfl (by kernel_rfl) Try.func5 (by kernel_rfl)
    (of_decide_eq_true (by kernel_rfl)) (by unfold Func.isWrapper; first | (rw [if_pos (by decide +kernel)]; kernel_rfl) | (rw [if_neg (by decide +kernel)]; exact ⟨rfl, rfl⟩))
    (fun os started H enc _ => lifted os started H enc)
end Go.Proofs.Ytddjfjecamcfnaa.tableWalks
namespace Go.Proofs.Ytddjfjecamcfnaa
theorem tableWalks_holds : Rows.TableWalksSaid := tableWalks.over
#print axioms tableWalks_holds
end Go.Proofs.Ytddjfjecamcfnaa
