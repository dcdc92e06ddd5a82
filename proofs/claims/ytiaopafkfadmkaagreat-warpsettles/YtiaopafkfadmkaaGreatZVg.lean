/- Joined: the texts that follow, each with its own sentence. -/
import Derived.Test.YtiaopafkfadmkaaGreatZB
import Derived.LaidEql
import Derived.Stop.Asserts
import Derived.RowKitTokens
import Derived.Lib.IfaceEq
set_option linter.unusedVariables false
set_option maxRecDepth 100000
namespace Go.Proofs.YtiaopafkfadmkaaGreat.V
open Go.RowKit Go.Extern.Stop Go.Stop Go.Extern
theorem callTypeOf (v : Value) (w : World) : (callFunc 151 #[.iface 30 v]).run Tryz.prog w = .ok (.value (.iface 229 (.agg #[.pointer (some ⟨0, 30, none⟩)]))) w := by kernel_rfl
theorem callComparable (w : World) : (callFunc 265 #[.agg #[.pointer (some ⟨0, 30, none⟩)]]).run Tryz.prog w = .ok (.value (.bool true)) w := by kernel_rfl
theorem mComparable (v : Value) (w : World) : (Go.method 420 229 v "Comparable").run Tryz.prog w = .ok (265, v) w := by kernel_rfl
theorem mUnwrap (v : Value) (w : World) : (Go.method 420 109 v "Unwrap").run Tryz.prog w = .ok (257, v) w := by kernel_rfl
theorem noIsM (v : Value) (xT : TypeId) (w : World) : (Instr.typeAssert (.iface 109 v) xT 231 true).run Tryz.prog w = .ok (.tuple #[.nilIface, .bool false]) w := run_typeAssert_lacksB Tryz.underlying231 (by kernel_rfl) (by kernel_rfl) v xT w
theorem noIsE (v : Value) (xT : TypeId) (w : World) : (Instr.typeAssert (.iface 30 v) xT 231 true).run Tryz.prog w = .ok (.tuple #[.nilIface, .bool false]) w := run_typeAssert_lacksB Tryz.underlying231 (by kernel_rfl) (by kernel_rfl) v xT w
theorem hasUnwrapM (v : Value) (xT : TypeId) (w : World) : (Instr.typeAssert (.iface 109 v) xT 234 true).run Tryz.prog w = .ok (.tuple #[.iface 109 v, .bool true]) w := run_typeAssert_hasB Tryz.underlying234 (by kernel_rfl) v xT w
theorem noUnwrapE (v : Value) (xT : TypeId) (w : World) : (Instr.typeAssert (.iface 30 v) xT 234 true).run Tryz.prog w = .ok (.tuple #[.nilIface, .bool false]) w := run_typeAssert_lacksB Tryz.underlying234 (by kernel_rfl) (by kernel_rfl) v xT w
theorem noUnwrapsE (v : Value) (xT : TypeId) (w : World) : (Instr.typeAssert (.iface 30 v) xT 236 true).run Tryz.prog w = .ok (.tuple #[.nilIface, .bool false]) w := run_typeAssert_lacksB Tryz.underlying236 (by kernel_rfl) (by kernel_rfl) v xT w
theorem eqE (a b : Int) (w : World) : (binOp .eql 104 (.iface 30 (.int .i64 a)) (.iface 30 (.int .i64 b))).run Tryz.prog w = .ok (.bool (decide (a = b))) w := by
 have h := Go.Lib.run_eql_iface_int (P := Tryz.prog) w (k := .i64) a b Tryz.underlying104 (by kernel_rfl) Tryz.underlying30
 have e : (a == b) = decide (a = b) := by
  rw [Bool.eq_iff_iff]
  simp
 rw [h, e]
set_option maxHeartbeats 2000000 in
theorem is_mis (n E T : Int) (w : World) : Calls Tryz.prog 104 #[.iface 109 (.agg #[.int .i64 n, .iface 30 (.int .i64 E)]), .iface 30 (.int .i64 T)] w fun e w' => e = .returned (.bool (decide (E = T))) ∧ Below w.heap.size w w' := by
 have tT := callTypeOf
 have cT := callComparable
 have mR := mComparable
 have mU := mUnwrap
 have nE := noIsM
 have nE2 := noIsE
 have uE := hasUnwrapM
 have uE2 := noUnwrapE
 have uE3 := noUnwrapsE
 have eF := eqE E T
 have hty := run_eql_iface_types (P := Tryz.prog) 109 30 (.agg #[.int .i64 n, .iface 30 (.int .i64 E)]) (.int .i64 T) Tryz.underlying104 (by decide) w
 by_cases h : E = T
 ·rw [decide_eq_true h] at eF ⊢
  clear h
  go_enter Tryz.func104, Tryz.ntmps104
  go_wp2
  refine wp_loop_rounds 2 ?_
  rw [rounds_succ]
  go_wp2
  rw [rounds_succ]
  go_wp2
  go_ret
  exact ⟨rfl, (Below.refl _ _).alloc (Nat.le_refl _) _⟩
 ·rw [decide_eq_false h] at eF ⊢
  clear h
  go_enter Tryz.func104, Tryz.ntmps104
  go_wp2
  refine wp_loop_rounds 2 ?_
  rw [rounds_succ]
  go_wp2
  rw [rounds_succ]
  go_wp2
  go_ret
  exact ⟨rfl, (Below.refl _ _).alloc (Nat.le_refl _) _⟩
set_option maxHeartbeats 4000000 in
theorem num_any (n E : Int) (hE : E = 1 ∨ E = 2 ∨ E = 3 ∨ E = 4 ∨ E = 110 ∨ E = 130) (w : World) : Calls Tryz.prog 52 #[.iface 109 (.agg #[.int .i64 n, .iface 30 (.int .i64 E)])] w fun e w' => e = .returned (.int .i64 E) ∧ Below w.heap.size w w' := by
 obtain ⟨W0, hW0⟩ : ∃ W0, W0 = w.alloc (.cells #[.int .i64 1, .int .i64 2, .int .i64 3, .int .i64 4, .int .i64 110, .int .i64 130] 30) := ⟨_, rfl⟩
 have hb0 : Below w.heap.size w W0 := by rw [hW0]; exact B.al _ _
 have bx : W0.heap[w.heap.size]? = some (.cells #[.int .i64 1, .int .i64 2, .int .i64 3, .int .i64 4, .int .i64 110, .int .i64 130] 30 (0, 0)) := by rw [hW0]; exact (MapKept.heap_alloc w _).1
 obtain ⟨q, hq⟩ : ∃ q, w.heap.size = q := ⟨_, rfl⟩
 rw [hq] at bx
 have HB0 : Hid (Below w.heap.size w W0) := hb0
 have hx : ∀ i : Nat, i < 6 → ∃ T : Int, (#[Value.int .i64 1, .int .i64 2, .int .i64 3, .int .i64 4, .int .i64 110, .int .i64 130] : Array Value)[i]? = some (.int .i64 T) ∧ ([1, 2, 3, 4, 110, 130] : List Int)[i]? = some T := fun i hi => by
  match i, hi with
  | 0, _ => exact ⟨1, rfl, rfl⟩
  | 1, _ => exact ⟨2, rfl, rfl⟩
  | 2, _ => exact ⟨3, rfl, rfl⟩
  | 3, _ => exact ⟨4, rfl, rfl⟩
  | 4, _ => exact ⟨110, rfl, rfl⟩
  | 5, _ => exact ⟨130, rfl, rfl⟩
 have HX : Hid (∀ i : Nat, i < 6 → ∃ T : Int, (#[Value.int .i64 1, .int .i64 2, .int .i64 3, .int .i64 4, .int .i64 110, .int .i64 130] : Array Value)[i]? = some (.int .i64 T) ∧ ([1, 2, 3, 4, 110, 130] : List Int)[i]? = some T) := hx
 have HQ : Hid (∀ W, Below W0.heap.size W0 W → ∀ i T, (#[Value.int .i64 1, .int .i64 2, .int .i64 3, .int .i64 4, .int .i64 110, .int .i64 130] : Array Value)[i]? = some (.int .i64 T) → q < W.heap.size ∧ W.cell? ⟨q, i, none⟩ = some (.int .i64 T)) := fun W hW i T hT => by
  have hl := (Array.getElem?_eq_some_iff.1 bx).1
  have g := (hW.block q hl).trans bx
  refine ⟨Nat.lt_of_lt_of_le hl hW.size, ?_⟩
  simp only [World.cell?, g]
  exact hT
 have HE : Hid (E = 1 ∨ E = 2 ∨ E = 3 ∨ E = 4 ∨ E = 110 ∨ E = 130) := hE
 clear hE hx bx hb0
 go_enter Tryz.func52, Tryz.ntmps52
 go_wp2_with fail
 rw [← hW0]
 try simp only [hq]
 clear hW0 hq
 go_loopw [7] (fun s7 wr => ∃ i : Nat, s7 = .int .i64 i ∧ i ≤ 6 ∧ Hid (Below W0.heap.size W0 wr) ∧ Hid (∀ j : Nat, j < i → ([1, 2, 3, 4, 110, 130] : List Int)[j]? ≠ some E)) (fun s7 _ => 6 - (intOf s7).toNat)
 case atStart => exact ⟨0, rfl, Nat.zero_le _, Below.refl _ _, (fun j hj => absurd hj (Nat.not_lt_zero j) : ∀ j : Nat, j < 0 → ([1, 2, 3, 4, 110, 130] : List Int)[j]? ≠ some E)⟩
 case round =>
  obtain ⟨i, rfl, hi, HW, HJ⟩ := hrel
  by_cases hlt : i < 6
  ·have hlt' : (i : Int) < 6 := by omega
   obtain ⟨T, hT1, hT2⟩ := HX.out i hlt
   obtain ⟨lq, c0⟩ := HQ.out _ HW.out i T hT1
   have C := is_mis n E T wr
   have HT2 : Hid (([1, 2, 3, 4, 110, 130] : List Int)[i]? = some T) := hT2
   clear hT1 hT2
   by_cases h : E = T
   ·rw [decide_eq_true h] at C
    have HET : Hid (E = T) := h
    clear h
    go_wp2_with (go_at_call 104; refine C.mono ?_; rintro e w1 ⟨rfl, hb⟩; have HB : Hid _ := hb; clear hb C)
    go_ret
    exact ⟨by rw [HET.out]; rfl, HB0.out.trans ((HW.out.trans (HB.out.mono HW.out.size)).mono HB0.out.size)⟩
   ·rw [decide_eq_false h] at C
    have HET : Hid (¬ E = T) := h
    clear h
    go_wp2_with (go_at_call 104; refine C.mono ?_; rintro e w1 ⟨rfl, hb⟩; have HB : Hid _ := hb; clear hb C)
    go_roundw
    case rel =>
     refine ⟨i + 1, by go_num, by omega, HW.out.trans (HB.out.mono HW.out.size), ?_⟩
     show ∀ j : Nat, j < i + 1 → ([1, 2, 3, 4, 110, 130] : List Int)[j]? ≠ some E
     intro j hj e
     rcases Nat.lt_or_ge j i with g | g
     ·exact HJ.out j g e
     ·obtain rfl : j = i := by omega
      rw [HT2.out] at e
      exact HET.out (Option.some.inj e).symm
    case measure => simp [intOf]; omega
  ·exfalso
   obtain rfl : i = 6 := by omega
   have hj := HJ.out
   rcases HE.out with e | e | e | e | e | e
   ·exact hj 0 (by omega) (by rw [e]; rfl)
   ·exact hj 1 (by omega) (by rw [e]; rfl)
   ·exact hj 2 (by omega) (by rw [e]; rfl)
   ·exact hj 3 (by omega) (by rw [e]; rfl)
   ·exact hj 4 (by omega) (by rw [e]; rfl)
   ·exact hj 5 (by omega) (by rw [e]; rfl)
end Go.Proofs.YtiaopafkfadmkaaGreat.V
