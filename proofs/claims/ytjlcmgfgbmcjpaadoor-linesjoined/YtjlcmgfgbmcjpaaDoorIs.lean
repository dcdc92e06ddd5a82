/- Proved: what errors.Is tells of nothing, and of an error of lines.lineError's that holds ErrForm, looked into for ErrForm. -/
import Derived.Test.YtjlcmgfgbmcjpaaDoorEnc0
import Derived.LaidEql
import Derived.Stop.Asserts
import Derived.RowKitTokens
namespace Go.Proofs.YtjlcmgfgbmcjpaaDoor
open Go.RowKit Go.Extern.Stop Go.Stop Go.Extern
set_option linter.unusedVariables false

theorem callTypeOf (v : Value) (w : World) : (callFunc 40 #[.iface 24 v]).run Tryd.prog w = .ok (.value (.iface 86 (.agg #[.pointer (some ⟨9, 24, none⟩)]))) w := by kernel_rfl
theorem callComparable (w : World) : (callFunc 129 #[.agg #[.pointer (some ⟨9, 24, none⟩)]]).run Tryd.prog w = .ok (.value (.bool true)) w := by kernel_rfl
theorem mComparable (v : Value) (w : World) : (Go.method 287 86 v "Comparable").run Tryd.prog w = .ok (129, v) w := by kernel_rfl
theorem mUnwrap (v : Value) (w : World) : (Go.method 287 68 v "Unwrap").run Tryd.prog w = .ok (126, v) w := by kernel_rfl
theorem noIsL (v : Value) (xT : TypeId) (w : World) : (Instr.typeAssert (.iface 68 v) xT 88 true).run Tryd.prog w = .ok (.tuple #[.nilIface, .bool false]) w := run_typeAssert_lacksB Tryd.underlying88 (by kernel_rfl) (by kernel_rfl) v xT w
theorem hasUnwrapL (v : Value) (xT : TypeId) (w : World) : (Instr.typeAssert (.iface 68 v) xT 91 true).run Tryd.prog w = .ok (.tuple #[.iface 68 v, .bool true]) w := run_typeAssert_hasB Tryd.underlying91 (by kernel_rfl) v xT w
theorem eqForm (w : World) : (binOp .eql 50 (.iface 24 (.int .i64 20)) (.iface 24 (.int .i64 20))).run Tryd.prog w = .ok (.bool true) w := by kernel_rfl

theorem is_nil (w : World) : Calls Tryd.prog 29 #[.nilIface, .iface 24 (.int .i64 20)] w fun e w' => e = .returned (.bool false) ∧ w' = w := by
  have hn := run_eql_iface_nil_left (P := Tryd.prog) w 24 (.int .i64 20) Tryd.underlying50
  go_enter Tryd.func29, Tryd.ntmps29
  go_wp2
  go_ret
  exact ⟨rfl, rfl⟩

set_option maxRecDepth 100000 in
set_option maxHeartbeats 2000000 in
theorem is_line (n : Int) (w : World) : Calls Tryd.prog 29 #[.iface 68 (.agg #[.int .i64 n, .iface 24 (.int .i64 20)]), .iface 24 (.int .i64 20)] w fun e w' => e = .returned (.bool true) ∧ Below w.heap.size w w' := by
  have tT := callTypeOf
  have cT := callComparable
  have mR := mComparable
  have mU := mUnwrap
  have nE := noIsL
  have uE := hasUnwrapL
  have eF := eqForm
  have hty := run_eql_iface_types (P := Tryd.prog) 68 24 (.agg #[.int .i64 n, .iface 24 (.int .i64 20)]) (.int .i64 20) Tryd.underlying50 (by decide) w
  go_enter Tryd.func29, Tryd.ntmps29
  go_wp2
  refine wp_loop_rounds 2 ?_
  rw [rounds_succ]
  go_wp2
  rw [rounds_succ]
  go_wp2
  go_ret
  exact ⟨rfl, (Below.refl _ _).alloc (Nat.le_refl _) _⟩
end Go.Proofs.YtjlcmgfgbmcjpaaDoor
