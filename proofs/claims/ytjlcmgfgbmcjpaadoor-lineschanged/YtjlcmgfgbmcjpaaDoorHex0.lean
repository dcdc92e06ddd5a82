/- Proved: what math/bits.TrailingZeros and internal/strconv.isPowerOfTwo tell of 16. -/
import Derived.Test.YtjlcmgfgbmcjpaaDoorSum
import Derived.WalkSpells
namespace Go.Proofs.YtjlcmgfgbmcjpaaDoor
open Go.RowKit
set_option linter.unusedVariables false
theorem hideH {p : Prop} (h : p) : Hid p := h
/-- The library's table of trailing noughts holds 4 where 16 is looked up. -/
def ShAt (w : World) : Prop := w.cell? ⟨6, 15, none⟩ = some (.int .u8 4)
theorem ShAt.keep {w w' : World} (h : ShAt w) (hb : Below w.heap.size w w') : ShAt w' := (hb.cell (World.block_lt_of_cell? _ _ h)).trans h
theorem pow2_16 (w : World) : Calls Tryd.prog 86 #[.int .i64 16] w fun e w' => e = .returned (.bool true) ∧ w' = w := by
  have hx : bits .and .i64 16 15 = 0 := by decide +kernel
  go_enter Tryd.func86, Tryd.ntmps86
  go_wp2
  go_ret
  exact ⟨rfl, rfl⟩
theorem tz64_16 (w : World) (h : ShAt w) : Calls Tryd.prog 99 #[.int .u64 16] w fun e w' => e = .returned (.int .i64 4) ∧ w' = w := by
  unfold ShAt at h
  have hx : IntKind.u64.wrap (bits .and .u64 16 (IntKind.u64.wrap (-16)) * 285870213051353865) = 4573923408821661840 := by decide +kernel
  go_enter Tryd.func99, Tryd.ntmps99
  go_wp2
  go_ret
  exact ⟨rfl, rfl⟩
theorem tz_16 (w : World) (h : ShAt w) : Calls Tryd.prog 87 #[.int .u64 16] w fun e w' => e = .returned (.int .i64 4) ∧ w' = w := by
  go_enter Tryd.func87, Tryd.ntmps87
  go_wp2_with (go_at_call 99; refine (tz64_16 _ h).mono ?_; rintro e w1 ⟨rfl, rfl⟩)
  go_ret
  exact ⟨rfl, rfl⟩
end Go.Proofs.YtjlcmgfgbmcjpaaDoor
