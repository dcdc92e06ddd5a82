/- Proved: what lines.readByte and lines.readField tell of any text. -/
import Derived.Test.YtjlcmgfgbmcjpaaDoorEnc0
import Derived.Test.YtjlcmgfgbmcjpaaDoorPure3
import Derived.Test.YtjlcmgfgbmcjpaaDoorShelf
namespace Go.Proofs.YtjlcmgfgbmcjpaaDoor
open Go.RowKit
set_option linter.unusedVariables false

theorem head_get (s : ByteArray) (h : 0 < s.size) : s.data.toList.headD 0 = s[0] := by
  have hl : 0 < s.data.toList.length := by simpa using h
  rw [show s[0] = s.data.toList[0]'hl from rfl]
  match s.data.toList, hl with
  | c :: r, _ => simp

set_option maxRecDepth 100000 in
set_option maxHeartbeats 1000000 in
theorem readByte_any (s : ByteArray) (w : World) (h : 0 < s.size) :
    Calls Tryd.prog 78 #[.string s] w fun e w' => e = .returned (.tuple #[.int .u8 (rb s.data.toList).1.toNat, .int .i64 (rb s.data.toList).2]) ∧ w' = w := by
  have hh := head_get s h
  by_cases h37 : s[0] = 37
  · have n37 : (s[0].toNat : Int) = 37 := by rw [h37]; rfl
    rcases hp1 : Lib.hasPrefix s.data.toList [37, 50, 53] with _ | _
    · rcases hp2 : Lib.hasPrefix s.data.toList [37, 50, 67] with _ | _
      · rcases hp3 : Lib.hasPrefix s.data.toList [37, 48, 65] with _ | _
        · have HE : Hid (rb s.data.toList = (0, 0)) := by
            show _ = _
            rw [rb, hh, h37, hp1, hp2, hp3]; rfl
          go_enter Tryd.func78, Tryd.ntmps78
          go_wp2_with (go_at_call 48; refine (Tryd.strings_HasPrefix _ _ _).mono ?_; rintro e w' ⟨rfl, rfl⟩)
          go_ret2
          exact ⟨by rw [HE.out]; rfl, rfl⟩
        · have HE : Hid (rb s.data.toList = (10, 3)) := by
            show _ = _
            rw [rb, hh, h37, hp1, hp2, hp3]; rfl
          go_enter Tryd.func78, Tryd.ntmps78
          go_wp2_with (go_at_call 48; refine (Tryd.strings_HasPrefix _ _ _).mono ?_; rintro e w' ⟨rfl, rfl⟩)
          go_ret2
          exact ⟨by rw [HE.out]; rfl, rfl⟩
      · have HE : Hid (rb s.data.toList = (44, 3)) := by
          show _ = _
          rw [rb, hh, h37, hp1, hp2]; rfl
        go_enter Tryd.func78, Tryd.ntmps78
        go_wp2_with (go_at_call 48; refine (Tryd.strings_HasPrefix _ _ _).mono ?_; rintro e w' ⟨rfl, rfl⟩)
        go_ret2
        exact ⟨by rw [HE.out]; rfl, rfl⟩
    · have HE : Hid (rb s.data.toList = (37, 3)) := by
        show _ = _
        rw [rb, hh, h37, hp1]; rfl
      go_enter Tryd.func78, Tryd.ntmps78
      go_wp2_with (go_at_call 48; refine (Tryd.strings_HasPrefix _ _ _).mono ?_; rintro e w' ⟨rfl, rfl⟩)
      go_ret2
      exact ⟨by rw [HE.out]; rfl, rfl⟩
  · have n37 : ¬ ((s[0].toNat : Int) = 37) := u8_ne h37
    have HE : Hid (rb s.data.toList = (s[0], 1)) := by
      show _ = _
      rw [rb, hh, if_pos h37]
    go_enter Tryd.func78, Tryd.ntmps78
    go_wp2
    go_ret2
    exact ⟨by rw [HE.out]; rfl, rfl⟩
end Go.Proofs.YtjlcmgfgbmcjpaaDoor
