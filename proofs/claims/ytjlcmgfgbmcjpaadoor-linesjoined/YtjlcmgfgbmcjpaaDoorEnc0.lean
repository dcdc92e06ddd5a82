/- Proved: what lines.writeField writes into a builder is the field, each byte by its code. -/
import Derived.Test.YtjlcmgfgbmcjpaaDoorBuild
import Derived.Test.YtjlcmgfgbmcjpaaDoorPure1
import Derived.WalkKit
import Derived.LoopTactic
import Derived.Outline
import Derived.Below
namespace Go.Proofs.YtjlcmgfgbmcjpaaDoor
open Go.RowKit
set_option linter.unusedVariables false

theorem hide {p : Prop} (h : p) : Hid p := h
theorem take_snoc (s : ByteArray) (k : Nat) (h : k < s.size) : s.data.toList.take (k + 1) = s.data.toList.take k ++ [s[k]] := by
  rw [List.take_succ_eq_append_getElem (by simpa using h)]; rfl
theorem take_all (s : ByteArray) (k : Nat) (h : ¬ k < s.size) : s.data.toList.take k = s.data.toList := List.take_of_length_le (by simp; omega)
theorem u8_ne {c d : UInt8} (h : c ≠ d) : ¬ ((c.toNat : Int) = (d.toNat : Int)) := fun e => h (UInt8.toNat_inj.1 (Int.natCast_inj.1 e))
theorem enc_room (s : ByteArray) (l : List UInt8) (k : Nat) (hk : k ≤ s.size) (hl : l.length + 3 * s.size ≤ 140737488355320) : (l ++ encField (s.data.toList.take k)).length + 3 ≤ 140737488355328 := by
  have h1 := (encField_len (s.data.toList.take k)).2
  have h2 : (s.data.toList.take k).length ≤ s.size := by rw [List.length_take]; simp; omega
  rw [List.length_append]; omega

set_option maxHeartbeats 1000000 in
theorem writeField_any (B b : Nat) (l : List UInt8) (s : ByteArray) (w : World) (h : IsB B b l w) (hl : l.length + 3 * s.size ≤ 140737488355320) (hB : B ≤ w.heap.size) :
    Calls Tryd.prog 37 #[.pointer (some ⟨b, 0, none⟩), .string s] w fun e w' => e = .returned (.tuple #[]) ∧ IsB B b (l ++ encField s.data.toList) w' ∧ Below B w w' := by
  have HI := hide h
  clear h
  go_enter Tryd.func37, Tryd.ntmps37
  go_wp2
  go_loopw [8] (fun i wr => ∃ k : Nat, k ≤ s.size ∧ i = .int .i64 k ∧ Hid (IsB B b (l ++ encField (s.data.toList.take k)) wr ∧ Below B w wr)) (fun i _ => s.size - (intOf i).toNat)
  case atStart => exact ⟨0, Nat.zero_le _, rfl, ⟨by simpa [encField] using HI.out, Below.refl _ _⟩⟩
  case round =>
    obtain ⟨k, hk, rfl, hh⟩ := hrel
    have hroom := enc_room s l k hk hl
    have hBr : B ≤ wr.heap.size := Nat.le_trans hB hh.out.2.size
    by_cases hlt : k < s.size
    · have HE : Hid (l ++ encField (s.data.toList.take k) ++ esc s[k] = l ++ encField (s.data.toList.take (k + 1))) := by
        show _ = _
        rw [take_snoc s k hlt, encField_snoc]; simp
      by_cases h37 : s[k] = 37
      · have h37' : (s[k].toNat : Int) = 37 := by rw [h37]; rfl
        go_wp2_with (go_at_call 50; refine (wString B b _ ⟨#[37, 50, 53]⟩ _ hh.out.1 hroom hBr).mono ?_; rintro e w1 ⟨rfl, hk1⟩; have HK := hide hk1; clear hk1)
        go_roundw
        case rel =>
          have e2 : esc s[k] = [37, 50, 53] := by rw [h37]; decide
          have e3 := HE.out
          rw [e2] at e3
          exact ⟨k + 1, by omega, by go_num, by rw [← e3]; exact HK.out.1, hh.out.2.trans HK.out.2⟩
        case measure => simp [intOf]; omega
      · have n37 : ¬ ((s[k].toNat : Int) = 37) := u8_ne h37
        by_cases h44 : s[k] = 44
        · have h44' : (s[k].toNat : Int) = 44 := by rw [h44]; rfl
          go_wp2_with (go_at_call 50; refine (wString B b _ ⟨#[37, 50, 67]⟩ _ hh.out.1 hroom hBr).mono ?_; rintro e w1 ⟨rfl, hk1⟩; have HK := hide hk1; clear hk1)
          go_roundw
          case rel =>
            have e2 : esc s[k] = [37, 50, 67] := by rw [h44]; decide
            have e3 := HE.out
            rw [e2] at e3
            exact ⟨k + 1, by omega, by go_num, by rw [← e3]; exact HK.out.1, hh.out.2.trans HK.out.2⟩
          case measure => simp [intOf]; omega
        · have n44 : ¬ ((s[k].toNat : Int) = 44) := u8_ne h44
          by_cases h10 : s[k] = 10
          · have h10' : (s[k].toNat : Int) = 10 := by rw [h10]; rfl
            go_wp2_with (go_at_call 50; refine (wString B b _ ⟨#[37, 48, 65]⟩ _ hh.out.1 hroom hBr).mono ?_; rintro e w1 ⟨rfl, hk1⟩; have HK := hide hk1; clear hk1)
            go_roundw
            case rel =>
              have e2 : esc s[k] = [37, 48, 65] := by rw [h10]; decide
              have e3 := HE.out
              rw [e2] at e3
              exact ⟨k + 1, by omega, by go_num, by rw [← e3]; exact HK.out.1, hh.out.2.trans HK.out.2⟩
            case measure => simp [intOf]; omega
          · have n10 : ¬ ((s[k].toNat : Int) = 10) := u8_ne h10
            go_wp2_with (go_at_call 36; refine (wByte B b _ s[k] _ hh.out.1 (by omega) hBr).mono ?_; rintro e w1 ⟨rfl, hk1⟩; have HK := hide hk1; clear hk1)
            go_roundw
            case rel =>
              have e3 := HE.out
              rw [esc_char h44 h10 h37] at e3
              exact ⟨k + 1, by omega, by go_num, by rw [← e3]; exact HK.out.1, hh.out.2.trans HK.out.2⟩
            case measure => simp [intOf]; omega
    · go_wp2
      go_end0
      have := hh.out
      rw [take_all s k hlt] at this
      exact ⟨rfl, this⟩
end Go.Proofs.YtjlcmgfgbmcjpaaDoor
