/- Proved: the walk of LinkFull. -/
import Derived.Test.YtkngokpildoljaaLw0
namespace Go.Proofs.Ytkngokpildoljaa
open Go.RowKit Go.Shelf
set_option linter.unusedVariables false

abbrev ib (i : Int) : It := ⟨0, 0, 0, 0, 0, 0, i, 0⟩
def fil (k : Nat) : List It := (List.range k).map fun i : Nat => ib (i : Int)
def LF (l : List It) : Ln := updL noL 0 1 l
theorem fil_len (k : Nat) : (fil k).length = k := by simp [fil]
theorem fil_succ (k : Nat) : fil (k + 1) = fil k ++ [ib k] := by simp [fil, List.range_succ]
theorem fil_nth (k i : Nat) (h : i < k) : nthT ((fil k).drop i) 0 = ib i := by
  simp [nthT, fil, h]
theorem fil_tail (k i : Nat) : ((fil k).drop i).tail = (fil k).drop (i + 1) := by simp
theorem LF_at (l : List It) : LF l 0 1 = l := updL_at _ _ _ _
theorem isL01 : isL 2 0 1 = true := by decide
theorem LF_nil : LF [] = noL := by
  funext c d
  unfold LF updL noL
  split <;> rfl
theorem LF_itms (l : List It) : itms 2 (LF l) = l := by
  have h0 : LF l 0 0 = [] := updL_out _ _ _ _ (by omega)
  have h1 : LF l 0 1 = l := LF_at l
  have h2 : LF l 1 0 = [] := updL_out _ _ _ _ (by omega)
  have h3 : LF l 1 1 = [] := updL_out _ _ _ _ (by omega)
  simp [itms, rowsF, colsF, List.range_succ, h0, h1, h2, h3]
theorem fil_carr (k : Nat) : carr 0 (fil k) = k := by
  induction k with
  | zero => rfl
  | succ k ih =>
    rw [fil_succ, carr_app, ih]
    simp [isC]
theorem LF_send {n i : Nat} (h : i < n) : sndE 2 n (LF (fil i)) 0 1 (ib i) = 0 ∧ sndL 2 n (LF (fil i)) 0 1 (ib i) = LF (fil (i + 1)) := by
  have e : sndE 2 n (LF (fil i)) 0 1 (ib i) = 0 := by
    unfold sndE
    rw [if_pos ⟨isL01, rfl⟩, LF_at, fil_len, if_neg (by omega)]
  refine ⟨e, ?_⟩
  unfold sndL
  rw [if_pos e, LF_at, fil_succ]
  exact updL_upd _ _ _ _ _
theorem LF_full (n : Nat) : sndE 2 n (LF (fil n)) 0 1 (ib 0) = 2 ∧ sndL 2 n (LF (fil n)) 0 1 (ib 0) = LF (fil n) := by
  have e : sndE 2 n (LF (fil n)) 0 1 (ib 0) = 2 := by
    unfold sndE
    rw [if_pos ⟨isL01, rfl⟩, LF_at, fil_len, if_pos rfl]
  refine ⟨e, ?_⟩
  unfold sndL
  rw [if_neg (by rw [e]; decide)]
theorem LF_rcv (l : List It) : rcvL (LF l) 0 1 = LF l.tail := by
  unfold rcvL
  rw [LF_at]
  exact updL_upd _ _ _ _ _
theorem LF_room (n i : Nat) : roomN 2 n (LF (fil i)) 0 1 = (n : Int) - (i : Int) := by
  unfold roomN
  rw [if_pos isL01, LF_at, fil_len]

/-! ### The calls -/
theorem F_room {w W : World} {n i B : Nat} (h : N1 w W 2 n (LF (fil i)) B) :
    Calls Try.prog 18 #[.pointer (some ⟨B, 0, none⟩), .int .i64 0, .int .i64 1] W fun e w' => e = .returned (.int .i64 ((n : Int) - (i : Int))) ∧ N1 w w' 2 n (LF (fil i)) B := by
  rw [← LF_room]; exact h.room 0 1
theorem F_send {w W : World} {n i B : Nat} (h : N1 w W 2 n (LF (fil i)) B) (hi : i < n) :
    Calls Try.prog 10 #[.pointer (some ⟨B, 0, none⟩), .int .i64 0, .int .i64 1, .agg #[.int .i64 0, .int .i64 0, .int .i64 0, .int .i64 0, .int .i64 0, .int .i64 0, .int .i64 (i : Int), .int .i64 0]] W fun e w' => e = .returned (.int .i64 0) ∧ N1 w w' 2 n (LF (fil (i + 1))) B :=
  (h.send 0 1 (ib i)).mono fun e w' ⟨he, hn⟩ => by
    rw [(LF_send hi).1] at he
    rw [(LF_send hi).2] at hn
    exact ⟨he, hn⟩
theorem F_full {w W : World} {n B : Nat} (h : N1 w W 2 n (LF (fil n)) B) :
    Calls Try.prog 10 #[.pointer (some ⟨B, 0, none⟩), .int .i64 0, .int .i64 1, .agg #[.int .i64 0, .int .i64 0, .int .i64 0, .int .i64 0, .int .i64 0, .int .i64 0, .int .i64 0, .int .i64 0]] W fun e w' => e = .returned (.int .i64 2) ∧ N1 w w' 2 n (LF (fil n)) B :=
  (h.send 0 1 (ib 0)).mono fun e w' ⟨he, hn⟩ => by
    rw [(LF_full n).1] at he
    rw [(LF_full n).2] at hn
    exact ⟨he, hn⟩
theorem F_all {w W : World} {n B : Nat} (h : N1 w W 2 n (LF (fil n)) B) :
    Calls Try.prog 20 #[.pointer (some ⟨B, 0, none⟩)] W fun e w' => e = .returned (.int .i64 (n : Int)) ∧ N1 w w' 2 n (LF (fil n)) B := by
  have := h.all
  rwa [LF_itms, fil_len] at this
theorem F_carr {w W : World} {n B : Nat} (h : N1 w W 2 n (LF (fil n)) B) :
    Calls Try.prog 22 #[.pointer (some ⟨B, 0, none⟩), .int .i64 0] W fun e w' => e = .returned (.int .i64 (n : Int)) ∧ N1 w w' 2 n (LF (fil n)) B := by
  have := h.carried 0
  rwa [LF_itms, fil_carr] at this
theorem F_recv {w W : World} {n i B : Nat} (h : N1 w W 2 n (LF ((fil n).drop i)) B) (hi : i < n) :
    Calls Try.prog 14 #[.pointer (some ⟨B, 0, none⟩), .int .i64 0, .int .i64 1] W fun e w' => e = .returned (.tuple #[.agg #[.int .i64 0, .int .i64 0, .int .i64 0, .int .i64 0, .int .i64 0, .int .i64 0, .int .i64 (i : Int), .int .i64 0], .bool true]) ∧ N1 w w' 2 n (LF ((fil n).drop (i + 1))) B :=
  (h.recv 0 1).mono fun e w' ⟨he, hn⟩ => by
    have hf : fstB ((fil n).drop i) = true := by simp [fstB, fil_len]; omega
    rw [LF_at, fil_nth n i hi, hf] at he
    rw [LF_rcv, fil_tail] at hn
    exact ⟨he, hn⟩
theorem F_none {w W : World} {n B : Nat} (h : N1 w W 2 n (LF []) B) :
    Calls Try.prog 14 #[.pointer (some ⟨B, 0, none⟩), .int .i64 0, .int .i64 1] W fun e w' => e = .returned (.tuple #[.agg #[.int .i64 0, .int .i64 0, .int .i64 0, .int .i64 0, .int .i64 0, .int .i64 0, .int .i64 0, .int .i64 0], .bool false]) ∧ N1 w w' 2 n (LF []) B :=
  (h.recv 0 1).mono fun e w' ⟨he, hn⟩ => by
    rw [LF_at] at he
    rw [LF_rcv] at hn
    exact ⟨he, hn⟩
theorem F_all0 {w W : World} {n B : Nat} (h : N1 w W 2 n (LF []) B) :
    Calls Try.prog 20 #[.pointer (some ⟨B, 0, none⟩)] W fun e w' => e = .returned (.int .i64 0) ∧ N1 w w' 2 n (LF []) B := by
  have := h.all
  rwa [LF_itms] at this
theorem F_least0 {w W : World} {n B : Nat} (h : N1 w W 2 n (LF []) B) :
    Calls Try.prog 24 #[.pointer (some ⟨B, 0, none⟩)] W fun e w' => e = .returned (.int .i64 1125899906842624) ∧ N1 w w' 2 n (LF []) B := by
  have := h.least
  rwa [LF_itms] at this

set_option maxRecDepth 100000 in
set_option maxHeartbeats 4000000 in
theorem full_walk (w : World) (a b : Int) (ha : 0 ≤ a ∧ a ≤ 255) (hb : 0 ≤ b ∧ b ≤ 255) :
    Calls Try.prog 5 #[.int .u8 a, .int .u8 b] w fun e w' => e = .returned (.bool true) ∧ Below w.heap.size w w' := by
  obtain ⟨ka, rfl⟩ := Int.eq_ofNat_of_zero_le ha.1
  obtain ⟨kb, rfl⟩ := Int.eq_ofNat_of_zero_le hb.1
  obtain ⟨n, hn⟩ : ∃ n : Nat, 1 + ka % 16 = n := ⟨_, rfl⟩
  obtain ⟨R, hR⟩ : ∃ R : Nat, 1 + kb % 6 = R := ⟨_, rfl⟩
  have hn1 : 1 ≤ n := by omega
  have hn2 : n ≤ 16 := by omega
  have hR2 : R ≤ 6 := by omega
  have hnI : 1 + ((ka : Int) % 16) = (n : Int) := by omega
  have hRI : 1 + ((kb : Int) % 6) = (R : Int) := by omega
  have ha2 : (ka : Int) ≤ 255 := ha.2
  have hb2 : (kb : Int) ≤ 255 := hb.2
  obtain ⟨B, hB⟩ : ∃ B, w.heap.size = B := ⟨_, rfl⟩
  have NW : Calls Try.prog 8 #[.int .i64 2, .int .i64 (n : Int)] w fun e w' => e = .returned (.tuple #[.pointer (some ⟨B, 0, none⟩), .int .i64 0]) ∧ N1 w w' 2 n (LF []) B := by
    rw [← hB]
    exact (new_ok w 2 n (by omega) (by omega) hn1 hn2).mono fun e w' ⟨he, h1, h2⟩ => ⟨he, by rw [LF_nil]; exact h1, Nat.le_refl _, h2⟩
  clear hn ha hb hB hR
  go_enter Try.func5, Try.ntmps5
  go_wp2_with (go_at_call 8; refine NW.mono ?_; rintro e w1 ⟨rfl, h1⟩; have H1 : Hid _ := h1; clear h1 NW)
  go_loopw [8] (fun s8 wr => ∃ k : Nat, s8 = .int .i64 k ∧ k ≤ R ∧ Hid (N1 w wr 2 n (LF []) B)) (fun s8 _ => R - (intOf s8).toNat)
  case atStart => exact ⟨0, rfl, Nat.zero_le _, H1.out⟩
  case round =>
    obtain ⟨k, rfl, hk, HN⟩ := hrel
    by_cases hkR : k < R
    · have hkR' : (k : Int) < (R : Int) := by omega
      go_wp2
      go_loopw [9] (fun s9 wr => ∃ i : Nat, s9 = .int .i64 i ∧ i ≤ n ∧ Hid (N1 w wr 2 n (LF (fil i)) B)) (fun s9 _ => n - (intOf s9).toNat)
      case atStart => exact ⟨0, rfl, Nat.zero_le _, HN.out⟩
      case round =>
        obtain ⟨i, rfl, hi, HN⟩ := hrel
        by_cases hin : i < n
        · have hin' : (i : Int) < (n : Int) := by omega
          go_wp2_with (first | (go_at_call 18; refine (F_room (Hid.out HN)).mono ?_; rintro e w2 ⟨rfl, h2⟩; have H2 : Hid _ := h2; clear h2) | (go_at_call 10; refine (F_send (Hid.out H2) hin).mono ?_; rintro e w3 ⟨rfl, h3⟩; have H3 : Hid _ := h3; clear h3))
          go_roundw
          case rel => exact ⟨i + 1, by go_num, by omega, H3.out⟩
          case measure => simp [intOf]; omega
        · obtain rfl : i = n := by omega
          go_wp2_with (first | (go_at_call 10; refine (F_full (Hid.out HN)).mono ?_; rintro e w2 ⟨rfl, h2⟩; have H2 : Hid _ := h2; clear h2) | (go_at_call 20; refine (F_all (Hid.out H2)).mono ?_; rintro e w3 ⟨rfl, h3⟩; have H3 : Hid _ := h3; clear h3) | (go_at_call 22; refine (F_carr (Hid.out H3)).mono ?_; rintro e w4 ⟨rfl, h4⟩; have H4 : Hid _ := h4; clear h4))
          go_loopw [10] (fun s10 wr => ∃ j : Nat, s10 = .int .i64 j ∧ j ≤ i ∧ Hid (N1 w wr 2 i (LF ((fil i).drop j)) B)) (fun s10 _ => i - (intOf s10).toNat)
          case atStart => exact ⟨0, rfl, Nat.zero_le _, H4.out⟩
          case round =>
            obtain ⟨j, rfl, hj, HN⟩ := hrel
            by_cases hjn : j < i
            · have hjn' : (j : Int) < (i : Int) := by omega
              go_wp2_with (go_at_call 14; refine (F_recv (Hid.out HN) hjn).mono ?_; rintro e w5 ⟨rfl, h5⟩; have H5 : Hid _ := h5.on (al w5 (.cells (ics (ib j)) 35)); clear h5)
              go_roundw
              case rel => exact ⟨j + 1, by go_num, by omega, H5.out⟩
              case measure => simp [intOf]; omega
            · obtain rfl : j = i := by omega
              have HE : Hid (N1 w wr 2 j (LF []) B) := by
                have := HN.out
                rw [List.drop_of_length_le (by rw [fil_len]; omega)] at this
                exact this
              go_wp2_with (first | (go_at_call 14; refine (F_none (Hid.out HE)).mono ?_; rintro e w5 ⟨rfl, h5⟩; have H5 : Hid _ := h5.on (al w5 (.cells (ics (ib 0)) 35)); clear h5) | (go_at_call 20; refine (F_all0 (Hid.out H5)).mono ?_; rintro e w6 ⟨rfl, h6⟩; have H6 : Hid _ := h6; clear h6) | (go_at_call 24; refine (F_least0 (Hid.out H6)).mono ?_; rintro e w7 ⟨rfl, h7⟩; have H7 : Hid _ := h7; clear h7))
              go_roundw
              case rel => exact ⟨k + 1, by go_num, by omega, H7.out⟩
              case measure => simp [intOf]; omega
    · obtain rfl : k = R := by omega
      go_wp2
      go_ret
      exact ⟨rfl, HN.out.bel⟩
end Go.Proofs.Ytkngokpildoljaa
