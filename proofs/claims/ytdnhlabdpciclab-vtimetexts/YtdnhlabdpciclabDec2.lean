/- Contract of Decode, the document's own. -/
import Derived.Test.YtdnhlabdpciclabDec
namespace Go.Proofs.Ytdnhlabdpciclab
open Go.RowKit
set_option linter.unusedVariables false

set_option maxHeartbeats 400000 in
theorem refdecode_short (s : ByteArray) (w : World) (hs : s.size ≠ 16) (hm : s.size ≤ maxLen) :
    Calls Try.prog 6 #[.string s] w fun e w' => e = .returned (.tuple #[.agg #[.int .i64 0, .int .i64 0, .int .i64 0], .int .i64 20]) ∧ Below w.heap.size w w' := by
  have h : ((s.size : Int) != 16) = true := by simp; omega
  go_enter Try.func6, Try.ntmps6
  go_wp2
  exact bodyPost_ret (v := .tuple #[.agg #[.int .i64 0, .int .i64 0, .int .i64 0], .int .i64 20]) (by simp [results, Try.results6, go_sem]) rfl ⟨rfl, (Below.refl _ _).alloc (Nat.le_refl _) _⟩

set_option maxHeartbeats 1000000 in
theorem refdecode_no (s : ByteArray) (w : World) (hs : (s.size : Int) = 16) (n1 n2 n3 : Int) (hv : codeE n1 n2 n3 = 1)
    (K1 : Hid (∀ w, Calls Try.prog 14 #[.string (s.extract 0 8)] w fun e w' => e = .returned (.int .i64 n1) ∧ w' = w))
    (K2 : Hid (∀ w, Calls Try.prog 14 #[.string (s.extract 8 10)] w fun e w' => e = .returned (.int .i64 n2) ∧ w' = w))
    (K3 : Hid (∀ w, Calls Try.prog 14 #[.string (s.extract 10 16)] w fun e w' => e = .returned (.int .i64 n3) ∧ w' = w)) :
    Calls Try.prog 6 #[.string s] w fun e w' => e = .returned (.tuple #[.agg #[.int .i64 0, .int .i64 0, .int .i64 0], .int .i64 20]) ∧ Below w.heap.size w w' := by
  have hs' : s.size = 16 := by omega
  go_enter Try.func6, Try.ntmps6
  go_wp2_with fail
  go_region_held3 (fun _ => True) (trivial)
    (first
      | (go_at_call_of 14 (Value.string (s.extract 0 8)); refine (K1.out _).mono ?_; rintro e w' ⟨rfl, rfl⟩)
      | (go_at_call_of 14 (Value.string (s.extract 8 10)); refine (K2.out _).mono ?_; rintro e w' ⟨rfl, rfl⟩)
      | (go_at_call_of 14 (Value.string (s.extract 10 16)); refine (K3.out _).mono ?_; rintro e w' ⟨rfl, rfl⟩))
  all_goals
    go_wp2_with fail
    refine (refcode_any _ _ _ _).mono ?_
    rintro e w1 ⟨rfl, hb1⟩
    have R1 : box3 w1 w.heap.size 0 0 0 := box3.keep ⟨by go_simp, by go_simp, by go_simp⟩ hb1 (by simp; omega)
    have F1 : free3 w1 w.heap.size := free3.keep ⟨by go_simp, by go_simp, by go_simp⟩ hb1 (by simp; omega)
    have B1 : box3 w1 (w.heap.size + 1) n1 n2 n3 := box3.keep ⟨by go_simp, by go_simp, by go_simp⟩ hb1 (by simp)
    obtain ⟨R10, R11, R12⟩ := R1
    obtain ⟨F10, F11, F12⟩ := F1
    obtain ⟨B10, B11, B12⟩ := B1
    have HB1 : Hid (Below w.heap.size w w1) := (((Below.refl _ _).alloc (Nat.le_refl _) _).alloc (by simp) _).drew.trans (hb1.mono (by simp; omega))
    clear hb1
    go_wp2_with fail
    exact bodyPost_ret (v := .tuple #[.agg #[.int .i64 0, .int .i64 0, .int .i64 0], .int .i64 20]) (by simp [results, Try.results6, go_sem, R10, R11, R12]) rfl ⟨rfl, ((HB1.out.setCell (Nat.le_refl _) _).setCell (Nat.le_refl _) _).setCell (Nat.le_refl _) _⟩
set_option maxHeartbeats 1000000 in
theorem refdecode_yes (s : ByteArray) (w : World) (hs : (s.size : Int) = 16) (n1 n2 n3 : Int) (hv : codeE n1 n2 n3 = 0) (hq : ((codeS n1 n2 n3).toList == s.toList) = true)
    (K1 : Hid (∀ w, Calls Try.prog 14 #[.string (s.extract 0 8)] w fun e w' => e = .returned (.int .i64 n1) ∧ w' = w))
    (K2 : Hid (∀ w, Calls Try.prog 14 #[.string (s.extract 8 10)] w fun e w' => e = .returned (.int .i64 n2) ∧ w' = w))
    (K3 : Hid (∀ w, Calls Try.prog 14 #[.string (s.extract 10 16)] w fun e w' => e = .returned (.int .i64 n3) ∧ w' = w)) :
    Calls Try.prog 6 #[.string s] w fun e w' => e = .returned (.tuple #[.agg #[.int .i64 n1, .int .i64 n2, .int .i64 n3], .int .i64 0]) ∧ Below w.heap.size w w' := by
  have hs' : s.size = 16 := by omega
  go_enter Try.func6, Try.ntmps6
  go_wp2_with fail
  go_region_held3 (fun _ => True) (trivial)
    (first
      | (go_at_call_of 14 (Value.string (s.extract 0 8)); refine (K1.out _).mono ?_; rintro e w' ⟨rfl, rfl⟩)
      | (go_at_call_of 14 (Value.string (s.extract 8 10)); refine (K2.out _).mono ?_; rintro e w' ⟨rfl, rfl⟩)
      | (go_at_call_of 14 (Value.string (s.extract 10 16)); refine (K3.out _).mono ?_; rintro e w' ⟨rfl, rfl⟩))
  all_goals
    go_wp2_with fail
    refine (refcode_any _ _ _ _).mono ?_
    rintro e w1 ⟨rfl, hb1⟩
    have R1 : box3 w1 w.heap.size 0 0 0 := box3.keep ⟨by go_simp, by go_simp, by go_simp⟩ hb1 (by simp; omega)
    have F1 : free3 w1 w.heap.size := free3.keep ⟨by go_simp, by go_simp, by go_simp⟩ hb1 (by simp; omega)
    have B1 : box3 w1 (w.heap.size + 1) n1 n2 n3 := box3.keep ⟨by go_simp, by go_simp, by go_simp⟩ hb1 (by simp)
    obtain ⟨R10, R11, R12⟩ := R1
    obtain ⟨F10, F11, F12⟩ := F1
    obtain ⟨B10, B11, B12⟩ := B1
    have HB1 : Hid (Below w.heap.size w w1) := (((Below.refl _ _).alloc (Nat.le_refl _) _).alloc (by simp) _).drew.trans (hb1.mono (by simp; omega))
    clear hb1
    go_wp2_with fail
    exact bodyPost_ret (v := .tuple #[.agg #[.int .i64 n1, .int .i64 n2, .int .i64 n3], .int .i64 0]) (by simp [results, Try.results6, go_sem, R10, R11, R12]) rfl ⟨rfl, ((HB1.out.setCell (Nat.le_refl _) _).setCell (Nat.le_refl _) _).setCell (Nat.le_refl _) _⟩
end Go.Proofs.Ytdnhlabdpciclab
