/- Contracts of Code: the program's, and the document's own. -/
import Derived.Test.YtdnhlabdpciclabWrit
import Derived.Test.YtdnhlabdpciclabBig
import Derived.Test.YtdnhlabdpciclabRead
import Derived.Test.YtdnhlabdpciclabKeys
import Derived.Deep.RegionHeld3
namespace Go.Proofs.Ytdnhlabdpciclab
open Go.RowKit
set_option linter.unusedVariables false

theorem cdB_nat {a b c : Int} (h : cdB a b c = true) : ∃ x y z : Nat, a = x ∧ b = y ∧ c = z ∧ (x ≤ 1099511627776 ∨ x = 1125899906842624) ∧ y ≤ 65535 ∧ z ≤ 281474976710655 := by
  unfold cdB at h
  simp only [Bool.and_eq_true] at h
  obtain ⟨h1, h2, h3⟩ := h
  have h1 := of_decide_eq_true h1
  have h2 := of_decide_eq_true h2
  have h3 := of_decide_eq_true h3
  exact ⟨a.toNat, b.toNat, c.toNat, by omega, by omega, by omega, by omega, by omega, by omega⟩

theorem written_new (a b c : Nat) (blk : Nat) (W : World) (hblk : W.heap.size = blk) (ha : a < 9223372036854775808) (hb : b < 9223372036854775808) (hc : c < 9223372036854775808) :
    Calls Try.prog 16 #[.slice (some ⟨blk, 0, none⟩) 3 3] (W.alloc (.cells #[.int .i64 a, .int .i64 8, .int .i64 b, .int .i64 2, .int .i64 c, .int .i64 6] 39))
      fun e w' => e = .returned (.string ⟨(code a b c).toArray⟩) ∧ Below W.heap.size W w' := by
  subst hblk
  refine (written_core a b c W.heap.size _ ha hb hc (by simp) ?_).mono ?_
  · intro k hk
    match k, hk with
    | 0, _ => exact ⟨by go_simp; rfl, by go_simp; rfl⟩
    | 1, _ => exact ⟨by go_simp; rfl, by go_simp; rfl⟩
    | 2, _ => exact ⟨by go_simp; rfl, by go_simp; rfl⟩
  · rintro e w' ⟨rfl, hb⟩
    exact ⟨rfl, ((Below.refl _ _).alloc (Nat.le_refl _) _).trans (hb.mono (by simp))⟩

set_option maxHeartbeats 400000 in
theorem code_no (a b c : Int) (w : World) (h : cdB a b c = false) :
    Calls Try.prog 7 #[.agg #[.int .i64 a, .int .i64 b, .int .i64 c]] w fun e w' => e = .returned (.tuple #[.string ⟨#[]⟩, .int .i64 1]) ∧ Below w.heap.size w w' := by
  go_enter Try.func7, Try.ntmps7
  go_wp2_with fail
  refine (codable_any _ _ _ _).mono ?_
  rintro e w1 ⟨rfl, hb1⟩
  have HB1 : Hid (Below w.heap.size w w1) := ((Below.refl _ _).alloc (Nat.le_refl _) _).trans (hb1.mono (by simp))
  clear hb1
  go_wp2_with fail
  go_ret2
  exact ⟨rfl, HB1.out⟩

set_option maxHeartbeats 400000 in
theorem code_yes (a b c : Nat) (w : World) (h : cdB a b c = true) (ha : a < 9223372036854775808) (hb : b < 9223372036854775808) (hc : c < 9223372036854775808) :
    Calls Try.prog 7 #[.agg #[.int .i64 a, .int .i64 b, .int .i64 c]] w fun e w' => e = .returned (.tuple #[.string ⟨(code a b c).toArray⟩, .int .i64 0]) ∧ Below w.heap.size w w' := by
  go_enter Try.func7, Try.ntmps7
  go_wp2_with fail
  refine (codable_any _ _ _ _).mono ?_
  rintro e w1 ⟨rfl, hb1⟩
  obtain ⟨A0, A1, A2⟩ : box3 w1 w.heap.size a b c := box3.keep ⟨by go_simp, by go_simp, by go_simp⟩ hb1 (by simp)
  have HB1 : Hid (Below w.heap.size w w1) := ((Below.refl _ _).alloc (Nat.le_refl _) _).trans (hb1.mono (by simp))
  clear hb1
  go_wp2_with fail
  refine (written_new a b c _ _ rfl ha hb hc).mono ?_
  rintro e w2 ⟨rfl, hb2⟩
  have HB2 : Hid (Below w.heap.size w w2) := HB1.out.trans (hb2.mono HB1.out.size)
  clear hb2
  go_wp2_with fail
  go_ret2
  exact ⟨rfl, HB2.out⟩
end Go.Proofs.Ytdnhlabdpciclab
