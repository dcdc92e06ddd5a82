/- Contract of the document's own Code. -/
import Derived.Test.YtdnhlabdpciclabCode
namespace Go.Proofs.Ytdnhlabdpciclab
open Go.RowKit
set_option linter.unusedVariables false

/-- a key's box stands in block B, and of what was there nothing has turned -/
theorem kept_on {B : Nat} {w0 w w' : World} {a b c : Int} (hS : w.cell? ⟨B, 0, none⟩ = some (.int .i64 a) ∧ w.cell? ⟨B, 1, none⟩ = some (.int .i64 b) ∧ w.cell? ⟨B, 2, none⟩ = some (.int .i64 c) ∧ Below B w0 w ∧ B < w.heap.size)
    (hb : Below w.heap.size w w') : w'.cell? ⟨B, 0, none⟩ = some (.int .i64 a) ∧ w'.cell? ⟨B, 1, none⟩ = some (.int .i64 b) ∧ w'.cell? ⟨B, 2, none⟩ = some (.int .i64 c) ∧ Below B w0 w' ∧ B < w'.heap.size := by
  obtain ⟨h0, h1, h2, h3, h4⟩ := hS
  obtain ⟨k0, k1, k2⟩ := box3.keep ⟨h0, h1, h2⟩ hb h4
  exact ⟨k0, k1, k2, h3.trans (hb.mono (by omega)), by have := hb.size; omega⟩

theorem big_8k (n : Nat) (t : ByteArray) (ht : Hid (t = ⟨(be n 8).toArray⟩)) (w : World) (B : Nat) (w0 : World) (a b c : Int) (hn : n < 9223372036854775808)
    (hS : w.cell? ⟨B, 0, none⟩ = some (.int .i64 a) ∧ w.cell? ⟨B, 1, none⟩ = some (.int .i64 b) ∧ w.cell? ⟨B, 2, none⟩ = some (.int .i64 c) ∧ Below B w0 w ∧ B < w.heap.size) :
    Calls Try.prog 21 #[.int .i64 n, .int .i64 8] w fun e w' => e = .returned (.string t) ∧ w'.cell? ⟨B, 0, none⟩ = some (.int .i64 a) ∧ w'.cell? ⟨B, 1, none⟩ = some (.int .i64 b) ∧ w'.cell? ⟨B, 2, none⟩ = some (.int .i64 c) ∧ Below B w0 w' ∧ B < w'.heap.size :=
  (big_8 n w hn).mono fun e w' ⟨he, hb⟩ => ⟨by rw [ht.out]; exact he, kept_on hS hb⟩
theorem big_2k (n : Nat) (t : ByteArray) (ht : Hid (t = ⟨(be n 2).toArray⟩)) (w : World) (B : Nat) (w0 : World) (a b c : Int) (hn : n < 9223372036854775808)
    (hS : w.cell? ⟨B, 0, none⟩ = some (.int .i64 a) ∧ w.cell? ⟨B, 1, none⟩ = some (.int .i64 b) ∧ w.cell? ⟨B, 2, none⟩ = some (.int .i64 c) ∧ Below B w0 w ∧ B < w.heap.size) :
    Calls Try.prog 21 #[.int .i64 n, .int .i64 2] w fun e w' => e = .returned (.string t) ∧ w'.cell? ⟨B, 0, none⟩ = some (.int .i64 a) ∧ w'.cell? ⟨B, 1, none⟩ = some (.int .i64 b) ∧ w'.cell? ⟨B, 2, none⟩ = some (.int .i64 c) ∧ Below B w0 w' ∧ B < w'.heap.size :=
  (big_2 n w hn).mono fun e w' ⟨he, hb⟩ => ⟨by rw [ht.out]; exact he, kept_on hS hb⟩
theorem big_6k (n : Nat) (t : ByteArray) (ht : Hid (t = ⟨(be n 6).toArray⟩)) (w : World) (B : Nat) (w0 : World) (a b c : Int) (hn : n < 9223372036854775808)
    (hS : w.cell? ⟨B, 0, none⟩ = some (.int .i64 a) ∧ w.cell? ⟨B, 1, none⟩ = some (.int .i64 b) ∧ w.cell? ⟨B, 2, none⟩ = some (.int .i64 c) ∧ Below B w0 w ∧ B < w.heap.size) :
    Calls Try.prog 21 #[.int .i64 n, .int .i64 6] w fun e w' => e = .returned (.string t) ∧ w'.cell? ⟨B, 0, none⟩ = some (.int .i64 a) ∧ w'.cell? ⟨B, 1, none⟩ = some (.int .i64 b) ∧ w'.cell? ⟨B, 2, none⟩ = some (.int .i64 c) ∧ Below B w0 w' ∧ B < w'.heap.size :=
  (big_6 n w hn).mono fun e w' ⟨he, hb⟩ => ⟨by rw [ht.out]; exact he, kept_on hS hb⟩

theorem join3 {a b c : Nat} {t8 t2 t6 : ByteArray} (H8 : Hid (t8 = ⟨(be a 8).toArray⟩)) (H2 : Hid (t2 = ⟨(be b 2).toArray⟩)) (H6 : Hid (t6 = ⟨(be c 6).toArray⟩)) :
    t8 ++ t2 ++ t6 = ⟨(code a b c).toArray⟩ := by
  rw [H8.out, H2.out, H6.out]
  apply ByteArray.ext
  simp [code, ByteArray.data_append]
theorem ret_code {x y : ByteArray} {n : Int} (h : x = y) : Ending.returned (.tuple #[.string x, .int .i64 n]) = .returned (.tuple #[.string y, .int .i64 n]) := by rw [h]

set_option maxHeartbeats 1000000 in
theorem refcode_yes (a b c : Nat) (w : World) (h : vldB a = true) (hb : b ≤ 65535) (hc : c ≤ 281474976710655) (ha : a < 9223372036854775808) :
    Calls Try.prog 15 #[.agg #[.int .i64 a, .int .i64 b, .int .i64 c]] w fun e w' => e = .returned (.tuple #[.string ⟨(code a b c).toArray⟩, .int .i64 0]) ∧ Below w.heap.size w w' := by
  have hb' : b < 9223372036854775808 := by omega
  have hc' : c < 9223372036854775808 := by omega
  obtain ⟨t8, H8⟩ : ∃ t : ByteArray, Hid (t = ⟨(be a 8).toArray⟩) := ⟨_, rfl⟩
  obtain ⟨t2, H2⟩ : ∃ t : ByteArray, Hid (t = ⟨(be b 2).toArray⟩) := ⟨_, rfl⟩
  obtain ⟨t6, H6⟩ : ∃ t : ByteArray, Hid (t = ⟨(be c 6).toArray⟩) := ⟨_, rfl⟩
  have z8 : t8.size = 8 := by rw [H8.out]; simp [ByteArray.size, be_length]
  have z2 : t2.size = 2 := by rw [H2.out]; simp [ByteArray.size, be_length]
  have z6 : t6.size = 6 := by rw [H6.out]; simp [ByteArray.size, be_length]
  go_enter Try.func15, Try.ntmps15
  go_wp2_with (go_at_call 20; refine (refvalid_any _ _).mono ?_; rintro e w' ⟨rfl, rfl⟩)
  have hB0 : Below w.heap.size w (w.alloc (.cells #[.int .i64 a, .int .i64 b, .int .i64 c] 23)) := (Below.refl _ _).alloc (Nat.le_refl _) _
  go_region_held3 (fun w' => w'.cell? ⟨w.heap.size, 0, none⟩ = some (.int .i64 a) ∧ w'.cell? ⟨w.heap.size, 1, none⟩ = some (.int .i64 b) ∧ w'.cell? ⟨w.heap.size, 2, none⟩ = some (.int .i64 c) ∧ Below w.heap.size w w' ∧ w.heap.size < w'.heap.size)
    (((try dsimp only); refine ⟨?_, ?_, ?_, ?_, ?_⟩ <;> first | assumption | (apply Below.drew; assumption) | go_keep | (go_simp; done)))
    (first
      | (go_at_call_of 21 (Value.int IntKind.i64 8); refine (big_8k a t8 H8 _ w.heap.size w a b c ha ?_).mono ?_; (focus (refine ⟨?_, ?_, ?_, ?_, ?_⟩ <;> first | assumption | (apply Below.drew; assumption) | go_keep | (go_simp; done))); rintro e w' ⟨rfl, k0, k1, k2, k3, k4⟩)
      | (go_at_call_of 21 (Value.int IntKind.i64 2); refine (big_2k b t2 H2 _ w.heap.size w a b c hb' ?_).mono ?_; (focus (refine ⟨?_, ?_, ?_, ?_, ?_⟩ <;> first | assumption | (apply Below.drew; assumption) | go_keep | (go_simp; done))); rintro e w' ⟨rfl, k0, k1, k2, k3, k4⟩)
      | (go_at_call_of 21 (Value.int IntKind.i64 6); refine (big_6k c t6 H6 _ w.heap.size w a b c hc' ?_).mono ?_; (focus (refine ⟨?_, ?_, ?_, ?_, ?_⟩ <;> first | assumption | (apply Below.drew; assumption) | go_keep | (go_simp; done))); rintro e w' ⟨rfl, k0, k1, k2, k3, k4⟩))
  all_goals go_wp2
  go_ret2
  exact ⟨ret_code (join3 H8 H2 H6), k3⟩

def codeS (a b c : Int) : ByteArray := if cdB a b c = true then ⟨(code a.toNat b.toNat c.toNat).toArray⟩ else ⟨#[]⟩
def codeE (a b c : Int) : Int := if cdB a b c = true then 0 else 1

set_option maxHeartbeats 400000 in
theorem refcode_n1 (a b c : Int) (w : World) (h : vldB a = false) :
    Calls Try.prog 15 #[.agg #[.int .i64 a, .int .i64 b, .int .i64 c]] w fun e w' => e = .returned (.tuple #[.string ⟨#[]⟩, .int .i64 1]) ∧ Below w.heap.size w w' := by
  go_enter Try.func15, Try.ntmps15
  go_wp2_with (go_at_call 20; refine (refvalid_any _ _).mono ?_; rintro e w' ⟨rfl, rfl⟩)
  go_ret2
  exact ⟨rfl, (Below.refl _ _).alloc (Nat.le_refl _) _⟩

set_option maxHeartbeats 400000 in
theorem refcode_n2 (a b c : Int) (w : World) (h : vldB a = true) (h2 : b < 0) :
    Calls Try.prog 15 #[.agg #[.int .i64 a, .int .i64 b, .int .i64 c]] w fun e w' => e = .returned (.tuple #[.string ⟨#[]⟩, .int .i64 1]) ∧ Below w.heap.size w w' := by
  go_enter Try.func15, Try.ntmps15
  go_wp2_with (go_at_call 20; refine (refvalid_any _ _).mono ?_; rintro e w' ⟨rfl, rfl⟩)
  go_ret2
  exact ⟨rfl, (Below.refl _ _).alloc (Nat.le_refl _) _⟩

set_option maxHeartbeats 400000 in
theorem refcode_n3 (a b c : Int) (w : World) (h : vldB a = true) (h2 : 65535 < b) :
    Calls Try.prog 15 #[.agg #[.int .i64 a, .int .i64 b, .int .i64 c]] w fun e w' => e = .returned (.tuple #[.string ⟨#[]⟩, .int .i64 1]) ∧ Below w.heap.size w w' := by
  have g : ¬ b < 0 := by omega
  go_enter Try.func15, Try.ntmps15
  go_wp2_with (go_at_call 20; refine (refvalid_any _ _).mono ?_; rintro e w' ⟨rfl, rfl⟩)
  go_ret2
  exact ⟨rfl, (Below.refl _ _).alloc (Nat.le_refl _) _⟩

set_option maxHeartbeats 400000 in
theorem refcode_n4 (a b c : Int) (w : World) (h : vldB a = true) (h2 : 0 ≤ b) (h3 : b ≤ 65535) (h4 : c < 0) :
    Calls Try.prog 15 #[.agg #[.int .i64 a, .int .i64 b, .int .i64 c]] w fun e w' => e = .returned (.tuple #[.string ⟨#[]⟩, .int .i64 1]) ∧ Below w.heap.size w w' := by
  go_enter Try.func15, Try.ntmps15
  go_wp2_with (go_at_call 20; refine (refvalid_any _ _).mono ?_; rintro e w' ⟨rfl, rfl⟩)
  go_ret2
  exact ⟨rfl, (Below.refl _ _).alloc (Nat.le_refl _) _⟩

set_option maxHeartbeats 400000 in
theorem refcode_n5 (a b c : Int) (w : World) (h : vldB a = true) (h2 : 0 ≤ b) (h3 : b ≤ 65535) (h4 : 281474976710655 < c) :
    Calls Try.prog 15 #[.agg #[.int .i64 a, .int .i64 b, .int .i64 c]] w fun e w' => e = .returned (.tuple #[.string ⟨#[]⟩, .int .i64 1]) ∧ Below w.heap.size w w' := by
  have g : ¬ c < 0 := by omega
  go_enter Try.func15, Try.ntmps15
  go_wp2_with (go_at_call 20; refine (refvalid_any _ _).mono ?_; rintro e w' ⟨rfl, rfl⟩)
  go_ret2
  exact ⟨rfl, (Below.refl _ _).alloc (Nat.le_refl _) _⟩

theorem code_any (a b c : Int) (w : World) :
    Calls Try.prog 7 #[.agg #[.int .i64 a, .int .i64 b, .int .i64 c]] w fun e w' => e = .returned (.tuple #[.string (codeS a b c), .int .i64 (codeE a b c)]) ∧ Below w.heap.size w w' := by
  by_cases h : cdB a b c = true
  · rw [show codeS a b c = ⟨(code a.toNat b.toNat c.toNat).toArray⟩ from if_pos h, show codeE a b c = 0 from if_pos h]
    obtain ⟨x, y, z, rfl, rfl, rfl, hx, hy, hz⟩ := cdB_nat h
    exact code_yes x y z w h (by omega) (by omega) (by omega)
  · rw [show codeS a b c = ⟨#[]⟩ from if_neg h, show codeE a b c = 1 from if_neg h]
    exact code_no a b c w (by simpa using h)

theorem refcode_any (a b c : Int) (w : World) :
    Calls Try.prog 15 #[.agg #[.int .i64 a, .int .i64 b, .int .i64 c]] w fun e w' => e = .returned (.tuple #[.string (codeS a b c), .int .i64 (codeE a b c)]) ∧ Below w.heap.size w w' := by
  by_cases h : cdB a b c = true
  · rw [show codeS a b c = ⟨(code a.toNat b.toNat c.toNat).toArray⟩ from if_pos h, show codeE a b c = 0 from if_pos h]
    obtain ⟨x, y, z, rfl, rfl, rfl, hx, hy, hz⟩ := cdB_nat h
    exact refcode_yes x y z w (by unfold cdB at h; simp only [Bool.and_eq_true] at h; exact h.1) hy hz (by omega)
  · rw [show codeS a b c = ⟨#[]⟩ from if_neg h, show codeE a b c = 1 from if_neg h]
    rcases hv : vldB a with _ | _
    · exact refcode_n1 a b c w hv
    · by_cases h2 : b < 0
      · exact refcode_n2 a b c w hv h2
      · by_cases h3 : 65535 < b
        · exact refcode_n3 a b c w hv h3
        · by_cases h4 : c < 0
          · exact refcode_n4 a b c w hv (by omega) (by omega) h4
          · by_cases h5 : 281474976710655 < c
            · exact refcode_n5 a b c w hv (by omega) (by omega) h5
            · exact absurd (by unfold cdB wthB; rw [hv]; simp; omega) h
end Go.Proofs.Ytdnhlabdpciclab
