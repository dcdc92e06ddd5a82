/- The walk of VtimeRises, case by case. -/
import Derived.Test.YtdnhlabdpciclaaCode2
import Derived.Test.YtdnhlabdpciclaaCmp2
namespace Go.Proofs.Ytdnhlabdpciclaa
open Go.RowKit
set_option linter.unusedVariables false

set_option maxHeartbeats 1000000 in
theorem rises_n1 (w : World) (a1 a2 a3 b1 b2 b3 : Int) (ha : codeE a1 a2 a3 = 1) (hk : kcmp 1 0 0 2 0 0 = -1) :
    Calls Try.prog 7 #[.agg #[.int .i64 a1, .int .i64 a2, .int .i64 a3], .agg #[.int .i64 b1, .int .i64 b2, .int .i64 b3]] w fun e w' => e = .returned (.bool true) ∧ Below w.heap.size w w' := by
  go_enter Try.func7, Try.ntmps7
  go_wp2_with fail
  refine (code_any _ _ _ _).mono ?_
  rintro e w1 ⟨rfl, hb1⟩
  have A1 : box3 w1 w.heap.size a1 a2 a3 := box3.keep ⟨by go_simp, by go_simp, by go_simp⟩ hb1 (by simp; omega)
  have B1 : box3 w1 (w.heap.size + 1) b1 b2 b3 := box3.keep ⟨by go_simp, by go_simp, by go_simp⟩ hb1 (by simp)
  have Z1 : w.heap.size + 2 ≤ w1.heap.size := by have := hb1.size; simp at this; omega
  have HB1 : Hid (Below w.heap.size w w1) := (((Below.refl _ _).alloc (Nat.le_refl _) _).alloc (by simp) _).trans (hb1.mono (by simp; omega))
  obtain ⟨A10, A11, A12⟩ := A1
  obtain ⟨B10, B11, B12⟩ := B1
  clear hb1
  go_wp2_with fail
  refine (code_any _ _ _ _).mono ?_
  rintro e w2 ⟨rfl, hb2⟩
  have A2 : box3 w2 w.heap.size a1 a2 a3 := box3.keep ⟨A10, A11, A12⟩ hb2 (by omega)
  have B2 : box3 w2 (w.heap.size + 1) b1 b2 b3 := box3.keep ⟨B10, B11, B12⟩ hb2 (by omega)
  have Z2 : w.heap.size + 2 ≤ w2.heap.size := by have := hb2.size; omega
  have HB2 : Hid (Below w.heap.size w w2) := HB1.out.trans (hb2.mono (by omega))
  clear A10 A11 A12 B10 B11 B12 Z1 HB1
  obtain ⟨A20, A21, A22⟩ := A2
  obtain ⟨B20, B21, B22⟩ := B2
  clear hb2
  go_wp2_with fail
  refine (refcode_any _ _ _ _).mono ?_
  rintro e w3 ⟨rfl, hb3⟩
  have A3 : box3 w3 w.heap.size a1 a2 a3 := box3.keep ⟨A20, A21, A22⟩ hb3 (by omega)
  have B3 : box3 w3 (w.heap.size + 1) b1 b2 b3 := box3.keep ⟨B20, B21, B22⟩ hb3 (by omega)
  have Z3 : w.heap.size + 2 ≤ w3.heap.size := by have := hb3.size; omega
  have HB3 : Hid (Below w.heap.size w w3) := HB2.out.trans (hb3.mono (by omega))
  clear A20 A21 A22 B20 B21 B22 Z2 HB2
  obtain ⟨A30, A31, A32⟩ := A3
  obtain ⟨B30, B31, B32⟩ := B3
  clear hb3
  go_wp2_with fail
  refine (refcode_any _ _ _ _).mono ?_
  rintro e w4 ⟨rfl, hb4⟩
  have A4 : box3 w4 w.heap.size a1 a2 a3 := box3.keep ⟨A30, A31, A32⟩ hb4 (by omega)
  have B4 : box3 w4 (w.heap.size + 1) b1 b2 b3 := box3.keep ⟨B30, B31, B32⟩ hb4 (by omega)
  have Z4 : w.heap.size + 2 ≤ w4.heap.size := by have := hb4.size; omega
  have HB4 : Hid (Below w.heap.size w w4) := HB3.out.trans (hb4.mono (by omega))
  clear A30 A31 A32 B30 B31 B32 Z3 HB3
  obtain ⟨A40, A41, A42⟩ := A4
  obtain ⟨B40, B41, B42⟩ := B4
  clear hb4
  go_wp2_with fail
  refine (cmp_any _ _ _ _ _ _ _).mono ?_
  rintro e w5 ⟨rfl, hb5⟩
  have A5 : box3 w5 w.heap.size a1 a2 a3 := box3.keep ⟨A40, A41, A42⟩ hb5 (by omega)
  have B5 : box3 w5 (w.heap.size + 1) b1 b2 b3 := box3.keep ⟨B40, B41, B42⟩ hb5 (by omega)
  have Z5 : w.heap.size + 2 ≤ w5.heap.size := by have := hb5.size; omega
  have HB5 : Hid (Below w.heap.size w w5) := HB4.out.trans (hb5.mono (by omega))
  clear A40 A41 A42 B40 B41 B42 Z4 HB4
  obtain ⟨A50, A51, A52⟩ := A5
  obtain ⟨B50, B51, B52⟩ := B5
  clear hb5
  go_wp2_with fail
  go_ret
  exact ⟨rfl, HB5.out⟩

set_option maxHeartbeats 1000000 in
theorem rises_n2 (w : World) (a1 a2 a3 b1 b2 b3 : Int) (ha : codeE a1 a2 a3 = 0) (hb : codeE b1 b2 b3 = 1) (hk : kcmp 1 0 0 2 0 0 = -1) :
    Calls Try.prog 7 #[.agg #[.int .i64 a1, .int .i64 a2, .int .i64 a3], .agg #[.int .i64 b1, .int .i64 b2, .int .i64 b3]] w fun e w' => e = .returned (.bool true) ∧ Below w.heap.size w w' := by
  go_enter Try.func7, Try.ntmps7
  go_wp2_with fail
  refine (code_any _ _ _ _).mono ?_
  rintro e w1 ⟨rfl, hb1⟩
  have A1 : box3 w1 w.heap.size a1 a2 a3 := box3.keep ⟨by go_simp, by go_simp, by go_simp⟩ hb1 (by simp; omega)
  have B1 : box3 w1 (w.heap.size + 1) b1 b2 b3 := box3.keep ⟨by go_simp, by go_simp, by go_simp⟩ hb1 (by simp)
  have Z1 : w.heap.size + 2 ≤ w1.heap.size := by have := hb1.size; simp at this; omega
  have HB1 : Hid (Below w.heap.size w w1) := (((Below.refl _ _).alloc (Nat.le_refl _) _).alloc (by simp) _).trans (hb1.mono (by simp; omega))
  obtain ⟨A10, A11, A12⟩ := A1
  obtain ⟨B10, B11, B12⟩ := B1
  clear hb1
  go_wp2_with fail
  refine (code_any _ _ _ _).mono ?_
  rintro e w2 ⟨rfl, hb2⟩
  have A2 : box3 w2 w.heap.size a1 a2 a3 := box3.keep ⟨A10, A11, A12⟩ hb2 (by omega)
  have B2 : box3 w2 (w.heap.size + 1) b1 b2 b3 := box3.keep ⟨B10, B11, B12⟩ hb2 (by omega)
  have Z2 : w.heap.size + 2 ≤ w2.heap.size := by have := hb2.size; omega
  have HB2 : Hid (Below w.heap.size w w2) := HB1.out.trans (hb2.mono (by omega))
  clear A10 A11 A12 B10 B11 B12 Z1 HB1
  obtain ⟨A20, A21, A22⟩ := A2
  obtain ⟨B20, B21, B22⟩ := B2
  clear hb2
  go_wp2_with fail
  refine (refcode_any _ _ _ _).mono ?_
  rintro e w3 ⟨rfl, hb3⟩
  have A3 : box3 w3 w.heap.size a1 a2 a3 := box3.keep ⟨A20, A21, A22⟩ hb3 (by omega)
  have B3 : box3 w3 (w.heap.size + 1) b1 b2 b3 := box3.keep ⟨B20, B21, B22⟩ hb3 (by omega)
  have Z3 : w.heap.size + 2 ≤ w3.heap.size := by have := hb3.size; omega
  have HB3 : Hid (Below w.heap.size w w3) := HB2.out.trans (hb3.mono (by omega))
  clear A20 A21 A22 B20 B21 B22 Z2 HB2
  obtain ⟨A30, A31, A32⟩ := A3
  obtain ⟨B30, B31, B32⟩ := B3
  clear hb3
  go_wp2_with fail
  refine (refcode_any _ _ _ _).mono ?_
  rintro e w4 ⟨rfl, hb4⟩
  have A4 : box3 w4 w.heap.size a1 a2 a3 := box3.keep ⟨A30, A31, A32⟩ hb4 (by omega)
  have B4 : box3 w4 (w.heap.size + 1) b1 b2 b3 := box3.keep ⟨B30, B31, B32⟩ hb4 (by omega)
  have Z4 : w.heap.size + 2 ≤ w4.heap.size := by have := hb4.size; omega
  have HB4 : Hid (Below w.heap.size w w4) := HB3.out.trans (hb4.mono (by omega))
  clear A30 A31 A32 B30 B31 B32 Z3 HB3
  obtain ⟨A40, A41, A42⟩ := A4
  obtain ⟨B40, B41, B42⟩ := B4
  clear hb4
  go_wp2_with fail
  refine (cmp_any _ _ _ _ _ _ _).mono ?_
  rintro e w5 ⟨rfl, hb5⟩
  have A5 : box3 w5 w.heap.size a1 a2 a3 := box3.keep ⟨A40, A41, A42⟩ hb5 (by omega)
  have B5 : box3 w5 (w.heap.size + 1) b1 b2 b3 := box3.keep ⟨B40, B41, B42⟩ hb5 (by omega)
  have Z5 : w.heap.size + 2 ≤ w5.heap.size := by have := hb5.size; omega
  have HB5 : Hid (Below w.heap.size w w5) := HB4.out.trans (hb5.mono (by omega))
  clear A40 A41 A42 B40 B41 B42 Z4 HB4
  obtain ⟨A50, A51, A52⟩ := A5
  obtain ⟨B50, B51, B52⟩ := B5
  clear hb5
  go_wp2_with fail
  go_ret
  exact ⟨rfl, HB5.out⟩

set_option maxHeartbeats 1000000 in
theorem rises_lt (w : World) (a1 a2 a3 b1 b2 b3 : Int) (ha : codeE a1 a2 a3 = 0) (hb : codeE b1 b2 b3 = 0) (hk : kcmp a1 a2 a3 b1 b2 b3 = -1) (hl : Op.bytesLess (codeS a1 a2 a3).toList (codeS b1 b2 b3).toList = true) (he : ((codeS a1 a2 a3).toList == (codeS b1 b2 b3).toList) = false) :
    Calls Try.prog 7 #[.agg #[.int .i64 a1, .int .i64 a2, .int .i64 a3], .agg #[.int .i64 b1, .int .i64 b2, .int .i64 b3]] w fun e w' => e = .returned (.bool true) ∧ Below w.heap.size w w' := by
  go_enter Try.func7, Try.ntmps7
  go_wp2_with fail
  refine (code_any _ _ _ _).mono ?_
  rintro e w1 ⟨rfl, hb1⟩
  have A1 : box3 w1 w.heap.size a1 a2 a3 := box3.keep ⟨by go_simp, by go_simp, by go_simp⟩ hb1 (by simp; omega)
  have B1 : box3 w1 (w.heap.size + 1) b1 b2 b3 := box3.keep ⟨by go_simp, by go_simp, by go_simp⟩ hb1 (by simp)
  have Z1 : w.heap.size + 2 ≤ w1.heap.size := by have := hb1.size; simp at this; omega
  have HB1 : Hid (Below w.heap.size w w1) := (((Below.refl _ _).alloc (Nat.le_refl _) _).alloc (by simp) _).trans (hb1.mono (by simp; omega))
  obtain ⟨A10, A11, A12⟩ := A1
  obtain ⟨B10, B11, B12⟩ := B1
  clear hb1
  go_wp2_with fail
  refine (code_any _ _ _ _).mono ?_
  rintro e w2 ⟨rfl, hb2⟩
  have A2 : box3 w2 w.heap.size a1 a2 a3 := box3.keep ⟨A10, A11, A12⟩ hb2 (by omega)
  have B2 : box3 w2 (w.heap.size + 1) b1 b2 b3 := box3.keep ⟨B10, B11, B12⟩ hb2 (by omega)
  have Z2 : w.heap.size + 2 ≤ w2.heap.size := by have := hb2.size; omega
  have HB2 : Hid (Below w.heap.size w w2) := HB1.out.trans (hb2.mono (by omega))
  clear A10 A11 A12 B10 B11 B12 Z1 HB1
  obtain ⟨A20, A21, A22⟩ := A2
  obtain ⟨B20, B21, B22⟩ := B2
  clear hb2
  go_wp2_with fail
  refine (refcode_any _ _ _ _).mono ?_
  rintro e w3 ⟨rfl, hb3⟩
  have A3 : box3 w3 w.heap.size a1 a2 a3 := box3.keep ⟨A20, A21, A22⟩ hb3 (by omega)
  have B3 : box3 w3 (w.heap.size + 1) b1 b2 b3 := box3.keep ⟨B20, B21, B22⟩ hb3 (by omega)
  have Z3 : w.heap.size + 2 ≤ w3.heap.size := by have := hb3.size; omega
  have HB3 : Hid (Below w.heap.size w w3) := HB2.out.trans (hb3.mono (by omega))
  clear A20 A21 A22 B20 B21 B22 Z2 HB2
  obtain ⟨A30, A31, A32⟩ := A3
  obtain ⟨B30, B31, B32⟩ := B3
  clear hb3
  go_wp2_with fail
  refine (refcode_any _ _ _ _).mono ?_
  rintro e w4 ⟨rfl, hb4⟩
  have A4 : box3 w4 w.heap.size a1 a2 a3 := box3.keep ⟨A30, A31, A32⟩ hb4 (by omega)
  have B4 : box3 w4 (w.heap.size + 1) b1 b2 b3 := box3.keep ⟨B30, B31, B32⟩ hb4 (by omega)
  have Z4 : w.heap.size + 2 ≤ w4.heap.size := by have := hb4.size; omega
  have HB4 : Hid (Below w.heap.size w w4) := HB3.out.trans (hb4.mono (by omega))
  clear A30 A31 A32 B30 B31 B32 Z3 HB3
  obtain ⟨A40, A41, A42⟩ := A4
  obtain ⟨B40, B41, B42⟩ := B4
  clear hb4
  go_wp2_with fail
  refine (cmp_any _ _ _ _ _ _ _).mono ?_
  rintro e w5 ⟨rfl, hb5⟩
  have A5 : box3 w5 w.heap.size a1 a2 a3 := box3.keep ⟨A40, A41, A42⟩ hb5 (by omega)
  have B5 : box3 w5 (w.heap.size + 1) b1 b2 b3 := box3.keep ⟨B40, B41, B42⟩ hb5 (by omega)
  have Z5 : w.heap.size + 2 ≤ w5.heap.size := by have := hb5.size; omega
  have HB5 : Hid (Below w.heap.size w w5) := HB4.out.trans (hb5.mono (by omega))
  clear A40 A41 A42 B40 B41 B42 Z4 HB4
  obtain ⟨A50, A51, A52⟩ := A5
  obtain ⟨B50, B51, B52⟩ := B5
  clear hb5
  go_wp2_with fail
  go_ret
  exact ⟨rfl, HB5.out⟩

set_option maxHeartbeats 1000000 in
theorem rises_eq (w : World) (a1 a2 a3 b1 b2 b3 : Int) (ha : codeE a1 a2 a3 = 0) (hb : codeE b1 b2 b3 = 0) (hk : kcmp a1 a2 a3 b1 b2 b3 = 0) (hl : Op.bytesLess (codeS a1 a2 a3).toList (codeS b1 b2 b3).toList = false) (he : ((codeS a1 a2 a3).toList == (codeS b1 b2 b3).toList) = true) :
    Calls Try.prog 7 #[.agg #[.int .i64 a1, .int .i64 a2, .int .i64 a3], .agg #[.int .i64 b1, .int .i64 b2, .int .i64 b3]] w fun e w' => e = .returned (.bool true) ∧ Below w.heap.size w w' := by
  go_enter Try.func7, Try.ntmps7
  go_wp2_with fail
  refine (code_any _ _ _ _).mono ?_
  rintro e w1 ⟨rfl, hb1⟩
  have A1 : box3 w1 w.heap.size a1 a2 a3 := box3.keep ⟨by go_simp, by go_simp, by go_simp⟩ hb1 (by simp; omega)
  have B1 : box3 w1 (w.heap.size + 1) b1 b2 b3 := box3.keep ⟨by go_simp, by go_simp, by go_simp⟩ hb1 (by simp)
  have Z1 : w.heap.size + 2 ≤ w1.heap.size := by have := hb1.size; simp at this; omega
  have HB1 : Hid (Below w.heap.size w w1) := (((Below.refl _ _).alloc (Nat.le_refl _) _).alloc (by simp) _).trans (hb1.mono (by simp; omega))
  obtain ⟨A10, A11, A12⟩ := A1
  obtain ⟨B10, B11, B12⟩ := B1
  clear hb1
  go_wp2_with fail
  refine (code_any _ _ _ _).mono ?_
  rintro e w2 ⟨rfl, hb2⟩
  have A2 : box3 w2 w.heap.size a1 a2 a3 := box3.keep ⟨A10, A11, A12⟩ hb2 (by omega)
  have B2 : box3 w2 (w.heap.size + 1) b1 b2 b3 := box3.keep ⟨B10, B11, B12⟩ hb2 (by omega)
  have Z2 : w.heap.size + 2 ≤ w2.heap.size := by have := hb2.size; omega
  have HB2 : Hid (Below w.heap.size w w2) := HB1.out.trans (hb2.mono (by omega))
  clear A10 A11 A12 B10 B11 B12 Z1 HB1
  obtain ⟨A20, A21, A22⟩ := A2
  obtain ⟨B20, B21, B22⟩ := B2
  clear hb2
  go_wp2_with fail
  refine (refcode_any _ _ _ _).mono ?_
  rintro e w3 ⟨rfl, hb3⟩
  have A3 : box3 w3 w.heap.size a1 a2 a3 := box3.keep ⟨A20, A21, A22⟩ hb3 (by omega)
  have B3 : box3 w3 (w.heap.size + 1) b1 b2 b3 := box3.keep ⟨B20, B21, B22⟩ hb3 (by omega)
  have Z3 : w.heap.size + 2 ≤ w3.heap.size := by have := hb3.size; omega
  have HB3 : Hid (Below w.heap.size w w3) := HB2.out.trans (hb3.mono (by omega))
  clear A20 A21 A22 B20 B21 B22 Z2 HB2
  obtain ⟨A30, A31, A32⟩ := A3
  obtain ⟨B30, B31, B32⟩ := B3
  clear hb3
  go_wp2_with fail
  refine (refcode_any _ _ _ _).mono ?_
  rintro e w4 ⟨rfl, hb4⟩
  have A4 : box3 w4 w.heap.size a1 a2 a3 := box3.keep ⟨A30, A31, A32⟩ hb4 (by omega)
  have B4 : box3 w4 (w.heap.size + 1) b1 b2 b3 := box3.keep ⟨B30, B31, B32⟩ hb4 (by omega)
  have Z4 : w.heap.size + 2 ≤ w4.heap.size := by have := hb4.size; omega
  have HB4 : Hid (Below w.heap.size w w4) := HB3.out.trans (hb4.mono (by omega))
  clear A30 A31 A32 B30 B31 B32 Z3 HB3
  obtain ⟨A40, A41, A42⟩ := A4
  obtain ⟨B40, B41, B42⟩ := B4
  clear hb4
  go_wp2_with fail
  refine (cmp_any _ _ _ _ _ _ _).mono ?_
  rintro e w5 ⟨rfl, hb5⟩
  have A5 : box3 w5 w.heap.size a1 a2 a3 := box3.keep ⟨A40, A41, A42⟩ hb5 (by omega)
  have B5 : box3 w5 (w.heap.size + 1) b1 b2 b3 := box3.keep ⟨B40, B41, B42⟩ hb5 (by omega)
  have Z5 : w.heap.size + 2 ≤ w5.heap.size := by have := hb5.size; omega
  have HB5 : Hid (Below w.heap.size w w5) := HB4.out.trans (hb5.mono (by omega))
  clear A40 A41 A42 B40 B41 B42 Z4 HB4
  obtain ⟨A50, A51, A52⟩ := A5
  obtain ⟨B50, B51, B52⟩ := B5
  clear hb5
  go_wp2_with fail
  go_ret
  exact ⟨rfl, HB5.out⟩

set_option maxHeartbeats 1000000 in
theorem rises_gt (w : World) (a1 a2 a3 b1 b2 b3 : Int) (ha : codeE a1 a2 a3 = 0) (hb : codeE b1 b2 b3 = 0) (hk : kcmp a1 a2 a3 b1 b2 b3 = 1) (hl : Op.bytesLess (codeS a1 a2 a3).toList (codeS b1 b2 b3).toList = false) (he : ((codeS a1 a2 a3).toList == (codeS b1 b2 b3).toList) = false) :
    Calls Try.prog 7 #[.agg #[.int .i64 a1, .int .i64 a2, .int .i64 a3], .agg #[.int .i64 b1, .int .i64 b2, .int .i64 b3]] w fun e w' => e = .returned (.bool true) ∧ Below w.heap.size w w' := by
  go_enter Try.func7, Try.ntmps7
  go_wp2_with fail
  refine (code_any _ _ _ _).mono ?_
  rintro e w1 ⟨rfl, hb1⟩
  have A1 : box3 w1 w.heap.size a1 a2 a3 := box3.keep ⟨by go_simp, by go_simp, by go_simp⟩ hb1 (by simp; omega)
  have B1 : box3 w1 (w.heap.size + 1) b1 b2 b3 := box3.keep ⟨by go_simp, by go_simp, by go_simp⟩ hb1 (by simp)
  have Z1 : w.heap.size + 2 ≤ w1.heap.size := by have := hb1.size; simp at this; omega
  have HB1 : Hid (Below w.heap.size w w1) := (((Below.refl _ _).alloc (Nat.le_refl _) _).alloc (by simp) _).trans (hb1.mono (by simp; omega))
  obtain ⟨A10, A11, A12⟩ := A1
  obtain ⟨B10, B11, B12⟩ := B1
  clear hb1
  go_wp2_with fail
  refine (code_any _ _ _ _).mono ?_
  rintro e w2 ⟨rfl, hb2⟩
  have A2 : box3 w2 w.heap.size a1 a2 a3 := box3.keep ⟨A10, A11, A12⟩ hb2 (by omega)
  have B2 : box3 w2 (w.heap.size + 1) b1 b2 b3 := box3.keep ⟨B10, B11, B12⟩ hb2 (by omega)
  have Z2 : w.heap.size + 2 ≤ w2.heap.size := by have := hb2.size; omega
  have HB2 : Hid (Below w.heap.size w w2) := HB1.out.trans (hb2.mono (by omega))
  clear A10 A11 A12 B10 B11 B12 Z1 HB1
  obtain ⟨A20, A21, A22⟩ := A2
  obtain ⟨B20, B21, B22⟩ := B2
  clear hb2
  go_wp2_with fail
  refine (refcode_any _ _ _ _).mono ?_
  rintro e w3 ⟨rfl, hb3⟩
  have A3 : box3 w3 w.heap.size a1 a2 a3 := box3.keep ⟨A20, A21, A22⟩ hb3 (by omega)
  have B3 : box3 w3 (w.heap.size + 1) b1 b2 b3 := box3.keep ⟨B20, B21, B22⟩ hb3 (by omega)
  have Z3 : w.heap.size + 2 ≤ w3.heap.size := by have := hb3.size; omega
  have HB3 : Hid (Below w.heap.size w w3) := HB2.out.trans (hb3.mono (by omega))
  clear A20 A21 A22 B20 B21 B22 Z2 HB2
  obtain ⟨A30, A31, A32⟩ := A3
  obtain ⟨B30, B31, B32⟩ := B3
  clear hb3
  go_wp2_with fail
  refine (refcode_any _ _ _ _).mono ?_
  rintro e w4 ⟨rfl, hb4⟩
  have A4 : box3 w4 w.heap.size a1 a2 a3 := box3.keep ⟨A30, A31, A32⟩ hb4 (by omega)
  have B4 : box3 w4 (w.heap.size + 1) b1 b2 b3 := box3.keep ⟨B30, B31, B32⟩ hb4 (by omega)
  have Z4 : w.heap.size + 2 ≤ w4.heap.size := by have := hb4.size; omega
  have HB4 : Hid (Below w.heap.size w w4) := HB3.out.trans (hb4.mono (by omega))
  clear A30 A31 A32 B30 B31 B32 Z3 HB3
  obtain ⟨A40, A41, A42⟩ := A4
  obtain ⟨B40, B41, B42⟩ := B4
  clear hb4
  go_wp2_with fail
  refine (cmp_any _ _ _ _ _ _ _).mono ?_
  rintro e w5 ⟨rfl, hb5⟩
  have A5 : box3 w5 w.heap.size a1 a2 a3 := box3.keep ⟨A40, A41, A42⟩ hb5 (by omega)
  have B5 : box3 w5 (w.heap.size + 1) b1 b2 b3 := box3.keep ⟨B40, B41, B42⟩ hb5 (by omega)
  have Z5 : w.heap.size + 2 ≤ w5.heap.size := by have := hb5.size; omega
  have HB5 : Hid (Below w.heap.size w w5) := HB4.out.trans (hb5.mono (by omega))
  clear A40 A41 A42 B40 B41 B42 Z4 HB4
  obtain ⟨A50, A51, A52⟩ := A5
  obtain ⟨B50, B51, B52⟩ := B5
  clear hb5
  go_wp2_with fail
  go_ret
  exact ⟨rfl, HB5.out⟩

end Go.Proofs.Ytdnhlabdpciclaa
