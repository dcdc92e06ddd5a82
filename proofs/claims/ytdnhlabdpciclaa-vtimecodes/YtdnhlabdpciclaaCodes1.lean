/- The walk of VtimeCodes, case by case. -/
import Derived.Test.YtdnhlabdpciclaaDec3
namespace Go.Proofs.Ytdnhlabdpciclaa
open Go.RowKit
set_option linter.unusedVariables false

theorem box3.allocs {w : World} {n : Nat} {a b c : Int} (h : box3 w n a b c) (hn : n < w.heap.size) : ∀ o, box3 (w.alloc o) n a b c :=
  fun o => box3.keep h ((Below.refl _ _).alloc (Nat.le_refl _) o) hn

set_option maxHeartbeats 400000 in
theorem codes_long (w : World) (a b c : Int) (s : ByteArray) (h : 1024 < s.size) (hm : s.size ≤ maxLen) :
    Calls Try.prog 6 #[.agg #[.int .i64 a, .int .i64 b, .int .i64 c], .string s] w fun e w' => e = .returned (.bool true) ∧ Below w.heap.size w w' := by
  have h' : (1024 : Int) < (s.size : Int) := by omega
  go_enter Try.func6, Try.ntmps6
  go_wp2
  go_ret
  exact ⟨rfl, (Below.refl _ _).alloc (Nat.le_refl _) _⟩

set_option maxHeartbeats 1000000 in
theorem codes_no (w : World) (a b c : Int) (s : ByteArray) (h : s.size ≤ 1024) (he : codeE a b c = 1) (hS : codeS a b c = ⟨#[]⟩) :
    Calls Try.prog 6 #[.agg #[.int .i64 a, .int .i64 b, .int .i64 c], .string s] w fun e w' => e = .returned (.bool true) ∧ Below w.heap.size w w' := by
  have hm : s.size ≤ maxLen := by unfold maxLen; omega
  have HM : Hid (s.size ≤ maxLen) := hm
  clear hm
  have h' : ¬ (1024 : Int) < (s.size : Int) := by omega
  go_enter Try.func6, Try.ntmps6
  go_wp2_with fail
  refine (code_any _ _ _ _).mono ?_
  rintro e w1 ⟨rfl, hb1⟩
  obtain ⟨A10, A11, A12⟩ : box3 w1 w.heap.size a b c := box3.keep ⟨by go_simp, by go_simp, by go_simp⟩ hb1 (by simp)
  have Z1 : w.heap.size + 1 ≤ w1.heap.size := by have := hb1.size; simp at this; omega
  have HB1 : Hid (Below w.heap.size w w1) := ((Below.refl _ _).alloc (Nat.le_refl _) _).trans (hb1.mono (by simp))
  clear hb1
  go_wp2_with fail
  refine (refcode_any _ _ _ _).mono ?_
  rintro e w2 ⟨rfl, hb2⟩
  obtain ⟨A20, A21, A22⟩ : box3 w2 w.heap.size a b c := box3.keep ⟨A10, A11, A12⟩ hb2 (by omega)
  have Z2 : w.heap.size + 1 ≤ w2.heap.size := by have := hb2.size; omega
  have HB2 : Hid (Below w.heap.size w w2) := HB1.out.trans (hb2.mono (by omega))
  clear hb2 A10 A11 A12 Z1 HB1
  go_wp2_with fail
  refine (decode_any s _ HM.out).mono ?_
  rintro e w3 ⟨rfl, hb3⟩
  obtain ⟨A30, A31, A32⟩ : box3 w3 w.heap.size a b c := box3.keep ⟨A20, A21, A22⟩ hb3 (by omega)
  have Z3 : w.heap.size + 1 ≤ w3.heap.size := by have := hb3.size; omega
  have HB3 : Hid (Below w.heap.size w w3) := HB2.out.trans (hb3.mono (by omega))
  clear hb3 A20 A21 A22 Z2 HB2
  go_wp2_with fail
  refine (refdecode_any s _ HM.out).mono ?_
  rintro e w4 ⟨rfl, hb4⟩
  have hb3 : Below w3.heap.size w3 w4 := ((Below.refl _ _).alloc (Nat.le_refl _) _).trans (hb4.mono (by simp))
  obtain ⟨A40, A41, A42⟩ : box3 w4 w.heap.size a b c := box3.keep ⟨A30, A31, A32⟩ hb3 (by omega)
  obtain ⟨C40, C41, C42⟩ : box3 w4 w3.heap.size (decT s) (decF s) (decS s) := box3.keep ⟨by go_simp, by go_simp, by go_simp⟩ hb4 (by simp)
  have Z4 : w3.heap.size + 1 ≤ w4.heap.size := by have := hb4.size; simp at this; omega
  have HB4 : Hid (Below w.heap.size w w4) := HB3.out.trans (hb3.mono (by omega))
  clear hb3 hb4 A30 A31 A32 HB3
  have CA := box3.allocs ⟨C40, C41, C42⟩ (by omega)
  have C50 := fun o => (CA o).1
  have C51 := fun o => (CA o).2.1
  have C52 := fun o => (CA o).2.2
  clear CA
  go_wp2_with fail
  go_ret
  exact ⟨rfl, HB4.out.alloc (by omega) _⟩
set_option maxHeartbeats 1000000 in
theorem codes_yes (w : World) (a b c : Int) (s : ByteArray) (h : s.size ≤ 1024) (t : ByteArray) (HT : Hid (t = codeS a b c)) (he : codeE a b c = 0) (hz : t.size = 16) (d1 : decT t = a) (d2 : decF t = b) (d3 : decS t = c) (d4 : decE t = 0) :
    Calls Try.prog 6 #[.agg #[.int .i64 a, .int .i64 b, .int .i64 c], .string s] w fun e w' => e = .returned (.bool true) ∧ Below w.heap.size w w' := by
  have hm : s.size ≤ maxLen := by unfold maxLen; omega
  have HM : Hid (s.size ≤ maxLen) := hm
  clear hm
  have h' : ¬ (1024 : Int) < (s.size : Int) := by omega
  go_enter Try.func6, Try.ntmps6
  go_wp2_with fail
  have K1 := code_any a b c (w.alloc (.cells #[.int .i64 a, .int .i64 b, .int .i64 c] 29))
  rw [← HT.out] at K1
  refine K1.mono ?_
  clear K1
  rintro e w1 ⟨rfl, hb1⟩
  obtain ⟨A10, A11, A12⟩ : box3 w1 w.heap.size a b c := box3.keep ⟨by go_simp, by go_simp, by go_simp⟩ hb1 (by simp)
  have Z1 : w.heap.size + 1 ≤ w1.heap.size := by have := hb1.size; simp at this; omega
  have HB1 : Hid (Below w.heap.size w w1) := ((Below.refl _ _).alloc (Nat.le_refl _) _).trans (hb1.mono (by simp))
  clear hb1
  go_wp2_with fail
  have K1 := refcode_any a b c w1
  rw [← HT.out] at K1
  refine K1.mono ?_
  clear K1
  rintro e w2 ⟨rfl, hb2⟩
  obtain ⟨A20, A21, A22⟩ : box3 w2 w.heap.size a b c := box3.keep ⟨A10, A11, A12⟩ hb2 (by omega)
  have Z2 : w.heap.size + 1 ≤ w2.heap.size := by have := hb2.size; omega
  have HB2 : Hid (Below w.heap.size w w2) := HB1.out.trans (hb2.mono (by omega))
  clear hb2 A10 A11 A12 Z1 HB1
  go_wp2_with fail
  refine (decode_any s _ HM.out).mono ?_
  rintro e w3 ⟨rfl, hb3⟩
  obtain ⟨A30, A31, A32⟩ : box3 w3 w.heap.size a b c := box3.keep ⟨A20, A21, A22⟩ hb3 (by omega)
  have Z3 : w.heap.size + 1 ≤ w3.heap.size := by have := hb3.size; omega
  have HB3 : Hid (Below w.heap.size w w3) := HB2.out.trans (hb3.mono (by omega))
  clear hb3 A20 A21 A22 Z2 HB2
  go_wp2_with fail
  refine (refdecode_any s _ HM.out).mono ?_
  rintro e w4 ⟨rfl, hb4⟩
  have hb3 : Below w3.heap.size w3 w4 := ((Below.refl _ _).alloc (Nat.le_refl _) _).trans (hb4.mono (by simp))
  obtain ⟨A40, A41, A42⟩ : box3 w4 w.heap.size a b c := box3.keep ⟨A30, A31, A32⟩ hb3 (by omega)
  obtain ⟨C40, C41, C42⟩ : box3 w4 w3.heap.size (decT s) (decF s) (decS s) := box3.keep ⟨by go_simp, by go_simp, by go_simp⟩ hb4 (by simp)
  have Z4 : w3.heap.size + 1 ≤ w4.heap.size := by have := hb4.size; simp at this; omega
  have HB4 : Hid (Below w.heap.size w w4) := HB3.out.trans (hb3.mono (by omega))
  clear hb3 hb4 A30 A31 A32 HB3
  have CA := box3.allocs ⟨C40, C41, C42⟩ (by omega)
  have C50 := fun o => (CA o).1
  have C51 := fun o => (CA o).2.1
  have C52 := fun o => (CA o).2.2
  clear CA
  go_wp2_with fail
  refine (decode_any t _ (by unfold maxLen; omega)).mono ?_
  rintro e w5 ⟨rfl, hb5⟩
  have hb4 : Below w4.heap.size w4 w5 := ((Below.refl _ _).alloc (Nat.le_refl _) _).trans (hb5.mono (by simp))
  obtain ⟨A50, A51, A52⟩ : box3 w5 w.heap.size a b c := box3.keep ⟨A40, A41, A42⟩ hb4 (by omega)
  have Z5 : w4.heap.size ≤ w5.heap.size := hb4.size
  have HB5 : Hid (Below w.heap.size w w5) := HB4.out.trans (hb4.mono (by omega))
  clear hb4 hb5 A40 A41 A42 C40 C41 C42 C50 C51 C52 HB4
  have AA := box3.allocs ⟨A50, A51, A52⟩ (by omega)
  have A60 := fun o => (AA o).1
  have A61 := fun o => (AA o).2.1
  have A62 := fun o => (AA o).2.2
  clear AA
  go_wp2_with fail
  go_ret
  exact ⟨rfl, HB5.out.alloc (by omega) _⟩
end Go.Proofs.Ytdnhlabdpciclaa
