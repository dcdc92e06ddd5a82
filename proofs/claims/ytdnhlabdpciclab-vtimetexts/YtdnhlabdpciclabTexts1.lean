/- The walk of VtimeTexts, case by case. -/
import Derived.Test.YtdnhlabdpciclabDec3
namespace Go.Proofs.Ytdnhlabdpciclab
open Go.RowKit
set_option linter.unusedVariables false

theorem box3.allocs {w : World} {n : Nat} {a b c : Int} (h : box3 w n a b c) (hn : n < w.heap.size) : ∀ o, box3 (w.alloc o) n a b c :=
  fun o => box3.keep h ((Below.refl _ _).alloc (Nat.le_refl _) o) hn

set_option maxHeartbeats 400000 in
theorem texts_long (w : World) (s : ByteArray) (h : 1024 < s.size) (hm : s.size ≤ maxLen) :
    Calls Try.prog 3 #[.string s] w fun e w' => e = .returned (.bool true) ∧ Below w.heap.size w w' := by
  have h' : (1024 : Int) < (s.size : Int) := by omega
  go_enter Try.func3, Try.ntmps3
  go_wp2
  go_ret
  exact ⟨rfl, Below.refl _ _⟩

set_option maxHeartbeats 1000000 in
theorem texts_no (w : World) (s : ByteArray) (h : s.size ≤ 1024) (d1 : decT s = 0) (d2 : decF s = 0) (d3 : decS s = 0) (d4 : decE s = 20) :
    Calls Try.prog 3 #[.string s] w fun e w' => e = .returned (.bool true) ∧ Below w.heap.size w w' := by
  have hm : s.size ≤ maxLen := by unfold maxLen; omega
  have HM : Hid (s.size ≤ maxLen) := hm
  clear hm
  have h' : ¬ (1024 : Int) < (s.size : Int) := by omega
  go_enter Try.func3, Try.ntmps3
  go_wp2_with fail
  refine (decode_any s _ HM.out).mono ?_
  rintro e w1 ⟨rfl, hb1⟩
  have HB1 : Hid (Below w.heap.size w w1) := hb1
  have Z1 : w.heap.size ≤ w1.heap.size := hb1.size
  clear hb1
  go_wp2_with fail
  refine (refdecode_any s _ HM.out).mono ?_
  rintro e w2 ⟨rfl, hb2⟩
  have hb1 : Below w1.heap.size w1 w2 := ((Below.refl _ _).alloc (Nat.le_refl _) _).trans (hb2.mono (by simp))
  have C := box3.keep (n := w1.heap.size) (a := 0) (b := 0) (c := 0) ⟨by go_simp, by go_simp, by go_simp⟩ hb2 (by simp)
  have Z2 : w1.heap.size + 1 ≤ w2.heap.size := by have := hb2.size; simp at this; omega
  have HB2 : Hid (Below w.heap.size w w2) := HB1.out.trans (hb1.mono (by omega))
  clear hb1 hb2 HB1
  have CA := box3.allocs C (by omega)
  have C50 := fun o => (CA o).1
  have C51 := fun o => (CA o).2.1
  have C52 := fun o => (CA o).2.2
  clear CA C
  go_wp2_with fail
  go_ret
  exact ⟨rfl, HB2.out.alloc (by omega) _⟩

set_option maxHeartbeats 1000000 in
theorem texts_yes (w : World) (s : ByteArray) (h : s.size ≤ 1024) (n1 n2 n3 : Int) (d1 : decT s = n1) (d2 : decF s = n2) (d3 : decS s = n3) (d4 : decE s = 0)
    (h1 : vldB n1 = true) (h2 : 0 ≤ n2) (h3 : n2 < 65536) (h4 : 0 ≤ n3) (h5 : n3 < 281474976710656) (hq : ((codeS n1 n2 n3).toList == s.toList) = true) (he : codeE n1 n2 n3 = 0) :
    Calls Try.prog 3 #[.string s] w fun e w' => e = .returned (.bool true) ∧ Below w.heap.size w w' := by
  have hm : s.size ≤ maxLen := by unfold maxLen; omega
  have HM : Hid (s.size ≤ maxLen) := hm
  clear hm
  have h' : ¬ (1024 : Int) < (s.size : Int) := by omega
  go_enter Try.func3, Try.ntmps3
  go_wp2_with fail
  refine (decode_any s _ HM.out).mono ?_
  rintro e w1 ⟨rfl, hb1⟩
  have HB1 : Hid (Below w.heap.size w w1) := hb1
  have Z1 : w.heap.size ≤ w1.heap.size := hb1.size
  clear hb1
  go_wp2_with fail
  refine (refdecode_any s _ HM.out).mono ?_
  rintro e w2 ⟨rfl, hb2⟩
  have hb1 : Below w1.heap.size w1 w2 := ((Below.refl _ _).alloc (Nat.le_refl _) _).trans (hb2.mono (by simp))
  have C := box3.keep (n := w1.heap.size) (a := n1) (b := n2) (c := n3) ⟨by go_simp, by go_simp, by go_simp⟩ hb2 (by simp)
  have Z2 : w1.heap.size + 1 ≤ w2.heap.size := by have := hb2.size; simp at this; omega
  have HB2 : Hid (Below w.heap.size w w2) := HB1.out.trans (hb1.mono (by omega))
  have HC : Hid (box3 w2 w1.heap.size n1 n2 n3) := C
  clear hb1 hb2 HB1
  have CA := box3.allocs C (by omega)
  have C50 := fun o => (CA o).1
  have C51 := fun o => (CA o).2.1
  have C52 := fun o => (CA o).2.2
  clear CA C
  go_wp2_with fail
  refine (code_any _ _ _ _).mono ?_
  rintro e w3 ⟨rfl, hb3⟩
  have hb2 : Below w2.heap.size w2 w3 := ((Below.refl _ _).alloc (Nat.le_refl _) _).trans (hb3.mono (by simp))
  obtain ⟨D0, D1, D2⟩ := box3.keep HC.out hb2 (by omega)
  have HB3 : Hid (Below w.heap.size w w3) := HB2.out.trans (hb2.mono (by omega))
  clear hb2 hb3 HB2 C50 C51 C52
  go_wp2_with (go_at_call 8; refine (valid_any _ _).mono ?_; rintro e w' ⟨rfl, rfl⟩)
  go_ret
  exact ⟨rfl, HB3.out⟩

theorem texts_facts {s : ByteArray} (h : okS s = true) : ∃ n1 n2 n3 : Int, decT s = n1 ∧ decF s = n2 ∧ decS s = n3 ∧ decE s = 0 ∧ vldB n1 = true ∧ 0 ≤ n2 ∧ n2 < 65536 ∧ 0 ≤ n3 ∧ n3 < 281474976710656 ∧
    ((codeS n1 n2 n3).toList == s.toList) = true ∧ codeE n1 n2 n3 = 0 := by
  have h0 := h
  unfold okS at h
  simp only [Bool.and_eq_true, decide_eq_true_eq] at h
  obtain ⟨hs, hv⟩ := h
  have hc : cdB (val (p1 s)) (val (p2 s)) (val (p3 s)) = true := by rw [cdB_of (p2_lt hs) (p3_lt hs)]; exact hv
  have := p2_lt hs
  have := p3_lt hs
  refine ⟨_, _, _, if_pos h0, if_pos h0, if_pos h0, if_pos h0, hv, by omega, by omega, by omega, by omega, ?_, if_pos hc⟩
  unfold codeS
  rw [if_pos hc, ByteArray.toList_mk]
  simp only [Int.toNat_natCast]
  rw [code_parts hs, ByteArray.toList_eq]
  simp
end Go.Proofs.Ytdnhlabdpciclab
