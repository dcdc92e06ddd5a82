/- Proved: what lines.Unseal and the document's own Unseal tell of any text. -/
import Derived.Test.YtjlcmgfgbmcjpaaDoorSeal0
import Derived.Lib.Split
namespace Go.Proofs.YtjlcmgfgbmcjpaaDoor
open Go.RowKit
set_option linter.unusedVariables false

/-- The text ahead of the seal. -/
def front (s : ByteArray) : ByteArray := s.extract 0 (s.size - 10)
theorem front_data (s : ByteArray) : (front s).data.toList = s.data.toList.take (s.size - 10) := by simp [front, ByteArray.data_extract]
theorem front_size (s : ByteArray) : (front s).size ≤ s.size := by simp [front]
theorem front_seal (s : ByteArray) : front (sealB s) = s := by
  have e : (front (sealB s)).data.toList = s.data.toList := by
    rw [front_data, sealB_size, sealB_data, sealT]
    rw [show s.size + 10 - 10 = s.data.toList.length by rw [sizeS]; omega]
    simp
  cases s
  exact (dataS e).trans (by simp)
/-- Whether it is sealed. -/
def sealedB (s : ByteArray) : Bool := decide (10 ≤ s.size ∧ sealB (front s) = s)
def unT (s : ByteArray) : ByteArray := if sealedB s then front s else ⟨#[]⟩
def unE (s : ByteArray) : Int := if sealedB s then 0 else 21
theorem un_yes {s : ByteArray} (h : sealedB s = true) : unT s = front s ∧ unE s = 0 := by simp [unT, unE, h]
theorem un_no {s : ByteArray} (h : sealedB s = false) : unT s = ⟨#[]⟩ ∧ unE s = 21 := by simp [unT, unE, h]
theorem sealed_seal (s : ByteArray) : sealedB (sealB s) = true := decide_eq_true ⟨by rw [sealB_size]; omega, by rw [front_seal]⟩
theorem ne_list {a b : ByteArray} (h : a ≠ b) : ¬ (a.toList = b.toList) := by
  rw [ByteArray.toList_eq, ByteArray.toList_eq]
  intro e
  apply h
  cases a; cases b; simp_all

set_option maxHeartbeats 1000000 in
theorem unseal_any (s : ByteArray) (w : World) (hs : s.size ≤ 1073741824) (ht : ShAt w) :
    Calls Tryd.prog 20 #[.string s] w fun e w' => e = .returned (.tuple #[.string (unT s), .int .i64 (unE s)]) ∧ Below w.heap.size w w' := by
  by_cases h10 : 10 ≤ s.size
  · have hx : ¬ ((s.size : Int) < 10) := by omega
    obtain ⟨T, hT⟩ : ∃ T, T = front s := ⟨_, rfl⟩
    have hTs : T.size ≤ s.size := by rw [hT]; exact front_size s
    have hSe := seal_any T w (by omega) ht
    have hsl : ∀ wx : World, (Instr.slice 9 (.string s) none (some (.int .i64 ((s.size : Int) - 10))) none).run Tryd.prog wx = .ok (.string T) wx := by
      intro wx
      rw [run_slice_string_h wx 9 s Tryd.underlying9 .i64 _ (by omega) (by omega), hT, front, show ((s.size : Int) - 10).toNat = s.size - 10 by omega]
    by_cases hy : sealB T = s
    · have HU := hideH (un_yes (decide_eq_true ⟨h10, by rw [← hT]; exact hy⟩ : sealedB s = true))
      rw [hy] at hSe
      have HT := hideH hT
      clear hT hy
      go_enter Tryd.func20, Tryd.ntmps20
      go_wp2_with (first | (go_at_call 19; refine hSe.mono ?_; rintro e w1 ⟨rfl, hb1⟩; have HB1 := hideH hb1; clear hb1) | (go_at_call 35; refine (clone_any T _ (by omega)).mono ?_; rintro e w2 ⟨rfl, hb2⟩; have HB2 := hideH hb2; clear hb2))
      go_ret2
      exact ⟨by rw [HU.out.1, HU.out.2, ← HT.out]; rfl, HB1.out.trans (HB2.out.mono HB1.out.size)⟩
    · have HU := hideH (un_no (decide_eq_false (fun h => hy (by rw [hT]; exact h.2)) : sealedB s = false))
      obtain ⟨Y, hY⟩ : ∃ Y, Y = sealB T := ⟨_, rfl⟩
      rw [← hY] at hSe hy
      have hne := ne_list hy
      have hnb : (Y.toList == s.toList) = false := by rw [beq_eq_false_iff_ne]; exact hne
      clear hT hy hY
      go_enter Tryd.func20, Tryd.ntmps20
      go_wp2_with (go_at_call 19; refine hSe.mono ?_; rintro e w1 ⟨rfl, hb1⟩; have HB1 := hideH hb1; clear hb1)
      go_ret2
      exact ⟨by rw [HU.out.1, HU.out.2]; rfl, HB1.out⟩
  · have hx : (s.size : Int) < 10 := by omega
    have HU := hideH (un_no (decide_eq_false (fun h => h10 h.1) : sealedB s = false))
    go_enter Tryd.func20, Tryd.ntmps20
    go_wp2
    go_ret2
    exact ⟨by rw [HU.out.1, HU.out.2]; rfl, Below.refl _ _⟩
set_option maxHeartbeats 1000000 in
theorem refUnseal_any (s : ByteArray) (w : World) (hs : s.size ≤ 1073741824) :
    Calls Tryd.prog 21 #[.string s] w fun e w' => e = .returned (.tuple #[.string (unT s), .int .i64 (unE s)]) ∧ w' = w := by
  by_cases h10 : 10 ≤ s.size
  · have hx : ¬ ((s.size : Int) < 10) := by omega
    obtain ⟨T, hT⟩ : ∃ T, T = front s := ⟨_, rfl⟩
    have hTs : T.size ≤ s.size := by rw [hT]; exact front_size s
    have hSe := refSeal_any T w (by omega)
    have hsl : ∀ wx : World, (Instr.slice 9 (.string s) none (some (.int .i64 ((s.size : Int) - 10))) none).run Tryd.prog wx = .ok (.string T) wx := by
      intro wx
      rw [run_slice_string_h wx 9 s Tryd.underlying9 .i64 _ (by omega) (by omega), hT, front, show ((s.size : Int) - 10).toNat = s.size - 10 by omega]
    by_cases hy : sealB T = s
    · have HU := hideH (un_yes (decide_eq_true ⟨h10, by rw [← hT]; exact hy⟩ : sealedB s = true))
      rw [hy] at hSe
      have HT := hideH hT
      clear hT hy
      go_enter Tryd.func21, Tryd.ntmps21
      go_wp2_with (go_at_call 22; refine hSe.mono ?_; rintro e w1 ⟨rfl, rfl⟩)
      go_ret2
      exact ⟨by rw [HU.out.1, HU.out.2, ← HT.out]; rfl, rfl⟩
    · have HU := hideH (un_no (decide_eq_false (fun h => hy (by rw [hT]; exact h.2)) : sealedB s = false))
      obtain ⟨Y, hY⟩ : ∃ Y, Y = sealB T := ⟨_, rfl⟩
      rw [← hY] at hSe hy
      have hne := ne_list hy
      have hnb : (Y.toList == s.toList) = false := by rw [beq_eq_false_iff_ne]; exact hne
      clear hT hy hY
      go_enter Tryd.func21, Tryd.ntmps21
      go_wp2_with (go_at_call 22; refine hSe.mono ?_; rintro e w1 ⟨rfl, rfl⟩)
      go_ret2
      exact ⟨by rw [HU.out.1, HU.out.2]; rfl, rfl⟩
  · have hx : (s.size : Int) < 10 := by omega
    have HU := hideH (un_no (decide_eq_false (fun h => h10 h.1) : sealedB s = false))
    go_enter Tryd.func21, Tryd.ntmps21
    go_wp2
    go_ret2
    exact ⟨by rw [HU.out.1, HU.out.2]; rfl, rfl⟩
end Go.Proofs.YtjlcmgfgbmcjpaaDoor
