/- Contract of what writes numbers behind one another, each in its bytes. -/
import Derived.Test.YtdnhlabdpciclabWrit0
namespace Go.Proofs.Ytdnhlabdpciclab
open Go.RowKit
set_option linter.unusedVariables false

/-- the first k of three numbers in their bytes -/
def upTo (a b c : Nat) : Nat → List UInt8
  | 0 => []
  | 1 => be a 8
  | 2 => be a 8 ++ be b 2
  | _ => be a 8 ++ (be b 2 ++ be c 6)
def numAt (a b c : Nat) : Nat → Nat
  | 0 => a
  | 1 => b
  | _ => c
def sizeAt : Nat → Nat
  | 0 => 8
  | 1 => 2
  | _ => 6

theorem upTo_length (a b c k : Nat) : (upTo a b c k).length ≤ 16 := by
  unfold upTo; split <;> simp [be_length]
theorem upTo_succ (a b c k : Nat) (h : k < 3) : upTo a b c (k + 1) = upTo a b c k ++ be (numAt a b c k) (sizeAt k) := by
  match k, h with
  | 0, _ => rfl
  | 1, _ => rfl
  | 2, _ => simp [upTo, numAt, sizeAt]
theorem byte_eq (n j : Nat) : (n : Int) / 2 ^ (8 * j) % 256 = ((beAt n j).toNat : Int) := by
  rw [beAt_toNat, show (256 : Nat) ^ j = 2 ^ (8 * j) from by rw [Nat.pow_mul]]
  simp

set_option maxHeartbeats 1000000 in
theorem written_core (a b c : Nat) (blk : Nat) (w : World) (ha : a < 9223372036854775808) (hb : b < 9223372036854775808) (hc : c < 9223372036854775808)
    (hblk : blk < w.heap.size)
    (hp : ∀ k, k < 3 → w.cell? ⟨blk, k * 2, none⟩ = some (.int .i64 (numAt a b c k : Int)) ∧ w.cell? ⟨blk, k * 2 + 1, none⟩ = some (.int .i64 (sizeAt k : Int))) :
    Calls Try.prog 16 #[.slice (some ⟨blk, 0, none⟩) 3 3] w fun e w' => e = .returned (.string ⟨(upTo a b c 3).toArray⟩) ∧ Below w.heap.size w w' := by
  obtain ⟨i0, hi, hz0, hz1, hz2⟩ := info_parts info5
  have HP : Hid (∀ k, k < 3 → w.cell? ⟨blk, k * 2, none⟩ = some (.int .i64 (numAt a b c k : Int)) ∧ w.cell? ⟨blk, k * 2 + 1, none⟩ = some (.int .i64 (sizeAt k : Int))) := hp
  clear hp
  go_enter Try.func16, Try.ntmps16
  go_wp2
  go_loopw [3, 9] (fun v i wr => ∃ k : Nat, k ≤ 3 ∧ i = .int .i64 k ∧ Own w.heap.size w wr v (upTo a b c k)) (fun _ i _ => 3 - (intOf i).toNat)
  case atStart => exact ⟨0, Nat.zero_le _, rfl, World.ownsRow_nil _ _ _ _, Below.refl _ _, Nat.le_refl _⟩
  case round =>
    obtain ⟨k, hk, rfl, hown⟩ := hrel
    by_cases hlt : k < 3
    · have h1 := (hown.2.1.cell (p := ⟨blk, k * 2, none⟩) hblk).trans (HP.out k hlt).1
      have h2 := (hown.2.1.cell (p := ⟨blk, k * 2 + 1, none⟩) hblk).trans (HP.out k hlt).2
      obtain ⟨n, HN⟩ : ∃ n, Hid (n = numAt a b c k) := ⟨_, rfl⟩
      obtain ⟨s, HS⟩ : ∃ s, Hid (s = sizeAt k) := ⟨_, rfl⟩
      rw [← HN.out] at h1
      rw [← HS.out] at h2
      have hs1 : 1 ≤ s ∧ s ≤ 8 := by rw [HS.out]; unfold sizeAt; split <;> omega
      obtain ⟨hs1, hs8⟩ := hs1
      have hk3 : (decide ((k : Int) < 3)) = true := by simp; omega
      have hn : n < 9223372036854775808 := by rw [HN.out]; unfold numAt; split <;> assumption
      have HO : Hid (Own w.heap.size w wr u3 (upTo a b c k)) := hown
      clear hown
      go_wp2
      have HB := own_box HO.out (n : Int) (s : Int)
      go_loopw [3, 6] (fun v i wx => ∃ (j : Nat) (l : List UInt8), j ≤ s ∧ i = .int .i64 ((j : Int) - 1) ∧ Own w.heap.size w wx v l ∧ Box wx wr.heap.size n s ∧ l ++ be n j = upTo a b c k ++ be n s) (fun _ i _ => (intOf i + 1).toNat)
      case atStart => exact ⟨s, _, Nat.le_refl _, rfl, HB.1, HB.2, rfl⟩
      case round =>
        obtain ⟨j, l, hj, rfl, hown, hbox, hl⟩ := hrel
        have HL : Hid (l ++ be n j = upTo a b c k ++ be n s) := hl
        have HW : Hid (Own w.heap.size w wr u3 l) := hown
        have hbc := hbox.cells
        have hll : l.length ≤ 100 := by
          have := congrArg List.length hl
          have h2 := upTo_length a b c k
          simp only [List.length_append, be_length] at this
          omega
        have HX : Hid (Box wr _ n s) := hbox
        clear hl hown hbox
        obtain ⟨hbc0, hbc1⟩ := hbc
        by_cases h : 1 ≤ j
        · obtain ⟨j, rfl⟩ : ∃ m, j = m + 1 := ⟨j - 1, by omega⟩
          rw [show ((j + 1 : Nat) : Int) - 1 = (j : Int) from by omega]
          go_wp2_with (at_builtin; refine wpList_append_own _ rfl _ _ 44 rfl w.heap.size 5 i0 (.int .u8 0) 1 1 Try.underlying44 hi hz0 hz1 hz2 rfl (by decide) _ _ _ rfl (HW.out.1.alloc _) ⟨wr.heap.size, 0, none⟩ 1 1 [.int .u8 ((n : Int) / 2 ^ (8 * j) % 256)] rfl rfl ?c1 ?c2 ?c3 ?c4 ?c5 ?_)
          case c1 => exact cell_one_new _ _ _
          case c2 => intro u hu; simp at hu; subst hu; rfl
          case c3 => unfold maxLen; omega
          case c4 => omega
          case c5 => have := HW.out.2.2; simp; omega
          intro v' w1 hown' hgrow _
          rw [byte_eq n j] at hown'
          have R := own_step HW.out HX.out hown' hgrow
          have HR : Hid _ := R
          clear R hown' hgrow hbc0 hbc1
          go_wp2
          go_roundw
          case rel => exact ⟨j, l ++ [beAt n j], by omega, rfl, HR.out.1, HR.out.2, by rw [List.append_assoc]; exact HL.out⟩
          case measure => simp [intOf]
        · obtain rfl : j = 0 := by omega
          go_wp2
          go_roundw
          case rel =>
            have e := HL.out
            rw [be, List.append_nil] at e
            exact ⟨k + 1, by omega, by go_num, by rw [upTo_succ a b c k hlt, ← HN.out, ← HS.out, ← e]; exact HW.out⟩
          case measure => simp [intOf]; omega
    · obtain rfl : k = 3 := by omega
      have hcv := own_conv hown
      have HO : Hid (Own w.heap.size w wr u3 (upTo a b c 3)) := hown
      clear hown
      go_wp2
      go_ret
      exact ⟨rfl, HO.out.2.1⟩
end Go.Proofs.Ytdnhlabdpciclab
