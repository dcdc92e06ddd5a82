/- Contract of the document's own writing of a number in some bytes. -/
import Derived.Test.YtdnhlabdpciclabTimes
import Derived.Test.YtdnhlabdpciclabBytes
import Derived.LoopTactic
import Derived.Outline
import Derived.Below
import Derived.ProofKit
import Derived.Laws.IdiomStrings
namespace Go.Proofs.Ytdnhlabdpciclab
open Go.RowKit
set_option linter.unusedVariables false

/-- from place j on the row holds the lowest bytes of n -/
def tailIs (A : Array Value) (n many j : Nat) : Prop :=
  A.size = many ∧ ∀ i, j ≤ i → i < many → A[i]? = some (.int .u8 ((beAt n (many - 1 - i)).toNat : Int))

theorem tail_step (A : Array Value) (n many k v : Nat) (hA : tailIs A n many (k + 1)) (hv : v = n / 256 ^ (many - (k + 1))) (hk : k + 1 ≤ many) :
    tailIs (A.setIfInBounds k (.int .u8 ((v : Int) % 256))) n many k := by
  refine ⟨by simp [hA.1], fun i h1 h2 => ?_⟩
  by_cases e : i = k
  · subst e
    rw [Array.getElem?_setIfInBounds_self_of_lt (by rw [hA.1]; omega), beAt_toNat, hv, show many - (i + 1) = many - 1 - i from by omega]
    simp
  · rw [Array.getElem?_setIfInBounds_ne (by omega)]
    exact hA.2 i (by omega) h2

theorem div_step (n many k : Nat) (hk : k + 1 ≤ many) : n / 256 ^ (many - (k + 1)) / 256 = n / 256 ^ (many - k) := by
  rw [Nat.div_div_eq_div_mul, ← Nat.pow_succ, show (many - (k + 1)).succ = many - k from by omega]

theorem be_get (n k i : Nat) (h : i < k) : (be n k)[i]'(by rw [be_length]; exact h) = beAt n (k - 1 - i) := by
  induction k generalizing i with
  | zero => omega
  | succ k ih =>
    cases i with
    | zero => simp [be]
    | succ i =>
      simp only [be, List.getElem_cons_succ]
      rw [ih i (by omega)]
      congr 1
      omega

theorem tail_conv (A : Array Value) (n many : Nat) (w : World) (hA : tailIs A n many 0) :
    (convert 44 9 (.slice (some ⟨w.heap.size, 0, none⟩) many many)).run Try.prog (w.alloc (.cells A 5)) = .ok (.string ⟨(be n many).toArray⟩) (w.alloc (.cells A 5)) := by
  have h := run_convert_bytes_back (P := Try.prog) (w.alloc (.cells A 5)) 44 9 5 ⟨w.heap.size, 0, none⟩ many (be n many) Try.underlying44 Try.underlying5 Try.underlying9 (fun j hj => by
    rw [be_length] at hj
    rw [be_get n many j hj]
    have := hA.2 j (Nat.zero_le _) hj
    rw [← this]
    rw [Go.WideShapes.add_plain, Nat.zero_add]
    exact World.cell?_alloc_new w A 5 j)
  rw [be_length] at h
  exact h

set_option maxHeartbeats 400000 in
theorem big_core (n many : Nat) (w : World) (hn : n < 9223372036854775808) (hm : many ≤ 8)
    (hmk : ∀ w, (Instr.makeSlice 44 (.int .i64 (many : Int)) (.int .i64 (many : Int))).run Try.prog w = .ok (.slice (some ⟨w.heap.size, 0, none⟩) many many) (w.alloc (.cells (Array.replicate many (.int .u8 0)) 5))) :
    Calls Try.prog 21 #[.int .i64 n, .int .i64 many] w fun e w' => e = .returned (.string ⟨(be n many).toArray⟩) ∧ Below w.heap.size w w' := by
  go_enter Try.func21, Try.ntmps21
  go_wp2
  go_loopw [0, 6] (fun m i wr => ∃ (j v : Nat) (A : Array Value), j ≤ many ∧ i = .int .i64 ((j : Int) - 1) ∧ m = .int .i64 (v : Int) ∧ v = n / 256 ^ (many - j) ∧ wr = w.alloc (.cells A 5) ∧ tailIs A n many j) (fun _ i _ => (intOf i + 1).toNat)
  case atStart => exact ⟨many, n, _, Nat.le_refl _, rfl, rfl, by simp, rfl, by simp, fun i h1 h2 => by omega⟩
  case round =>
    obtain ⟨j, v, A, hj, rfl, rfl, hv, rfl, hA⟩ := hrel
    have HV : Hid (v = n / 256 ^ (many - j)) := hv
    have HA : Hid (tailIs A n many j) := hA
    have hsz : A.size = many := hA.1
    have hvn : v < 9223372036854775808 := by rw [hv]; exact Nat.lt_of_le_of_lt (Nat.div_le_self _ _) hn
    clear hv hA
    by_cases h : 1 ≤ j
    · obtain ⟨k, rfl⟩ : ∃ k, j = k + 1 := ⟨j - 1, by omega⟩
      rw [show ((k + 1 : Nat) : Int) - 1 = (k : Int) from by omega]
      obtain ⟨x3, hx3⟩ : ∃ x3, A[k]? = some x3 := ⟨_, Array.getElem?_eq_getElem (by omega)⟩
      go_wp2
      go_roundw
      case rel => exact ⟨k, v / 256, _, by omega, rfl, by go_num, by rw [HV.out]; exact div_step n many k hj, rfl, tail_step A n many k v HA.out HV.out hj⟩
      case measure => simp [intOf]
    · obtain rfl : j = 0 := by omega
      have hcv : (convert 44 9 (.slice (some ⟨w.heap.size, 0, none⟩) many many)).run Try.prog (w.alloc (.cells A 5)) = .ok (.string ⟨(be n many).toArray⟩) (w.alloc (.cells A 5)) := tail_conv A n many w HA.out
      go_wp2
      go_ret
      exact ⟨rfl, (Below.refl _ _).alloc (Nat.le_refl _) _⟩

theorem big_8 (n : Nat) (w : World) (hn : n < 9223372036854775808) :
    Calls Try.prog 21 #[.int .i64 n, .int .i64 8] w fun e w' => e = .returned (.string ⟨(be n 8).toArray⟩) ∧ Below w.heap.size w w' :=
  big_core n 8 w hn (by omega) (fun _ => by kernel_rfl)
theorem big_2 (n : Nat) (w : World) (hn : n < 9223372036854775808) :
    Calls Try.prog 21 #[.int .i64 n, .int .i64 2] w fun e w' => e = .returned (.string ⟨(be n 2).toArray⟩) ∧ Below w.heap.size w w' :=
  big_core n 2 w hn (by omega) (fun _ => by kernel_rfl)
theorem big_6 (n : Nat) (w : World) (hn : n < 9223372036854775808) :
    Calls Try.prog 21 #[.int .i64 n, .int .i64 6] w fun e w' => e = .returned (.string ⟨(be n 6).toArray⟩) ∧ Below w.heap.size w w' :=
  big_core n 6 w hn (by omega) (fun _ => by kernel_rfl)
end Go.Proofs.Ytdnhlabdpciclab
