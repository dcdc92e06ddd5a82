/- Proved: what lines.Sum and the document's own Sum tell of any text is the sum by its definition. -/
import Derived.Test.YtjlcmgfgbmcjpaaDoorProg
import Derived.Test.YtjlcmgfgbmcjpaaDoorPure2
import Derived.WalkKit
import Derived.LoopTactic
import Derived.Laws.IdiomStrings
import Derived.Outline
import Derived.Below
import Derived.Laws.BitsAllLaws
namespace Go.Proofs.YtjlcmgfgbmcjpaaDoor
open Go.RowKit
set_option linter.unusedVariables false

theorem take_snoc (s : ByteArray) (k : Nat) (h : k < s.size) : s.data.toList.take (k + 1) = s.data.toList.take k ++ [s[k]] := by
  rw [List.take_succ_eq_append_getElem (by simpa using h)]; rfl
theorem ret_u32 {a b : Int} (h : a = b) : Ending.returned (.int .u32 a) = .returned (.int .u32 b) := by rw [h]

theorem fnv_step (s : ByteArray) (k : Nat) (h : k < s.size) (v : Int) (hv : v = fnv (s.data.toList.take k)) :
    bits .xor .u32 v ((s[k].toNat : Int) % 4294967296) * 16777619 % 4294967296 = fnv (s.data.toList.take (k + 1)) := by
  have hc := s[k].toNat_lt
  have e : (s[k].toNat : Int) % 4294967296 = (s[k].toNat : Int) := by omega
  rw [hv, take_snoc s k h, fnv_snoc, e, u32_xor_nat _ _ (fnv_lt _) (by omega), fstep]
  omega

/-- The sum, as a number of the program's. -/
def sumI (s : ByteArray) : Int := fnv s.data.toList

set_option maxHeartbeats 400000 in
theorem sum_any (s : ByteArray) (w : World) (hs : s.size < 4611686018427387904) :
    Calls Tryd.prog 23 #[.string s] w fun e w' => e = .returned (.int .u32 (sumI s)) ∧ w' = w := by
  go_enter Tryd.func23, Tryd.ntmps23
  go_wp2
  go_loop [3, 7] (fun n i => ∃ k : Nat, ∃ v : Int, k ≤ s.size ∧ i = .int .i64 k ∧ n = .int .u32 v ∧ v = fnv (s.data.toList.take k)) (fun _ i => s.size - (intOf i).toNat)
  case atStart => exact ⟨0, 2166136261, Nat.zero_le _, rfl, rfl, by simp [fnv, fnvFrom]⟩
  case round =>
    obtain ⟨k, v, hk, rfl, rfl, hv⟩ := hrel
    have HV : Hid (v = fnv (s.data.toList.take k)) := hv
    clear hv
    by_cases hlt : k < s.size
    · go_wp2
      go_round
      case rel => exact ⟨k + 1, _, by omega, by go_num, rfl, fnv_step s k hlt v HV.out⟩
      case measure => simp [intOf]; omega
    · go_wp2
      go_ret
      exact ⟨ret_u32 (by rw [sumI, HV.out, List.take_of_length_le (by simp; omega)]), rfl⟩
set_option maxHeartbeats 400000 in
theorem refSum_any (s : ByteArray) (w : World) (hs : s.size < 4611686018427387904) :
    Calls Tryd.prog 24 #[.string s] w fun e w' => e = .returned (.int .u32 (sumI s)) ∧ w' = w := by
  go_enter Tryd.func24, Tryd.ntmps24
  go_wp2
  go_loop [3, 4] (fun n i => ∃ k : Nat, ∃ v : Int, k ≤ s.size ∧ i = .int .i64 k ∧ n = .int .u32 v ∧ v = fnv (s.data.toList.take k)) (fun _ i => s.size - (intOf i).toNat)
  case atStart => exact ⟨0, 2166136261, Nat.zero_le _, rfl, rfl, by simp [fnv, fnvFrom]⟩
  case round =>
    obtain ⟨k, v, hk, rfl, rfl, hv⟩ := hrel
    have HV : Hid (v = fnv (s.data.toList.take k)) := hv
    clear hv
    by_cases hlt : k < s.size
    · go_wp2
      go_round
      case rel => exact ⟨k + 1, _, by omega, by go_num, rfl, fnv_step s k hlt v HV.out⟩
      case measure => simp [intOf]; omega
    · go_wp2
      go_ret
      exact ⟨ret_u32 (by rw [sumI, HV.out, List.take_of_length_le (by simp; omega)]), rfl⟩

theorem one_size (x : UInt8) : (⟨#[x]⟩ : ByteArray).size = 1 := rfl
theorem bytes_append (a b : ByteArray) : (a ++ b).data.toList = a.data.toList ++ b.data.toList := by simp
theorem sumI_one (a : ByteArray) (x : UInt8) : sumI (a ++ ⟨#[x]⟩) = bits .xor .u32 (sumI a) ((x.toNat : Int) % 4294967296) * 16777619 % 4294967296 := by
  have hc := x.toNat_lt
  have e : (x.toNat : Int) % 4294967296 = (x.toNat : Int) := by omega
  rw [sumI, sumI, bytes_append, e, u32_xor_nat _ _ (fnv_lt _) (by omega)]
  show ((fnv (a.data.toList ++ [x]) : Nat) : Int) = _
  rw [fnv_snoc, fstep]; omega
theorem sumI_changed (a b : ByteArray) (x y : UInt8) : sumI (a ++ ⟨#[x]⟩ ++ b) = sumI (a ++ ⟨#[y]⟩ ++ b) ↔ x = y := by
  rw [sumI, sumI, bytes_append, bytes_append, bytes_append, bytes_append]
  show ((fnv (a.data.toList ++ [x] ++ b.data.toList) : Nat) : Int) = ((fnv (a.data.toList ++ [y] ++ b.data.toList) : Nat) : Int) ↔ _
  rw [List.append_assoc, List.append_assoc, Int.natCast_inj]
  exact fnv_changed _ _ _ _
/-- A byte that came in is one of the 256. -/
theorem byte_of (a : Int) (h : (Lit.int .u8 a).wf = true) : ∃ x : UInt8, a = (x.toNat : Int) := by
  have hx : 0 ≤ a ∧ a ≤ 255 := by simpa [Lit.wf, IntKind.min, IntKind.max, IntKind.signed, IntKind.bits] using h
  refine ⟨UInt8.ofNat a.toNat, ?_⟩
  rw [UInt8.toNat_ofNat']; omega
/-- One byte in a slice of its own, as a text. -/
theorem one_back (x : UInt8) (w : World) : (convert 40 9 (.slice (some ⟨w.heap.size, 0, none⟩) 1 1)).run Tryd.prog (w.alloc (.cells #[.int .u8 x.toNat] 5)) = .ok (.string ⟨#[x]⟩) (w.alloc (.cells #[.int .u8 x.toNat] 5)) := by
  have h := run_convert_bytes_back (P := Tryd.prog) (w.alloc (.cells #[.int .u8 x.toNat] 5)) 40 9 5 ⟨w.heap.size, 0, none⟩ 1 [x] Tryd.underlying40 Tryd.underlying5 Tryd.underlying9 (fun j hj => by
    have : j = 0 := by simp at hj; exact hj
    subst this
    show (w.alloc (.cells #[.int .u8 x.toNat] 5)).cell? ⟨w.heap.size, 0, none⟩ = _
    rw [World.cell?_alloc_at _ _ _ _ (by simp)]; rfl)
  exact h
end Go.Proofs.YtjlcmgfgbmcjpaaDoor
