/- Proved: what strconv.FormatUint writes of a number below 2^32 to the base 16. -/
import Derived.Test.YtjlcmgfgbmcjpaaDoorHex0
import Derived.Laws.IdiomStrings
namespace Go.Proofs.YtjlcmgfgbmcjpaaDoor
open Go.RowKit
set_option linter.unusedVariables false

theorem hex_at (d : Nat) (h : d < 16) (wx : World) :
    (Instr.index 9 (.string ⟨#[48, 49, 50, 51, 52, 53, 54, 55, 56, 57, 97, 98, 99, 100, 101, 102, 103, 104, 105, 106, 107, 108, 109, 110, 111, 112, 113, 114, 115, 116, 117, 118, 119, 120, 121, 122]⟩) (.int .u64 (d : Int))).run Tryd.prog wx = .ok (.int .u8 ((hexDigit d).toNat : Int)) wx := by
  have hs : ((⟨#[48, 49, 50, 51, 52, 53, 54, 55, 56, 57, 97, 98, 99, 100, 101, 102, 103, 104, 105, 106, 107, 108, 109, 110, 111, 112, 113, 114, 115, 116, 117, 118, 119, 120, 121, 122]⟩ : ByteArray).size : Int) = 36 := rfl
  rw [run_index_string wx 9 _ .u64 (d : Int) Tryd.underlying9, dif_pos (by omega)]
  have key : ∀ d : Fin 16, ((⟨#[48, 49, 50, 51, 52, 53, 54, 55, 56, 57, 97, 98, 99, 100, 101, 102, 103, 104, 105, 106, 107, 108, 109, 110, 111, 112, 113, 114, 115, 116, 117, 118, 119, 120, 121, 122]⟩ : ByteArray)[d.val]'(Nat.lt_of_lt_of_le d.isLt (by decide))) = hexDigit d.val := by decide +kernel
  have := key ⟨d, h⟩
  exact congrArg (fun x : UInt8 => Result.ok (Value.int .u8 (x.toNat : Int)) wx) this
theorem z140 : Tryd.zeroCells140 = Array.replicate 65 (.int .u8 0) := by kernel_rfl
/-- How the library's array stands when the lowest k digits are written. -/
def Arr (w wr : World) (h k : Nat) : Prop :=
  Below w.heap.size w wr ∧ w.heap.size < wr.heap.size ∧
  (∀ j, j < 65 → (∃ c : Int, wr.cell? ⟨w.heap.size, j, none⟩ = some (.int .u8 c)) ∧ wr.frozen? ⟨w.heap.size, j, none⟩ = false) ∧
  ∀ j (hj : j < (low k h).length), wr.cell? ⟨w.heap.size, 65 - k + j, none⟩ = some (.int .u8 ((low k h)[j].toNat : Int))
theorem arr_zero (w : World) (h : Nat) : Arr w (w.alloc (.cells Tryd.zeroCells140 140)) h 0 := by
  refine ⟨(Below.refl _ _).alloc (Nat.le_refl _) _, by simp, fun j hj => ⟨⟨0, ?_⟩, ?_⟩, fun j hj => absurd hj (Nat.not_lt_zero _)⟩
  · rw [World.cell?_alloc_at _ _ _ _ rfl, z140]
    simp [hj]
  · exact World.frozen?_alloc_at _ _ _ _ rfl
theorem arr_next {w wr : World} {h k : Nat} {d : Nat} (ha : Arr w wr h k) (hk : k < 65) (hd : d = h / 16 ^ k % 16) :
    Arr w (wr.setCell ⟨w.heap.size, 64 - k, none⟩ (.int .u8 ((hexDigit d).toNat : Int))) h (k + 1) := by
  obtain ⟨h1, h2, h3, h4⟩ := ha
  obtain ⟨⟨c0, hc0⟩, _⟩ := h3 (64 - k) (by omega)
  refine ⟨h1.setCell (p := ⟨w.heap.size, 64 - k, none⟩) (Nat.le_refl _) _, by simp [World.setCell]; exact h2, fun j hj => ⟨?_, ?_⟩, fun j hj => ?_⟩
  · by_cases e : j = 64 - k
    · subst e; exact ⟨_, World.cell?_setCell_same _ _ _ hc0⟩
    · obtain ⟨⟨c, hc⟩, _⟩ := h3 j hj
      exact ⟨c, by rw [World.cell?_setCell_other (h := by intro x; cases x; exact e rfl)]; exact hc⟩
  · rw [World.frozen?_setCell]; exact (h3 j hj).2
  · rw [low_length] at hj
    cases j with
    | zero =>
      have e : 65 - (k + 1) + 0 = 64 - k := by omega
      rw [e, World.cell?_setCell_same _ _ _ hc0, hd]; rfl
    | succ j =>
      have e : 65 - (k + 1) + (j + 1) = 65 - k + j := by omega
      rw [e, World.cell?_setCell_other (h := by intro x; have := (Addr.mk.inj x).2.1; omega), h4 j (by rw [low_length]; omega)]
      rfl

theorem arr_put {w wr : World} {h k I d : Nat} {c : UInt8} (ha : Arr w wr h k) (hI : I + k = 64) (hd : d = h / 16 ^ k % 16) (hc : c = hexDigit d) :
    Arr w (wr.setCell ⟨w.heap.size, I, none⟩ (.int .u8 (c.toNat : Int))) h (k + 1) := by
  have e : I = 64 - k := by omega
  rw [hc, e]
  exact arr_next ha (by omega) hd
theorem hex_get (i d : Nat) (h : d < 16) (e : i = d) (hi : i < (⟨#[48, 49, 50, 51, 52, 53, 54, 55, 56, 57, 97, 98, 99, 100, 101, 102, 103, 104, 105, 106, 107, 108, 109, 110, 111, 112, 113, 114, 115, 116, 117, 118, 119, 120, 121, 122]⟩ : ByteArray).size) :
    (⟨#[48, 49, 50, 51, 52, 53, 54, 55, 56, 57, 97, 98, 99, 100, 101, 102, 103, 104, 105, 106, 107, 108, 109, 110, 111, 112, 113, 114, 115, 116, 117, 118, 119, 120, 121, 122]⟩ : ByteArray)[i] = hexDigit d := by
  subst e
  have key : ∀ d : Fin 16, ((⟨#[48, 49, 50, 51, 52, 53, 54, 55, 56, 57, 97, 98, 99, 100, 101, 102, 103, 104, 105, 106, 107, 108, 109, 110, 111, 112, 113, 114, 115, 116, 117, 118, 119, 120, 121, 122]⟩ : ByteArray)[d.val]'(Nat.lt_of_lt_of_le d.isLt (by decide))) = hexDigit d.val := by decide +kernel
  exact key ⟨i, h⟩
theorem len140 : Tryd.prog.arrayLen 140 = 65 ∧ Tryd.prog.elem 140 = 5 := ⟨by kernel_rfl, by kernel_rfl⟩
theorem slice140 (B I : Nat) (hI : I < 65) (wx : World) :
    (Instr.sliceAt 140 (.pointer (some ⟨B, 0, none⟩)) (some (.int .i64 (I : Int))) none none).run Tryd.prog wx = .ok (.slice (some ⟨B, I, none⟩) (65 - I) (65 - I)) wx := by
  rw [run_sliceAt_array_l wx 140 ⟨B, 0, none⟩ (by rw [len140.1, len140.2]; exact Tryd.underlying140) .i64 (I : Int) (by omega) (by rw [len140.1]; omega), len140.1, len140.2]
  simp [go_sem, Tryd.sizeOf5]
  omega
theorem low_last {h k : Nat} (hk : h / 16 ^ k < 16) : h < 16 ^ (k + 1) := by
  rw [Nat.pow_succ]
  exact (Nat.div_lt_iff_lt_mul (Nat.pow_pos (by decide))).1 hk |> fun x => by rw [Nat.mul_comm]; exact x
theorem few {h k : Nat} (hh : h < 4294967296) (hk : 16 ≤ h / 16 ^ k) : k + 1 ≤ 7 := by
  have h1 : 16 * 16 ^ k ≤ h := (Nat.le_div_iff_mul_le (Nat.pow_pos (by decide))).1 hk
  have h2 : 16 ^ (k + 1) < 16 ^ 8 := by rw [Nat.pow_succ, Nat.mul_comm]; omega
  have := (Nat.pow_lt_pow_iff_right (by decide : 1 < 16)).1 h2
  omega

set_option maxRecDepth 100000 in
set_option maxHeartbeats 1000000 in
theorem formatBits_any (h : Nat) (w : World) (hh : h < 4294967296) (ht : ShAt w) :
    Calls Tryd.prog 70 #[.slice none 0 0, .int .u64 h, .int .i64 16, .bool false, .bool false] w fun e w' => (∃ n, 1 ≤ n ∧ n ≤ 8 ∧ h < 16 ^ n ∧ e = .returned (.tuple #[.slice none 0 0, .string ⟨(low n h).toArray⟩])) ∧ Below w.heap.size w w' := by
  have ht1 : ∀ o, ShAt (w.alloc o) := fun o => ht.keep ((Below.refl _ _).alloc (Nat.le_refl _) _)
  go_enter Tryd.func70, Tryd.ntmps70
  go_wp2_with (first | (go_at_call 86; refine (pow2_16 _).mono ?_; rintro e w1 ⟨rfl, rfl⟩) | (go_at_call 87; refine (tz_16 _ (ht1 _)).mono ?_; rintro e w1 ⟨rfl, rfl⟩))
  go_loopw [1, 13] (fun uv iv wr => ∃ k u I : Nat, k ≤ 7 ∧ I + k = 64 ∧ uv = .int .u64 u ∧ u ≤ h ∧ iv = .int .i64 ((I : Int) + 1) ∧ Hid (u = h / 16 ^ k ∧ Arr w wr h k)) (fun uv _ _ => (intOf uv).toNat)
  case atStart => exact ⟨0, h, 64, by omega, by omega, rfl, Nat.le_refl _, rfl, by simp, arr_zero w h⟩
  case round =>
    obtain ⟨k, u, I, hk, hI, rfl, hu, rfl, ha⟩ := hrel
    obtain ⟨⟨c, hc⟩, hf⟩ := ha.out.2.2.2.1 I (by omega)
    by_cases h16 : 16 ≤ u
    · obtain ⟨d, hd⟩ : ∃ d, d = u % 16 := ⟨_, rfl⟩
      obtain ⟨q, hq⟩ : ∃ q, q = u / 16 := ⟨_, rfl⟩
      have hd16 : d < 16 := by omega
      have hdiv : (u : Int) / 16 = (q : Int) := by omega
      have hand : bits .and .u64 (u : Int) 15 = (d : Int) := by
        have := u64_and_nat u 15 (by omega) (by omega)
        rw [hd]
        refine this.trans ?_
        rw [show (15 : Nat) = 2 ^ 4 - 1 from rfl, Nat.and_two_pow_sub_one_eq_mod]
      have hix := fun wx => hex_at d hd16 wx
      have h16' : (16 : Int) ≤ (u : Int) := by omega
      obtain ⟨J, hJ⟩ : ∃ J, I = J + 1 := ⟨I - 1, by omega⟩
      have HJ := hideH hJ
      clear hJ
      have HD := hideH hd
      have HQ := hideH hq
      clear hd hq
      go_wp2
      go_roundw
      case rel =>
        have e := ha.out.1
        have hJ := HJ.out
        refine ⟨k + 1, q, J, few hh (by omega), by omega, rfl, by have := HQ.out; omega, by rw [hJ]; go_num, ?_, ?_⟩
        · rw [HQ.out, e, Nat.pow_succ, Nat.div_div_eq_div_mul]
        · refine arr_put (d := d) ha.out.2 hI (by rw [HD.out, e]) ?_
          rfl
      case measure => have := HQ.out; simp [intOf]; omega
    · have hix := fun wx => hex_at u (by omega) wx
      have h16' : ¬ ((16 : Int) ≤ (u : Int)) := by omega
      have hsa := fun wx => slice140 w.heap.size I (by omega) wx
      have HA : Hid (Arr w (wr.setCell ⟨w.heap.size, I, none⟩ (.int .u8 ((hexDigit u).toNat : Int))) h (k + 1)) := by
        have e := ha.out.1
        have e2 : I = 64 - k := by omega
        rw [e2]
        exact arr_next ha.out.2 (by omega) (by rw [← e]; omega)
      have hcv : (convert 40 9 (.slice (some ⟨w.heap.size, I, none⟩) (65 - I) (65 - I))).run Tryd.prog (wr.setCell ⟨w.heap.size, I, none⟩ (.int .u8 ((hexDigit u).toNat : Int))) = .ok (.string ⟨(low (k + 1) h).toArray⟩) (wr.setCell ⟨w.heap.size, I, none⟩ (.int .u8 ((hexDigit u).toNat : Int))) := by
        have h1 := run_convert_bytes_back (P := Tryd.prog) (wr.setCell ⟨w.heap.size, I, none⟩ (.int .u8 ((hexDigit u).toNat : Int))) 40 9 5 ⟨w.heap.size, I, none⟩ (65 - I) (low (k + 1) h) Tryd.underlying40 Tryd.underlying5 Tryd.underlying9 (fun j hj => by
          have h2 := HA.out.2.2.2 j hj
          have e3 : 65 - (k + 1) + j = I + j := by omega
          rw [e3] at h2
          rw [Go.WideShapes.add_plain]
          exact h2)
        rw [low_length] at h1
        have e4 : k + 1 = 65 - I := by omega
        rw [← e4]
        rw [← e4] at h1
        exact h1
      go_wp2
      refine bodyPost_ret (v := .tuple #[.slice none 0 0, .string ⟨(low (k + 1) h).toArray⟩]) (by simp [results, Tryd.results70, go_sem]) rfl ⟨⟨k + 1, by omega, by omega, low_last (by rw [← ha.out.1]; omega), rfl⟩, HA.out.1⟩
theorem formatUint_any (h : Nat) (w : World) (hh : h < 4294967296) (ht : ShAt w) :
    Calls Tryd.prog 33 #[.int .u64 h, .int .i64 16] w fun e w' => (∃ n, 1 ≤ n ∧ n ≤ 8 ∧ h < 16 ^ n ∧ e = .returned (.string ⟨(low n h).toArray⟩)) ∧ Below w.heap.size w w' := by
  have h46 : Calls Tryd.prog 46 #[.int .u64 h, .int .i64 16] w fun e w' => (∃ n, 1 ≤ n ∧ n ≤ 8 ∧ h < 16 ^ n ∧ e = .returned (.string ⟨(low n h).toArray⟩)) ∧ Below w.heap.size w w' := by
    go_enter Tryd.func46, Tryd.ntmps46
    go_wp2_with (go_at_call 70; refine (formatBits_any h _ hh ht).mono ?_; rintro e w1 ⟨⟨n, h1, h2, h3, rfl⟩, hb⟩; have HB := hideH hb; clear hb)
    go_ret
    exact ⟨⟨n, h1, h2, h3, rfl⟩, HB.out⟩
  go_enter Tryd.func33, Tryd.ntmps33
  go_wp2_with (go_at_call 46; refine h46.mono ?_; rintro e w1 ⟨⟨n, h1, h2, h3, rfl⟩, hb⟩; have HB := hideH hb; clear hb)
  go_ret
  exact ⟨⟨n, h1, h2, h3, rfl⟩, HB.out⟩
end Go.Proofs.YtjlcmgfgbmcjpaaDoor
