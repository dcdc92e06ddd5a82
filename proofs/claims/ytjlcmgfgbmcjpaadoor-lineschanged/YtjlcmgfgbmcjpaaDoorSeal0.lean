/- Proved: what lines.Seal and the document's own Seal write of any text. -/
import Derived.Test.YtjlcmgfgbmcjpaaDoorHex1
import Derived.Test.YtjlcmgfgbmcjpaaDoorShelfS
namespace Go.Proofs.YtjlcmgfgbmcjpaaDoor
open Go.RowKit
set_option linter.unusedVariables false

theorem dataS {S : ByteArray} {l : List UInt8} (h : S.data.toList = l) : S = ⟨l.toArray⟩ := by cases S; subst h; simp
theorem sizeS (S : ByteArray) : S.data.toList.length = S.size := by simp
theorem repeat_zero (c : Nat) : Lib.repeatL [48] c = List.replicate c 48 := by
  induction c with
  | zero => rfl
  | succ c ih => rw [Lib.repeatL, ih]; rfl
/-- The sealed text. -/
def sealB (s : ByteArray) : ByteArray := ⟨(sealT s.data.toList).toArray⟩
theorem sealB_data (s : ByteArray) : (sealB s).data.toList = sealT s.data.toList := by simp [sealB]
theorem sealB_size (s : ByteArray) : (sealB s).size = s.size + 10 := by
  rw [← sizeS, sealB_data, sealT_length, sizeS]

theorem bytesS (a b : ByteArray) : (a ++ b).data.toList = a.data.toList ++ b.data.toList := by simp
theorem digits_b (h : Nat) (w : World) (hh : h < 4294967296) (ht : ShAt w) :
    Calls Tryd.prog 33 #[.int .u64 h, .int .i64 16] w fun e w' => ∃ (D : ByteArray) (n : Nat), e = .returned (.string D) ∧ n ≤ 8 ∧ D.size = n ∧ (h < 16 ^ n ∧ D.data.toList = low n h) ∧ Below w.heap.size w w' := by
  refine (formatUint_any h w hh ht).mono ?_
  rintro e w' ⟨⟨n, h1, h2, h3, rfl⟩, hb⟩
  have e1 : (⟨(low n h).toArray⟩ : ByteArray).data.toList = low n h := by simp
  exact ⟨_, n, rfl, h2, by rw [← sizeS, e1, low_length], ⟨h3, e1⟩, hb⟩
theorem noughts_b (c : Nat) (w : World) (hc : c ≤ 8) :
    Calls Tryd.prog 34 #[.string ⟨#[48]⟩, .int .i64 (c : Int)] w fun e w' => ∃ Z : ByteArray, e = .returned (.string Z) ∧ Z.size = c ∧ Z.data.toList = List.replicate c 48 ∧ Below w.heap.size w w' := by
  have e0 : (⟨#[48]⟩ : ByteArray).size = 1 := rfl
  refine (Tryd.strings_Repeat ⟨#[48]⟩ c w (by omega) (by rw [e0]; omega)).mono ?_
  rintro e w' ⟨rfl, hb⟩
  have e1 : (⟨(Lib.repeatL (⟨#[48]⟩ : ByteArray).data.toList c).toArray⟩ : ByteArray).data.toList = List.replicate c 48 := by
    rw [← repeat_zero]
  exact ⟨_, rfl, by rw [← sizeS, e1, List.length_replicate], e1, hb⟩
theorem clone_any (s : ByteArray) (w : World) (hs : s.size ≤ 1073741824) : Calls Tryd.prog 35 #[.string s] w fun e w' => e = .returned (.string s) ∧ Below w.heap.size w w' := by
  go_enter Tryd.func35, Tryd.ntmps35
  go_wp2_with (go_at_call 52; refine (Tryd.stringslite_Clone s _ (by omega)).mono ?_; rintro e w1 ⟨rfl, hb1⟩; have HB := hideH hb1; clear hb1)
  go_ret
  exact ⟨rfl, HB.out⟩

set_option maxHeartbeats 1000000 in
theorem seal_any (s : ByteArray) (w : World) (hs : s.size ≤ 1073741824) (ht : ShAt w) :
    Calls Tryd.prog 19 #[.string s] w fun e w' => e = .returned (.string (sealB s)) ∧ Below w.heap.size w w' := by
  obtain ⟨h, hh⟩ : ∃ h, h = fnv s.data.toList := ⟨_, rfl⟩
  have hlt : h < 4294967296 := by rw [hh]; exact fnv_lt _
  have hS := fun x : World => sum_any s x (by omega)
  have hsi : sumI s = (h : Int) := by rw [hh]; rfl
  simp only [hsi] at hS
  have HH := hideH hh
  clear hh hsi
  have hF := digits_b h w hlt ht
  go_enter Tryd.func19, Tryd.ntmps19
  go_wp2_with fail
  refine (hS _).mono ?_
  rintro e x1 ⟨rfl, hx⟩
  rw [hx]
  clear hx
  go_wp2_with fail
  refine hF.mono ?_
  rintro e x2 ⟨D, n, rfl, hn, hDs, hD, hb2⟩
  have HB2 := hideH hb2
  have HD := hideH hD
  obtain ⟨c, hc⟩ : ∃ c : Nat, (8 : Int) - (n : Int) = (c : Int) := ⟨8 - n, by omega⟩
  clear hb2 hD
  go_wp2_with fail
  refine (noughts_b c _ (by omega)).mono ?_
  rintro e x3 ⟨Z, rfl, hZs, hZ, hb3⟩
  have HB3 := hideH (HB2.out.trans (hb3.mono HB2.out.size))
  have HZ := hideH hZ
  clear hb3 hZ
  go_wp2
  go_ret
  refine ⟨?_, HB3.out⟩
  have e1 : (s ++ ⟨#[61]⟩ ++ Z ++ D ++ ⟨#[10]⟩) = sealB s := by
    refine (dataS ?_).trans rfl
    rw [bytesS, bytesS, bytesS, bytesS, HZ.out, HD.out.2, sealT, ← HH.out]
    have e2 : c + n = 8 := by omega
    rw [← e2, ← low_pad n h HD.out.1 c]
    simp
  exact congrArg (fun x => Ending.returned (.string x)) e1

/-! ### The document's own -/
theorem hex_piece (d : Nat) (h : d < 16) (wx : World) :
    (Instr.slice 9 (.string ⟨#[48, 49, 50, 51, 52, 53, 54, 55, 56, 57, 97, 98, 99, 100, 101, 102]⟩) (some (.int .i64 (d : Int))) (some (.int .i64 ((d : Int) + 1))) none).run Tryd.prog wx = .ok (.string ⟨#[hexDigit d]⟩) wx := by
  have hs : ((⟨#[48, 49, 50, 51, 52, 53, 54, 55, 56, 57, 97, 98, 99, 100, 101, 102]⟩ : ByteArray).size : Int) = 16 := rfl
  have := run_slice_string (P := Tryd.prog) wx 9 ⟨#[48, 49, 50, 51, 52, 53, 54, 55, 56, 57, 97, 98, 99, 100, 101, 102]⟩ .i64 .i64 (d : Int) ((d : Int) + 1) Tryd.underlying9 (by omega) (by omega) (by omega)
  rw [this]
  have key : ∀ d : Fin 16, (⟨#[48, 49, 50, 51, 52, 53, 54, 55, 56, 57, 97, 98, 99, 100, 101, 102]⟩ : ByteArray).extract d.val (d.val + 1) = ⟨#[hexDigit d.val]⟩ := by decide +kernel
  exact congrArg (fun x => Result.ok (Value.string x) wx) (key ⟨d, h⟩)
set_option maxRecDepth 100000 in
set_option maxHeartbeats 1000000 in
theorem refSeal_any (s : ByteArray) (w : World) (hs : s.size ≤ 1073741824) :
    Calls Tryd.prog 22 #[.string s] w fun e w' => e = .returned (.string (sealB s)) ∧ w' = w := by
  obtain ⟨h, hh⟩ : ∃ h, h = fnv s.data.toList := ⟨_, rfl⟩
  have hlt : h < 4294967296 := by rw [hh]; exact fnv_lt _
  have hS := fun x : World => refSum_any s x (by omega)
  have hsi : sumI s = (h : Int) := by rw [hh]; rfl
  simp only [hsi] at hS
  have HH := hideH hh
  clear hh hsi
  go_enter Tryd.func22, Tryd.ntmps22
  go_wp2_with fail
  refine (hS _).mono ?_
  rintro e x1 ⟨rfl, hx⟩
  rw [hx]
  clear hx
  go_wp2
  go_loop [3, 4, 5] (fun uv tv iv => ∃ (k u : Nat) (T : ByteArray), k ≤ 8 ∧ u ≤ h ∧ uv = .int .u32 u ∧ tv = .string T ∧ iv = .int .i64 k ∧ T.size = k ∧ Hid (u = h / 16 ^ k ∧ T.data.toList = low k h)) (fun _ _ iv => 8 - (intOf iv).toNat)
  case atStart => exact ⟨0, h, ⟨#[]⟩, by omega, Nat.le_refl _, rfl, rfl, rfl, rfl, by simp, rfl⟩
  case round =>
    obtain ⟨k, u, T, hk, hu, rfl, rfl, rfl, hT, ha⟩ := hrel
    by_cases hlt8 : k < 8
    · obtain ⟨d, hd⟩ : ∃ d, d = u % 16 := ⟨_, rfl⟩
      obtain ⟨q, hq⟩ : ∃ q, q = u / 16 := ⟨_, rfl⟩
      have hd16 : d < 16 := by omega
      have hmod : (u : Int) % 16 = (d : Int) := by omega
      have hdiv : (u : Int) / 16 = (q : Int) := by omega
      have hsl := fun wx => hex_piece d hd16 wx
      obtain ⟨X, hX⟩ : ∃ X : ByteArray, X = ⟨#[hexDigit d]⟩ := ⟨_, rfl⟩
      simp only [← hX] at hsl
      have hX1 : X.size = 1 := by rw [hX]; rfl
      have HE : Hid (q = h / 16 ^ (k + 1) ∧ (X ++ T).data.toList = low (k + 1) h) := by
        obtain ⟨e1, e2⟩ := ha.out
        refine ⟨by rw [hq, e1, Nat.pow_succ, Nat.div_div_eq_div_mul], ?_⟩
        rw [bytesS, e2, hX, low, ← e1, ← hd]; rfl
      have hqu : q ≤ h := by omega
      have hXT : (X ++ T).size = k + 1 := by rw [ByteArray.size_append]; omega
      clear hd hq hX
      go_wp2
      go_round
      case rel => exact ⟨k + 1, q, X ++ T, by omega, hqu, rfl, rfl, by go_num, hXT, HE.out⟩
      case measure => simp [intOf]; omega
    · obtain rfl : k = 8 := by omega
      go_wp2
      go_ret
      refine ⟨?_, rfl⟩
      have e1 : (s ++ ⟨#[61]⟩ ++ T ++ ⟨#[10]⟩) = sealB s := by
        refine (dataS ?_).trans rfl
        rw [bytesS, bytesS, bytesS, ha.out.2, sealT, ← HH.out]
        simp
      exact congrArg (fun x => Ending.returned (.string x)) e1
end Go.Proofs.YtjlcmgfgbmcjpaaDoor
