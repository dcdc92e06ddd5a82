/- Proved: what the document's own Int and Num tell is what lines.Int and lines.Num tell. -/
import Derived.Test.YtjlcmgfgbmcjpaaDoorNum1
import Derived.WalkSpells
namespace Go.Proofs.YtjlcmgfgbmcjpaaDoor
open Go.RowKit
set_option linter.unusedVariables false

/-- The digits that are still to come; none for 0. -/
def pre (u : Nat) : List UInt8 := if u = 0 then [] else Lib.decDigits u
theorem pre_zero : pre 0 = [] := rfl
theorem pre_step (u : Nat) : Lib.decDigits u = pre (u / 10) ++ [UInt8.ofNat (48 + u % 10)] := by
  rw [Lib.decDigits]
  split
  · rename_i h
    have h1 : u / 10 = 0 := by omega
    have h2 : u % 10 = u := by omega
    rw [h1, h2]; rfl
  · rename_i h
    rw [pre, if_neg (by omega)]
theorem pre_pos {u : Nat} (h : 0 < u) : pre u = pre (u / 10) ++ [UInt8.ofNat (48 + u % 10)] := by
  rw [← pre_step, pre, if_neg (by omega)]
theorem digit_piece (d : Nat) (h : d < 10) (wx : World) :
    (Instr.slice 9 (.string ⟨#[48, 49, 50, 51, 52, 53, 54, 55, 56, 57]⟩) (some (.int .i64 (d : Int))) (some (.int .i64 ((d : Int) + 1))) none).run Tryd.prog wx = .ok (.string ⟨#[UInt8.ofNat (48 + d)]⟩) wx := by
  have hs : ((⟨#[48, 49, 50, 51, 52, 53, 54, 55, 56, 57]⟩ : ByteArray).size : Int) = 10 := rfl
  have := run_slice_string (P := Tryd.prog) wx 9 ⟨#[48, 49, 50, 51, 52, 53, 54, 55, 56, 57]⟩ .i64 .i64 (d : Int) ((d : Int) + 1) Tryd.underlying9 (by omega) (by omega) (by omega)
  rw [this]
  have key : ∀ d : Fin 10, (⟨#[48, 49, 50, 51, 52, 53, 54, 55, 56, 57]⟩ : ByteArray).extract d.val (d.val + 1) = ⟨#[UInt8.ofNat (48 + d.val)]⟩ := by decide +kernel
  exact congrArg (fun x => Result.ok (Value.string x) wx) (key ⟨d, h⟩)
theorem bytes_app (a b : ByteArray) : (a ++ b).data.toList = a.data.toList ++ b.data.toList := by simp
theorem size_le_of {S : ByteArray} {l : List UInt8} {n : Nat} (h : S.data.toList = l) (hl : l.length ≤ n) : S.size ≤ n := by
  have := congrArg List.length h
  simp at this; omega
theorem dec_len (u : Nat) (h : u ≤ 9223372036854775808) : (Lib.decDigits u).length ≤ 19 := by
  rw [Lib.decDigits_length]; exact nDigits_le 18 u (by omega)
theorem data_eq {S : ByteArray} {l : List UInt8} (h : S.data.toList = l) : S = ⟨l.toArray⟩ := by cases S; subst h; simp

set_option maxRecDepth 100000 in
set_option maxHeartbeats 1000000 in
theorem refInt_any (n : Int) (w : World) (h0 : -9223372036854775808 ≤ n) (h1 : n ≤ 9223372036854775807) :
    Calls Tryd.prog 18 #[.int .i64 n] w fun e w' => e = .returned (.string ⟨(Lib.itoa n).toArray⟩) ∧ w' = w := by
  by_cases hneg : n < 0
  · obtain ⟨N, hN⟩ : ∃ N : Nat, n = -(N : Int) := ⟨n.natAbs, by omega⟩
    have HI : Hid (Lib.itoa n = 45 :: Lib.decDigits N) := by
      show _ = _
      unfold Lib.itoa
      rw [if_pos hneg, hN]; simp
    have hl := dec_len N (by omega)
    have hN0 : 0 < N := by omega
    subst hN
    go_enter Tryd.func18, Tryd.ntmps18
    go_wp2
    go_loop [0, 3] (fun v t => ∃ (u : Nat) (S : ByteArray), u ≤ N ∧ v = .int .i64 (-(u : Int)) ∧ t = .string S ∧ Hid (Lib.decDigits N = pre u ++ S.data.toList)) (fun v _ => (-(intOf v)).toNat)
    case atStart => exact ⟨N, ⟨#[]⟩, Nat.le_refl _, rfl, rfl, by show _ = _; rw [pre, if_neg (by omega)]; simp⟩
    case round =>
      obtain ⟨u, S, hu, rfl, rfl, hh⟩ := hrel
      have hS : S.size ≤ 19 := by
        have := congrArg List.length hh.out
        rw [List.length_append] at this
        simp at this; omega
      by_cases hu0 : 0 < u
      · obtain ⟨d, hd⟩ : ∃ d, d = u % 10 := ⟨_, rfl⟩
        obtain ⟨q, hq⟩ : ∃ q, q = u / 10 := ⟨_, rfl⟩
        have hd10 : d < 10 := by omega
        have hrem : Int.tmod (-(u : Int)) 10 = -(d : Int) := by rw [Int.neg_tmod, Int.tmod_eq_emod_of_nonneg (by omega)]; omega
        have hquo : Int.tdiv (-(u : Int)) 10 = -(q : Int) := by rw [Int.neg_tdiv, Int.tdiv_eq_ediv_of_nonneg (by omega)]; omega
        have hsl := fun wx => digit_piece d hd10 wx
        obtain ⟨D, hD⟩ : ∃ D : ByteArray, D = ⟨#[UInt8.ofNat (48 + d)]⟩ := ⟨_, rfl⟩
        simp only [← hD] at hsl
        have hD1 : D.size = 1 := by rw [hD]; rfl
        have HE : Hid (Lib.decDigits N = pre q ++ (D ++ S).data.toList) := by
          show _ = _
          rw [hh.out, pre_pos hu0, ← hd, ← hq, bytes_app, hD]; simp
        clear hD
        have hqu : q < u := by omega
        have hneg' : -(u : Int) < 0 := by omega
        clear hd hq
        go_wp2
        go_round
        case rel => exact ⟨q, _, by omega, rfl, rfl, HE.out⟩
        case measure => simp [intOf]; omega
      · obtain rfl : u = 0 := by omega
        have hz : (-((0 : Nat) : Int)) = 0 := rfl
        go_wp2
        go_ret
        refine ⟨?_, rfl⟩
        have e := hh.out
        rw [pre_zero, List.nil_append] at e
        rw [HI.out, e]
        have e2 : ((⟨#[45]⟩ : ByteArray) ++ S) = ⟨(45 :: S.data.toList).toArray⟩ := data_eq (by rw [bytes_app]; rfl)
        exact congrArg (fun x => Ending.returned (.string x)) e2
  · obtain ⟨N, hN⟩ : ∃ N : Nat, n = (N : Int) := ⟨n.natAbs, by omega⟩
    have HI : Hid (Lib.itoa n = Lib.decDigits N) := by
      show _ = _
      unfold Lib.itoa
      rw [if_neg hneg, hN]; simp
    have hl := dec_len N (by omega)
    subst hN
    obtain ⟨d, hd⟩ : ∃ d, d = N % 10 := ⟨_, rfl⟩
    obtain ⟨q, hq⟩ : ∃ q, q = N / 10 := ⟨_, rfl⟩
    have hd10 : d < 10 := by omega
    have hrem : (N : Int) % 10 = (d : Int) := by omega
    have hquo : (N : Int) / 10 = (q : Int) := by omega
    have hsl := fun wx => digit_piece d hd10 wx
    obtain ⟨D, hD⟩ : ∃ D : ByteArray, D = ⟨#[UInt8.ofNat (48 + d)]⟩ := ⟨_, rfl⟩
    simp only [← hD] at hsl
    have HE : Hid (Lib.decDigits N = pre q ++ D.data.toList) := by
      show _ = _
      rw [pre_step, ← hd, ← hq, hD]
    clear hD
    have hqN : q ≤ N := by omega
    clear hd hq
    go_enter Tryd.func18, Tryd.ntmps18
    go_wp2
    go_loop [0, 5] (fun v t => ∃ (u : Nat) (S : ByteArray), u ≤ N ∧ v = .int .i64 (u : Int) ∧ t = .string S ∧ Hid (Lib.decDigits N = pre u ++ S.data.toList)) (fun v _ => (intOf v).toNat)
    case atStart => exact ⟨q, _, hqN, rfl, rfl, HE.out⟩
    case round =>
      clear hrem hquo hsl HE
      obtain ⟨u, S, hu, rfl, rfl, hh⟩ := hrel
      have hS : S.size ≤ 19 := by
        have := congrArg List.length hh.out
        rw [List.length_append] at this
        simp at this; omega
      by_cases hu0 : 0 < u
      · obtain ⟨d', hd⟩ : ∃ d, d = u % 10 := ⟨_, rfl⟩
        obtain ⟨q', hq⟩ : ∃ q, q = u / 10 := ⟨_, rfl⟩
        have hd10' : d' < 10 := by omega
        have hrem : (u : Int) % 10 = (d' : Int) := by omega
        have hquo : (u : Int) / 10 = (q' : Int) := by omega
        have hsl := fun wx => digit_piece d' hd10' wx
        obtain ⟨D', hD⟩ : ∃ D : ByteArray, D = ⟨#[UInt8.ofNat (48 + d')]⟩ := ⟨_, rfl⟩
        simp only [← hD] at hsl
        have hD1 : D'.size = 1 := by rw [hD]; rfl
        have HE : Hid (Lib.decDigits N = pre q' ++ (D' ++ S).data.toList) := by
          show _ = _
          rw [hh.out, pre_pos hu0, ← hd, ← hq, bytes_app, hD]; simp
        clear hD
        have hqu : q' < u := by omega
        clear hd hq
        go_wp2
        go_round
        case rel => exact ⟨q', _, by omega, rfl, rfl, HE.out⟩
        case measure => simp [intOf]; omega
      · obtain rfl : u = 0 := by omega
        go_wp2
        go_ret
        refine ⟨?_, rfl⟩
        have e := hh.out
        rw [pre_zero, List.nil_append] at e
        rw [HI.out, e]
        exact congrArg (fun x => Ending.returned (.string x)) (data_eq rfl)
end Go.Proofs.YtjlcmgfgbmcjpaaDoor
