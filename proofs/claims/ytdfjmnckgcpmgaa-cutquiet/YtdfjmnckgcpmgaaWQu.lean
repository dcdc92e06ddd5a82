/- Proved: the walk of CutQuiet. -/
import Derived.Test.YtdfjmnckgcpmgaaWWa
import Derived.Test.YtdfjmnckgcpmgaaNum
namespace Go.Proofs.Ytdfjmnckgcpmgaa
open Go.RowKit Go.Shelf
open K
set_option linter.unusedVariables false

set_option maxRecDepth 100000 in
set_option maxHeartbeats 4000000 in
theorem quiet_walk (w : World) (sa : Option Addr) (sc : Nat) (z : List Int) (p : Int) (hz : InN .u16 65535 w sa z) (hl : z.length ≤ maxLen) (hp : 0 ≤ p ∧ p ≤ 255) :
    Calls Try.prog 5 #[.slice sa z.length sc, .int .u8 p] w fun e w' => e = .returned (.bool true) ∧ Below w.heap.size w w' := by
  unfold maxLen at hl
  obtain ⟨p0, p1⟩ := hp
  by_cases hz0 : z.length = 0
  · have NN := new_no w 0 (by omega)
    have hm : min (z.length : Int) 8 = 0 := by omega
    have hzI : (z.length : Int) = 0 := by omega
    clear hz hz0
    generalize z.length = L at hl hm hzI ⊢
    go_enter Try.func5, Try.ntmps5
    go_wp2_with (go_at_call 8; refine NN.mono ?_; rintro e w1 ⟨rfl, rfl⟩)
    go_ret
    exact ⟨rfl, Below.refl _ _⟩
  obtain ⟨n, hn⟩ : ∃ n : Nat, min (z.length : Int) 8 = n := ⟨(min (z.length : Int) 8).toNat, by omega⟩
  have hn1 : 1 ≤ n := by omega
  have hn8 : n ≤ 8 := by omega
  have hnz : n ≤ z.length := by omega
  have hnI : ¬ (n : Int) < 1 := by omega
  have hnI8 : (n : Int) ≤ 8 := by omega
  obtain ⟨R, hR⟩ : ∃ R : Nat, 1 + p % 5 = R := ⟨(1 + p % 5).toNat, by omega⟩
  have hR5 : R ≤ 5 := by omega
  have NW := Q.new w n hn1 hn8
  obtain ⟨b, hb⟩ : ∃ b, w.heap.size = b := ⟨_, rfl⟩
  rw [hb] at NW
  have HZ : Hid (InN .u16 65535 w sa z) := hz
  obtain ⟨L, hL⟩ : ∃ L, z.length = L := ⟨_, rfl⟩
  rw [hL] at hn hnz hl ⊢
  have HLZ : Hid (z.length = L) := hL
  clear hz hb hz0 hL
  go_enter Try.func5, Try.ntmps5
  go_wp2_with (go_at_call 8; refine NW.mono ?_; rintro e w1 ⟨rfl, h1⟩; have H1 : Hid _ := h1; clear h1 NW)
  go_loopw [10, 11] (fun s10 s11 wr => ∃ (r m : Nat) (v k : Int), s11 = .int .i64 r ∧ r ≤ R ∧ s10 = .int .i64 v ∧ Hid (m ≤ 16 * r) ∧ Hid (k = (r : Int) % 2) ∧ Hid (Q w b wr m n false k nob nob 0 0 0 v r)) (fun _ s11 _ => R - (intOf s11).toNat)
  case atStart => exact ⟨0, 0, 0, 0, rfl, Nat.zero_le _, rfl, (Nat.zero_le _ : 0 ≤ 16 * 0), (rfl : (0 : Int) = ((0 : Nat) : Int) % 2), H1.out⟩
  case round =>
    obtain ⟨r, m, v, k, rfl, hr, rfl, HM, HK, HQ⟩ := hrel
    by_cases hlt : r < R
    · have hlt' : (r : Int) < (R : Int) := by omega
      have hm80 : m ≤ 80 := by have := HM.out; omega
      have B1 := Q.begin HQ.out
      have B2 : Hid (∀ W, Q w b W m n true k nob nob 0 0 inf v r → Calls Try.prog 10 #[pp b] W fun e w' => e = .returned (.int .i64 130) ∧ Q w b w' m n true k nob nob 0 0 inf v r) := fun W h => h.begin2
      go_wp2_with (first | (go_at_call 10; refine (Hid.out B2 _ (Hid.out H2)).mono ?_; rintro e w3 ⟨rfl, h3⟩; have H3 : Hid _ := h3; clear h3) | (go_at_call 10; refine B1.mono ?_; rintro e w2 ⟨rfl, h2⟩; have H2 : Hid _ := h2; clear h2))
      have F1 : Hid (∀ W m' j, m' ≤ 100 → j < n → Q w b W m' n true k (upto j) nob 0 0 inf v r → Calls Try.prog 18 #[pp b, .int .i64 (j : Nat), .int .i64 0] W fun e w' => e = .returned (.int .i64 130) ∧ Q w b w' (m' + 1) n true k (upto j) nob 0 0 inf v r) := fun W m' j hm hj h => h.reportO (by omega) hj (by decide) hj (by simp [upto])
      have F2 : Hid (∀ W m' j, j < n → Q w b W m' n true k (upto j) nob 0 0 inf v r → Calls Try.prog 16 #[pp b, .int .i64 (j : Nat)] W fun e w' => e = .returned (.int .i64 0) ∧ Q w b w' m' n true k (upto (j + 1)) nob 0 0 inf v r) := fun W m' j hj h => (h.turn hj (by simp [upto])).mono fun e w' ⟨he, h2⟩ => ⟨he, h2.same (fun i _ => upto_s j i) (fun _ _ => rfl)⟩
      have F3 : Hid (∀ W m' j, j < n → Q w b W m' n true k (upto (j + 1)) nob 0 0 inf v r → Calls Try.prog 16 #[pp b, .int .i64 (j : Nat)] W fun e w' => e = .returned (.int .i64 130) ∧ Q w b w' m' n true k (upto (j + 1)) nob 0 0 inf v r) := fun W m' j hj h => h.turn2 hj (by simp [upto])
      go_loopw [13] (fun s13 wr => ∃ j : Nat, s13 = .int .i64 j ∧ j ≤ n ∧ Hid (Q w b wr (m + j) n true k (upto j) nob 0 0 inf v r)) (fun s13 _ => n - (intOf s13).toNat)
      case atStart => exact ⟨0, rfl, Nat.zero_le _, H3.out.same (fun i _ => upto0 i) (fun _ _ => rfl)⟩
      case round =>
        obtain ⟨j, rfl, hj, HN⟩ := hrel
        by_cases hlt2 : j < n
        · have hlt2' : (j : Int) < (n : Int) := by omega
          go_wp2_with (first | (go_at_call 16; refine (Hid.out F3 _ _ _ hlt2 (Hid.out H5)).mono ?_; rintro e w6 ⟨rfl, h6⟩; have H6 : Hid _ := h6; clear h6) | (go_at_call 16; refine (Hid.out F2 _ _ _ hlt2 (Hid.out H4)).mono ?_; rintro e w5 ⟨rfl, h5⟩; have H5 : Hid _ := h5; clear h5) | (go_at_call 18; refine (Hid.out F1 _ _ _ (by omega) hlt2 (Hid.out HN)).mono ?_; rintro e w4 ⟨rfl, h4⟩; have H4 : Hid _ := h4; clear h4))
          go_roundw
          case rel => exact ⟨j + 1, by go_num, by omega, H6.out⟩
          case measure => simp [intOf]; omega
        · obtain rfl : j = n := by omega
          have HY : Hid (Q w b wr (m + j) j true k yes nob 0 0 inf v r) := HN.out.same (fun i hi => upto_n hi) (fun _ _ => rfl)
          go_wp2_with fail
          go_loopw [12, 14] (fun s12 s14 wr => ∃ (i : Nat) (le : Int), s14 = .int .i64 i ∧ i ≤ j ∧ s12 = .int .i64 le ∧ Hid (RR w b wr (m + j + i) j i k 0 0 le v r)) (fun _ s14 _ => j - (intOf s14).toNat)
          case atStart => exact ⟨0, 1125899906842624, rfl, Nat.zero_le _, rfl, RR.start HY.out hn1⟩
          case round =>
            obtain ⟨i, le, rfl, hi, rfl, HR⟩ := hrel
            by_cases hlt3 : i < j
            · have hlt3' : (i : Int) < (j : Int) := by omega
              have hiL : i < z.length := by rw [HLZ.out]; omega
              have hiL' : (i : Int) < (L : Int) := by omega
              obtain ⟨x0, x1, xb, off, rfl, hxb, hcs⟩ := InN.cell HZ.out hiL
              have cx := hcs _ (HR.out.bel hi)
              obtain ⟨x, hx⟩ : ∃ x, nthI z i = x := ⟨_, rfl⟩
              rw [hx] at x0 x1 cx
              obtain ⟨t, ht⟩ : ∃ t, x * ((r : Int) + 1) = t := ⟨_, rfl⟩
              have t0 : 0 ≤ t := by rw [← ht]; exact Int.mul_nonneg x0 (by omega)
              have t1 : t ≤ 400000 := by
                rw [← ht]
                have : x * ((r : Int) + 1) ≤ 65535 * 6 := Int.mul_le_mul x1 (by omega) (by omega) (by omega)
                omega
              have UN := (HR.out.go hlt3).under
              have RE : Hid (∀ W, RR w b W (m + j + i) j i k 0 0 le v r → Calls Try.prog 18 #[pp b, .int .i64 (i : Nat), .int .i64 t] W fun e w' => e = .returned (.int .i64 0) ∧ RR w b w' (m + j + i + 1) j (i + 1) k 0 0 (min le t) v r) := fun W h => h.step (by omega) hlt3 (okT_small t0 (by omega)) (by unfold onK; split <;> decide)
              clear hcs hx hxb
              go_wp2_with (first | (go_at_call 22; refine UN.mono ?_; rintro e w' ⟨rfl, rfl⟩) | (go_at_call 18; refine (Hid.out RE _ (Hid.out HR)).mono ?_; rintro e w7 ⟨rfl, h7⟩; have H7 : Hid _ := h7; clear h7))
              go_roundw
              case rel => exact ⟨i + 1, min le t, by go_num, by omega, rfl, H7.out⟩
              case measure => simp [intOf]; omega
            · obtain rfl : i = j := by omega
              have HE := HR.out.fin rfl
              obtain ⟨mx, hmx⟩ : ∃ mx, max v le = mx := ⟨_, rfl⟩
              obtain ⟨q, hq⟩ : ∃ q, 1 - k = q := ⟨_, rfl⟩
              rw [hmx, hq] at HE
              have hq2 : ((r : Int) + 1) % 2 = q := by have := HK.out; omega
              have CO : Calls Try.prog 23 #[pp b, .int .i64 0] wr fun e w' => e = .returned (.int .i64 q) ∧ wr = w' := HE.colour (i := 0) (by omega)
              have V1 := HE.value
              have V2 := HE.rounds
              have V3 := HE.under
              have H8 : Hid (Q w b wr (m + i + i) i false q nob nob 0 0 0 mx (r + 1)) := HE
              clear HE hq
              go_wp2_with (first | (go_at_call 22; refine V3.mono ?_; rintro e w' ⟨rfl, rfl⟩) | (go_at_call 20; refine V1.mono ?_; rintro e w' ⟨rfl, rfl⟩) | (go_at_call 21; refine V2.mono ?_; rintro e w' ⟨rfl, rfl⟩) | (go_at_call 23; refine CO.mono ?_; rintro e w' ⟨rfl, rfl⟩))
              go_roundw
              case rel => exact ⟨r + 1, m + i + i, mx, q, by go_num, by omega, rfl, (by have := HM.out; omega : m + i + i ≤ 16 * (r + 1)), (by rw [← hq2]; rfl : q = ((r + 1 : Nat) : Int) % 2), H8.out⟩
              case measure => simp [intOf]; omega
    · obtain rfl : r = R := by omega
      go_wp2
      go_ret
      exact ⟨rfl, HQ.out.bel⟩
end Go.Proofs.Ytdfjmnckgcpmgaa
