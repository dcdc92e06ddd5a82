/- Proved: the walk of CutWaits. -/
import Derived.Test.YtdfjmnckgcpmgaaLq
namespace Go.Proofs.Ytdfjmnckgcpmgaa
open Go.RowKit Go.Shelf
open K
set_option linter.unusedVariables false

theorem upto0 (i : Nat) : nob i = upto 0 i := by simp [nob, upto]
theorem upto_n {n i : Nat} (h : i < n) : upto n i = yes i := by simp [upto, yes, h]
theorem upto_s (j i : Nat) : too (upto j) j i = upto (j + 1) i := by
  unfold too upto
  by_cases p : i = j
  · simp [p]
  · simp [p]; omega
theorem RR.start {w W : World} {b m n : Nat} {k : Int} {o0 o1 le v r : Int} (h : Q w b W m n true k yes nob o0 o1 le v r) (hn : 1 ≤ n) : RR w b W m n 0 k o0 o1 le v r := ⟨fun _ => h.same (fun _ _ => rfl) (fun i _ => upto0 i), fun e => by omega⟩
set_option maxRecDepth 100000 in
set_option maxHeartbeats 4000000 in
theorem waits_walk (w : World) (x0 x1 x2 t0 t1 t2 : Int) (h0 : 0 ≤ x0 ∧ x0 ≤ 255) (h1 : 0 ≤ x1 ∧ x1 ≤ 255) (h2 : 0 ≤ x2 ∧ x2 ≤ 255) (g0 : 0 ≤ t0 ∧ t0 ≤ 65535) (g1 : 0 ≤ t1 ∧ t1 ≤ 65535) (g2 : 0 ≤ t2 ∧ t2 ≤ 65535) :
    Calls Try.prog 7 #[.int .u8 x0, .int .u8 x1, .int .u8 x2, .int .u16 t0, .int .u16 t1, .int .u16 t2] w fun e w' => e = .returned (.bool true) ∧ Below w.heap.size w w' := by
  obtain ⟨h0, h0'⟩ := h0
  obtain ⟨h1, h1'⟩ := h1
  obtain ⟨h2, h2'⟩ := h2
  obtain ⟨g0, g0'⟩ := g0
  obtain ⟨g1, g1'⟩ := g1
  obtain ⟨g2, g2'⟩ := g2
  obtain ⟨n, hn⟩ : ∃ n : Nat, 2 + x0 % 7 = n := ⟨(2 + x0 % 7).toNat, by omega⟩
  have hn2 : 2 ≤ n := by omega
  have hn8 : n ≤ 8 := by omega
  have hnI : 2 ≤ (n : Int) := by omega
  have hnI8 : (n : Int) ≤ 8 := by omega
  have ma := Int.emod_nonneg x1 (b := (n : Int)) (by omega)
  have ma' := Int.emod_lt_of_pos x1 (b := (n : Int)) (by omega)
  have mb := Int.emod_nonneg x2 (b := (n : Int)) (by omega)
  have mb' := Int.emod_lt_of_pos x2 (b := (n : Int)) (by omega)
  obtain ⟨a, ha⟩ : ∃ a : Nat, x1 % (n : Int) = a := ⟨(x1 % (n : Int)).toNat, by omega⟩
  obtain ⟨c, hc⟩ : ∃ c : Nat, x2 % (n : Int) = c := ⟨(x2 % (n : Int)).toNat, by omega⟩
  have han : a < n := by omega
  have hcn : c < n := by omega
  have ok0 := okT_small g0 (by omega)
  have ok1 := okT_small g1 (by omega)
  have ok2 := okT_small g2 (by omega)
  clear ma ma' mb mb'
  have NW := Q.new w n (by omega) hn8
  obtain ⟨b, hb⟩ : ∃ b, w.heap.size = b := ⟨_, rfl⟩
  rw [hb] at NW
  have F1 : Hid (∀ W, Q w b W 0 n false 0 nob nob 0 0 0 0 0 → Calls Try.prog 12 #[pp b, .int .i64 a, .int .i64 t0] W fun e w' => e = .returned (.tuple #[.int .i64 0, .int .i64 0]) ∧ Q w b w' 1 n false 0 nob nob 1 0 0 0 0) := fun W h => h.sent (by omega) han ok0 (q := 0) rfl
  have F2 : Hid (∀ W, Q w b W 1 n false 0 nob nob 1 0 0 0 0 → Calls Try.prog 10 #[pp b] W fun e w' => e = .returned (.int .i64 0) ∧ Q w b w' 1 n true 0 nob nob 1 0 inf 0 0) := fun W h => h.begin
  have F3 : Hid (∀ W j, j < n → Q w b W 1 n true 0 (upto j) nob 1 0 inf 0 0 → Calls Try.prog 16 #[pp b, .int .i64 (j : Nat)] W fun e w' => e = .returned (.int .i64 0) ∧ Q w b w' 1 n true 0 (upto (j + 1)) nob 1 0 inf 0 0) := fun W j hj h => (h.turn hj (by simp [upto])).mono fun e w' ⟨he, h2⟩ => ⟨he, h2.same (fun i _ => upto_s j i) (fun _ _ => rfl)⟩
  have F4 : Hid (∀ W, Q w b W 1 n true 0 yes nob 1 0 inf 0 0 → Calls Try.prog 12 #[pp b, .int .i64 c, .int .i64 t1] W fun e w' => e = .returned (.tuple #[.int .i64 1, .int .i64 0]) ∧ Q w b w' 2 n true 0 yes nob 1 1 t1 0 0) := fun W h => (h.sent (by omega) hcn ok1 (q := 1) rfl).mono fun e w' ⟨he, h2⟩ => ⟨he, by
    have em : (if yes c = true then min inf t1 else inf) = t1 := by show min (1125899906842624 : Int) t1 = t1; omega
    rw [em] at h2
    exact h2⟩
  have F5 : Hid (∀ W m j, m ≤ 100 → j < n → Q w b W m n true 0 yes nob 1 1 t1 0 0 → Calls Try.prog 18 #[pp b, .int .i64 (j : Nat), .int .i64 t2] W fun e w' => e = .returned (.int .i64 150) ∧ Q w b w' (m + 1) n true 0 yes nob 1 1 t1 0 0) := fun W m j hm hj h => h.reportI (by omega) hj ok2 (fun _ _ => rfl) rfl (by decide)
  have F6 : Hid (∀ W m, m ≤ 100 → Q w b W m n true 0 yes nob 1 1 t1 0 0 → Calls Try.prog 14 #[pp b, .int .i64 c, .int .i64 0] W fun e w' => e = .returned (.int .i64 0) ∧ Q w b w' m n true 0 yes nob 0 1 t1 0 0) := fun W m hm h => h.got (by omega) hcn (.inl rfl) (by decide)
  have F7 : Hid (∀ W m, m ≤ 100 → Q w b W m n true 0 yes nob 0 1 t1 0 0 → Calls Try.prog 14 #[pp b, .int .i64 c, .int .i64 0] W fun e w' => e = .returned (.int .i64 1) ∧ Q w b w' m n true 0 yes nob 0 1 t1 0 0) := fun W m hm h => h.got0 (by omega) c rfl
  have F8 : Hid (∀ W m j le, m ≤ 100 → j < n → RR w b W m n j 0 0 1 le 0 0 → Calls Try.prog 18 #[pp b, .int .i64 (j : Nat), .int .i64 t2] W fun e w' => e = .returned (.int .i64 0) ∧ RR w b w' (m + 1) n (j + 1) 0 0 1 (min le t2) 0 0) := fun W m j le hm hj h => h.step (by omega) hj ok2 (by decide)
  obtain ⟨mn, hmn⟩ : ∃ mn, min t1 t2 = mn := ⟨_, rfl⟩
  have hmn0 : 0 ≤ mn := by omega
  have F9 : Hid (∀ W m, m ≤ 100 → Q w b W m n false 1 nob nob 0 1 0 mn 1 → Calls Try.prog 14 #[pp b, .int .i64 a, .int .i64 1] W fun e w' => e = .returned (.int .i64 0) ∧ Q w b w' m n false 1 nob nob 0 0 0 mn 1) := fun W m hm h => h.got (by omega) han (.inr rfl) (by decide)
  have Hhn : Hid (2 + x0 % 7 = n) := hn
  clear ok0 ok1 ok2 hb
  go_enter Try.func7, Try.ntmps7
  go_wp2_with (first | (go_at_call 8; refine NW.mono ?_; rintro e w1 ⟨rfl, h1⟩; have H1 : Hid _ := h1; clear h1 NW) | (go_at_call 12; refine (Hid.out F1 _ (Hid.out H1)).mono ?_; rintro e w2 ⟨rfl, h2⟩; have H2 : Hid _ := h2; clear h2) | (go_at_call 10; refine (Hid.out F2 _ (Hid.out H2)).mono ?_; rintro e w3 ⟨rfl, h3⟩; have H3 : Hid _ := h3; clear h3))
  go_loopw [20] (fun s20 wr => ∃ j : Nat, s20 = .int .i64 j ∧ j ≤ n ∧ Hid (Q w b wr 1 n true 0 (upto j) nob 1 0 inf 0 0)) (fun s20 _ => n - (intOf s20).toNat)
  case atStart => exact ⟨0, rfl, Nat.zero_le _, (H3.out.same (fun i _ => upto0 i) (fun _ _ => rfl) : Q w b w3 1 n true 0 (upto 0) nob 1 0 inf 0 0)⟩
  case round =>
    obtain ⟨j, rfl, hj, HN⟩ := hrel
    by_cases hlt : j < n
    · have hlt' : (j : Int) < (n : Int) := by omega
      go_wp2_with (go_at_call 16; refine (Hid.out F3 _ _ hlt (Hid.out HN)).mono ?_; rintro e w4 ⟨rfl, h4⟩; have H4 : Hid _ := h4; clear h4)
      go_roundw
      case rel => exact ⟨j + 1, by go_num, by omega, H4.out⟩
      case measure => simp [intOf]; omega
    · obtain rfl : j = n := by omega
      have HY : Hid (Q w b wr 1 j true 0 yes nob 1 0 inf 0 0) := HN.out.same (fun i hi => upto_n hi) (fun _ _ => rfl)
      go_wp2_with (go_at_call 12; refine (Hid.out F4 _ (Hid.out HY)).mono ?_; rintro e w5 ⟨rfl, h5⟩; have H5 : Hid _ := h5; clear h5)
      go_loopw [23] (fun s23 wr => ∃ i : Nat, s23 = .int .i64 i ∧ i ≤ j ∧ Hid (Q w b wr (2 + i) j true 0 yes nob 1 1 t1 0 0)) (fun s23 _ => j - (intOf s23).toNat)
      case atStart => exact ⟨0, rfl, Nat.zero_le _, H5.out⟩
      case round =>
        obtain ⟨i, rfl, hi, HM⟩ := hrel
        by_cases hlt2 : i < j
        · have hlt' : (i : Int) < (j : Int) := by omega
          go_wp2_with (go_at_call 18; refine (Hid.out F5 _ _ _ (by omega) hlt2 (Hid.out HM)).mono ?_; rintro e w6 ⟨rfl, h6⟩; have H6 : Hid _ := h6; clear h6)
          go_roundw
          case rel => exact ⟨i + 1, by go_num, by omega, H6.out⟩
          case measure => simp [intOf]; omega
        · obtain rfl : i = j := by omega
          go_wp2_with (first | (go_at_call 14; refine (Hid.out F7 _ _ (by omega) (Hid.out H7)).mono ?_; rintro e w8 ⟨rfl, h8⟩; have H8 : Hid _ := h8; clear h8) | (go_at_call 14; refine (Hid.out F6 _ _ (by omega) (Hid.out HM)).mono ?_; rintro e w7 ⟨rfl, h7⟩; have H7 : Hid _ := h7; clear h7))
          go_loopw [24] (fun s24 wr => ∃ (q : Nat) (le : Int), s24 = .int .i64 q ∧ q ≤ i ∧ Hid (RR w b wr (2 + i + q) i q 0 0 1 le 0 0) ∧ Hid (q = 0 ∧ le = t1 ∨ le = mn)) (fun s24 _ => i - (intOf s24).toNat)
          case atStart => exact ⟨0, t1, rfl, Nat.zero_le _, RR.start H8.out (by omega), .inl ⟨rfl, rfl⟩⟩
          case round =>
            obtain ⟨q, le, rfl, hq, HR, HL⟩ := hrel
            by_cases hlt3 : q < i
            · have hlt' : (q : Int) < (i : Int) := by omega
              go_wp2_with (go_at_call 18; refine (Hid.out F8 _ _ _ _ (by omega) hlt3 (Hid.out HR)).mono ?_; rintro e w9 ⟨rfl, h9⟩; have H9 : Hid _ := h9; clear h9)
              go_roundw
              case rel => exact ⟨q + 1, min le t2, by go_num, by omega, H9.out, .inr (by rcases HL.out with ⟨_, e⟩ | e <;> omega)⟩
              case measure => simp [intOf]; omega
            · obtain rfl : q = i := by omega
              have HE : Hid (Q w b wr (2 + q + q) q false 1 nob nob 0 1 0 mn 1) := by
                have := HR.out.fin rfl
                have e1 : le = mn := by rcases HL.out with ⟨_, e⟩ | e <;> omega
                rw [e1, show max 0 mn = mn by omega] at this
                exact this
              go_wp2_with (first | (go_at_call 20; refine (Q.value (Hid.out HE)).mono ?_; rintro e w' ⟨rfl, rfl⟩) | (go_at_call 21; refine (Q.rounds (Hid.out HE)).mono ?_; rintro e w' ⟨rfl, rfl⟩) | (go_at_call 14; refine (Hid.out F9 _ _ (by omega) (Hid.out HE)).mono ?_; rintro e w10 ⟨rfl, h10⟩; have H10 : Hid _ := h10; clear h10))
              go_ret
              exact ⟨rfl, H10.out.bel⟩
end Go.Proofs.Ytdfjmnckgcpmgaa
