/- Proved: the walk of the statement on bodies that are sent on. -/
import Derived.Test.YtddjfjecamcfnaaOpw
namespace Go.Proofs.Ytddjfjecamcfnaa
open Go.RowKit
set_option linter.unusedVariables false

theorem vadd_small {t d : Int} (h0 : 0 ≤ t) (h1 : t ≤ 100000) (h2 : 0 ≤ d) (h3 : d ≤ 255) : vadd t d = t + d := by
  unfold vadd
  rw [cnt_mid h0 (by omega), cnt_mid h2 (by omega), cnt_mid (by omega) (by omega)]
theorem vadd_35 : vadd 3 5 = 8 := by decide

set_option maxRecDepth 100000 in
set_option maxHeartbeats 2000000 in
theorem bodies_walk (w : World) (b0 : Int) (a1 : Option Addr) (n1 c1 : Nat) (z1 : List Int) (a2 : Option Addr) (n2 c2 : Nat) (z2 : List Int) (hb0 : 0 ≤ b0 ∧ b0 ≤ 65535) (hn1 : n1 ≤ maxLen) (h1 : InW w a1 n1 z1) (hn2 : n2 ≤ maxLen) (h2 : InB w a2 n2 z2) :
    Calls Try.prog 8 #[.int .u16 b0, .slice a1 n1 c1, .slice a2 n2 c2] w fun e w' => e = .returned (.bool true) ∧ Below w.heap.size w w' := by
  have HB1 := h1.1
  have HB2 := h2.1
  have H1 : Hid _ := h1.2
  have H2 : Hid _ := h2.2
  have HQ1 : Hid _ := HB1
  have HQ2 : Hid _ := HB2
  obtain ⟨hb00, hb01⟩ := hb0
  unfold maxLen at hn1 hn2
  clear h1 h2 HB1 HB2
  by_cases hl : (60 : Int) < (n1 : Int)
  · go_enter Try.func8, Try.ntmps8
    go_wp2
    go_ret
    exact ⟨rfl, Below.refl _ _⟩
  · go_enter Try.func8, Try.ntmps8
    go_wp2_with fail
    go_loopw [7, 8, 9, 10, 11] (fun s7 s8 s9 s10 s11 wr => ∃ (k : Nat) (u t : Int), k ≤ n1 ∧ s11 = .int .i64 k ∧ s7 = .int .i64 (u % 1000) ∧ s9 = .int .i64 u ∧ s8 = .int .i64 t ∧ s10 = .int .i64 t ∧ 0 ≤ u ∧ u ≤ 1000 * (k : Int) + 1000 ∧ 0 ≤ t ∧ t ≤ 255 * (k : Int) ∧ Below w.heap.size w wr) (fun _ _ _ _ s11 _ => n1 - (intOf s11).toNat)
    case atStart => exact ⟨0, b0 % 1000, 0, Nat.zero_le _, rfl, by simp, rfl, rfl, rfl, by omega, by omega, by omega, by omega, Below.refl _ _⟩
    case round =>
      obtain ⟨k, u, t, hk, rfl, rfl, rfl, rfl, rfl, hu0, hu1, ht0, ht1, hbw⟩ := hrel
      by_cases hkl : k < n1
      · have hk' : (k : Int) < (n1 : Int) := by omega
        obtain ⟨b, off, rfl, hb, hc⟩ := H1.out (by omega)
        have x0 := (hbw.cell (p := ⟨b, off + k, none⟩) hb).trans (hc k hkl)
        have hA := HQ1.out k
        obtain ⟨A, hAe⟩ : ∃ A, z1.getD k 0 = A := ⟨_, rfl⟩
        rw [hAe] at x0 hA
        clear hAe hc
        have hbr : b < wr.heap.size := Nat.lt_of_lt_of_le hb hbw.size
        have e1 : (u % 1000 + A % 1000) % 1000 = (u + A % 1000) % 1000 := by omega
        by_cases hd : k < n2
        · have hd' : (k : Int) < (n2 : Int) := by omega
          obtain ⟨b2, off2, rfl, hbb2, hc2⟩ := H2.out (by omega)
          have y0 := (hbw.cell (p := ⟨b2, off2 + k, none⟩) hbb2).trans (hc2 k hd)
          have hD := HQ2.out k
          obtain ⟨D, hDe⟩ : ∃ D, z2.getD k 0 = D := ⟨_, rfl⟩
          rw [hDe] at y0 hD
          clear hDe hc2
          have S1 := sent_any wr 3 k t (u % 1000) 1 D (A % 1000)
          dsimp only [sentV] at S1
          rw [vadd_small ht0 (by omega) hD.1 hD.2, e1] at S1
          obtain ⟨r, hr⟩ : ∃ r, (u + A % 1000) % 1000 = r := ⟨_, rfl⟩
          obtain ⟨s, hs⟩ : ∃ s, t + D = s := ⟨_, rfl⟩
          obtain ⟨v, hv⟩ : ∃ v, u + A % 1000 = v := ⟨_, rfl⟩
          rw [hr, hs] at S1
          have HR : Hid _ := hr
          have HV : Hid _ := hv
          obtain ⟨hA0, hA1⟩ := hA
          obtain ⟨hD0, hD1⟩ := hD
          clear hr
          go_wp2_with (go_at_call 17; refine S1.mono ?_; rintro e w1 ⟨rfl, hb1⟩; have x1 := (hb1.cell (p := ⟨b, off + k, none⟩) hbr).trans x0; have hbr1 : b < w1.heap.size := Nat.lt_of_lt_of_le hbr hb1.size)
          go_roundw
          case rel =>
            refine ⟨k + 1, v, s, by omega, by go_num, ?_, ?_, rfl, ?_, by omega, by omega, by omega, by omega, ?_⟩
            · rw [← HV.out, HR.out]
            · first | rfl | go_num | (rw [← HV.out]; go_num)
            · first | rfl | go_num | (rw [← hs]; go_num)
            · exact (hbw.trans (hb1.mono hbw.size)).alloc (Nat.le_trans hbw.size hb1.size) _
          case measure => simp [intOf]; omega
        · have hd' : ¬ (k : Int) < (n2 : Int) := by omega
          have S1 := sent_any wr 3 k t (u % 1000) 1 0 (A % 1000)
          dsimp only [sentV] at S1
          rw [vadd_small ht0 (by omega) (by omega) (by omega), e1, Int.add_zero] at S1
          obtain ⟨r, hr⟩ : ∃ r, (u + A % 1000) % 1000 = r := ⟨_, rfl⟩
          obtain ⟨v, hv⟩ : ∃ v, u + A % 1000 = v := ⟨_, rfl⟩
          rw [hr] at S1
          have HR : Hid _ := hr
          have HV : Hid _ := hv
          obtain ⟨hA0, hA1⟩ := hA
          clear hr
          go_wp2_with (go_at_call 17; refine S1.mono ?_; rintro e w1 ⟨rfl, hb1⟩; have x1 := (hb1.cell (p := ⟨b, off + k, none⟩) hbr).trans x0; have hbr1 : b < w1.heap.size := Nat.lt_of_lt_of_le hbr hb1.size)
          go_roundw
          case rel =>
            refine ⟨k + 1, v, t, by omega, by go_num, ?_, ?_, rfl, ?_, by omega, by omega, by omega, by omega, ?_⟩
            · rw [← HV.out, HR.out]
            · first | rfl | go_num | (rw [← HV.out]; go_num)
            · first | rfl | go_num
            · exact (hbw.trans (hb1.mono hbw.size)).alloc (Nat.le_trans hbw.size hb1.size) _
          case measure => simp [intOf]; omega
      · obtain rfl : k = n1 := by omega
        have S1 := sent_any wr 1 2 3 4 0 5 0
        dsimp only [sentV] at S1
        rw [vadd_35, show ((4 : Int) + 0) % 1000 = 4 from rfl] at S1
        have hfd : ∀ w : World, (Instr.field 37 (.agg #[.int .i64 8, .int .i64 1, .int .i64 2, .int .i64 (-1), .int .i64 0, .int .i64 4]) 0).run Try.prog w = .ok (.agg #[.int .i64 8, .int .i64 1, .int .i64 2]) w := fun _ => by kernel_rfl
        go_wp2_with (go_at_call 17; refine S1.mono ?_; rintro e w1 ⟨rfl, hb1⟩)
        go_ret
        exact ⟨rfl, hbw.trans (hb1.mono hbw.size)⟩
end Go.Proofs.Ytddjfjecamcfnaa
