/- Proved: TreeMeets answers true, whatever it is asked; what lay in memory is as it was. -/
import Derived.Test.YtnaodfgchaccoaaCom
namespace Go.Proofs.Ytnaodfgchaccoaa
open Go.RowKit Go.Shelf
set_option linter.unusedVariables false

set_option maxRecDepth 100000 in
set_option maxHeartbeats 2000000 in
theorem meets_walk (w : World) (a : Option Addr) (n c : Nat) (z : List Int) (x y : Int) (hn : n ≤ maxLen) (h : InB w a n z) (hx : 0 ≤ x ∧ x ≤ 255) (hy : 0 ≤ y ∧ y ≤ 255) :
    Calls Try.prog 5 #[.slice a n c, .int .u8 x, .int .u8 y] w fun e w' => e = .returned (.bool true) ∧ Below w.heap.size w w' := by
  have MD := Tr.made (c := c) hn h
  clear h
  go_enter Try.func5, Try.ntmps5
  go_wp2_with (go_at_call 20; refine MD.mono ?_; rintro e w1 ⟨zs, a1, c1, rfl, T, hb1⟩; have hl1 := T.ok.1; have hl2 := T.ok.2.1; have HT : Hid (Tr w1 a1 zs) := T; clear MD T; have hnz := len_nz hl1; have hnz' : ¬ ((zs.length : Int) = 0) := (by omega); have hAb := mod_in hl1 x; have hBb := mod_in hl1 y; obtain ⟨A, hA⟩ : ∃ A, x % (zs.length : Int) = A := ⟨_, rfl⟩; obtain ⟨B, hB⟩ : ∃ B, y % (zs.length : Int) = B := ⟨_, rfl⟩; rw [hA] at hAb; rw [hB] at hBb)
  have hB1 := Below.refl w1.heap.size w1
  have M1 := Tr.meet (c := c1) HT.out A B hB1
  have M2 : Hid (∀ W, Below w1.heap.size w1 W → Calls Try.prog 18 #[.slice a1 zs.length c1, .int .i64 B, .int .i64 A] W _) := fun W (hb : Below w1.heap.size w1 W) => Tr.meet (c := c1) HT.out B A hb
  have M3 : Hid (∀ W, Below w1.heap.size w1 W → Calls Try.prog 19 #[.slice a1 zs.length c1, .int .i64 A, .int .i64 B] W _) := fun W (hb : Below w1.heap.size w1 W) => Tr.rmeet (c := c1) HT.out A B hb
  rw [meet_comm zs B A] at M2
  have hM := meet_range (Tr.ok HT.out) A B
  have HS : Hid _ := meet_spec zs A B
  obtain ⟨M, hMM⟩ : ∃ M, meet zs A B = M := ⟨_, rfl⟩
  rw [hMM] at M1 M2 M3 hM HS
  clear hMM
  have d1 : decide (M < -1) = false := by simp; omega
  have d2 : decide ((zs.length : Int) ≤ M) = false := by simp; omega
  refine M1.mono ?_
  rintro e w2 ⟨rfl, hB2⟩
  clear M1
  go_wp2_with (first
    | (go_at_call 18; refine (M2.out w2 hB2).mono ?_; rintro e w3 ⟨rfl, hB3⟩; clear M2 hB2)
    | (go_at_call 19; refine (M3.out w3 hB3).mono ?_; rintro e w4 ⟨rfl, hB4⟩; clear M3 hB3))
  go_loopw [11] (fun s wr => ∃ k : Nat, k ≤ zs.length ∧ s = .int .i64 k ∧ Hid (Below w1.heap.size w1 wr)) (fun s _ => zs.length - (intOf s).toNat)
  case atStart => exact ⟨0, Nat.zero_le _, rfl, hB4⟩
  case round =>
    obtain ⟨k, hk, rfl, HB⟩ := hrel
    clear hB4
    have hB5 := HB.out
    by_cases hkl : k < zs.length
    · have hk' : (k : Int) < (zs.length : Int) := by omega
      have I1 := Tr.isa (c := c1) HT.out A (k : Int) hB5
      by_cases h1 : (k : Int) ∈ abv zs A
      · rw [decide_eq_true h1] at I1
        have I2 : Hid (∀ W, Below w1.heap.size w1 W → Calls Try.prog 16 #[.slice a1 zs.length c1, .int .i64 B, .int .i64 k] W _) := fun W (hb : Below w1.heap.size w1 W) => Tr.isa (c := c1) HT.out B (k : Int) hb
        by_cases h2 : (k : Int) ∈ abv zs B
        · rw [decide_eq_true h2] at I2
          have I3 : Hid (∀ W, Below w1.heap.size w1 W → Calls Try.prog 16 #[.slice a1 zs.length c1, .int .i64 M, .int .i64 k] W _) := fun W (hb : Below w1.heap.size w1 W) => Tr.isa (c := c1) HT.out M (k : Int) hb
          have h3 : (k : Int) ∈ abv zs M := by
            rcases HS.out with ⟨_, g⟩ | ⟨_, _, g⟩
            · exact absurd h2 (g _ h1)
            · exact g _ h1 h2
          have h4 := abv_valid h3
          have d3 : decide (M < 0) = false := by simp; omega
          rw [decide_eq_true h3] at I3
          clear h1 h2 h3 h4
          go_wp2_with (first
            | (go_at_call 16; refine (I3.out w6 hB7).mono ?_; rintro e w7 ⟨rfl, hB8⟩; clear I3 hB7)
            | (go_at_call 16; refine (I2.out w5 hB6).mono ?_; rintro e w6 ⟨rfl, hB7⟩; clear I2 hB6)
            | (go_at_call 16; refine I1.mono ?_; rintro e w5 ⟨rfl, hB6⟩; clear I1))
          go_roundw
          case rel => exact ⟨k + 1, by omega, by go_num, hB8⟩
          case measure => simp [intOf]; omega
        · rw [decide_eq_false h2] at I2
          clear h1 h2
          go_wp2_with (first
            | (go_at_call 16; refine (I2.out w5 hB6).mono ?_; rintro e w6 ⟨rfl, hB7⟩; clear I2 hB6)
            | (go_at_call 16; refine I1.mono ?_; rintro e w5 ⟨rfl, hB6⟩; clear I1))
          go_roundw
          case rel => exact ⟨k + 1, by omega, by go_num, hB7⟩
          case measure => simp [intOf]; omega
      · rw [decide_eq_false h1] at I1
        clear h1
        go_wp2_with (go_at_call 16; refine I1.mono ?_; rintro e w5 ⟨rfl, hB6⟩; clear I1)
        go_roundw
        case rel => exact ⟨k + 1, by omega, by go_num, hB6⟩
        case measure => simp [intOf]; omega
    · obtain rfl : k = zs.length := by omega
      rcases HS.out with ⟨g, _⟩ | ⟨g1, g2, _⟩
      · subst g
        go_wp2
        go_ret
        exact ⟨rfl, Below.on hb1 hB5⟩
      · have h4 := abv_valid g1
        have d3 : decide (M < 0) = false := by simp; omega
        have I1 := Tr.isa (c := c1) HT.out A M hB5
        have I2 : Hid (∀ W, Below w1.heap.size w1 W → Calls Try.prog 16 #[.slice a1 zs.length c1, .int .i64 B, .int .i64 M] W _) := fun W (hb : Below w1.heap.size w1 W) => Tr.isa (c := c1) HT.out B M hb
        rw [decide_eq_true g1] at I1
        rw [decide_eq_true g2] at I2
        clear h4 g1 g2
        go_wp2_with (first
          | (go_at_call 16; refine (I2.out w5 hB6).mono ?_; rintro e w6 ⟨rfl, hB7⟩; clear I2 hB6)
          | (go_at_call 16; refine I1.mono ?_; rintro e w5 ⟨rfl, hB6⟩; clear I1))
        go_ret
        exact ⟨rfl, Below.on hb1 hB7⟩
end Go.Proofs.Ytnaodfgchaccoaa
