/- Proved: TreeOdd answers true, whatever it is asked; what lay in memory is as it was. -/
import Derived.Test.YtnaodfgchaccoabMet
import Derived.Test.YtnaodfgchaccoabRfc
import Derived.Test.YtnaodfgchaccoabPur
namespace Go.Proofs.Ytnaodfgchaccoab
open Go.RowKit Go.Shelf
set_option linter.unusedVariables false

theorem Below.on {w W W1 : World} (h : Below w.heap.size w W) (g : Below W.heap.size W W1) : Below w.heap.size w W1 := h.trans (g.mono h.size)

set_option maxRecDepth 100000 in
set_option maxHeartbeats 2000000 in
theorem odd_walk (w : World) (a : Option Addr) (c : Nat) (zs : List Int) (u : Int) (hn : zs.length ≤ maxLen) (h : RdI w w.heap.size a zs) :
    Calls Try.prog 3 #[.slice a zs.length c, .int .i64 u] w fun e w' => e = .returned (.bool true) ∧ Below w.heap.size w w' := by
  have hl : zs.length ≤ 9223372036854775807 := by unfold maxLen at hn; omega
  by_cases h1 : 100 < zs.length
  · have h1' : (100 : Int) < (zs.length : Int) := by omega
    go_enter Try.func3, Try.ntmps3
    go_wp2
    go_ret
    exact ⟨rfl, Below.refl _ _⟩
  · have h1' : ¬ ((100 : Int) < (zs.length : Int)) := by omega
    have C1 := check_any w w.heap.size a c zs h hl
    have C2 := rcheck_any w w.heap.size a c zs h hl
    have A1 := above_any w a c zs u h hl
    have I0 := isa_any w a c zs u u h hl
    have B1 : Hid (∀ W, Below w.heap.size w W → Calls Try.prog 8 #[.slice a zs.length c, .int .i64 u] W _) := fun W (hb : Below w.heap.size w W) => below_any W a c zs u (h.go (Nat.le_refl _) hb) hl
    have I1 : Hid (∀ W, Below w.heap.size w W → Calls Try.prog 6 #[.slice a zs.length c, .int .i64 u, .int .i64 u] W _) := fun W (hb : Below w.heap.size w W) => isa_any W a c zs u u (h.go (Nat.le_refl _) hb) hl
    have M1 : Hid (∀ W, Below w.heap.size w W → Calls Try.prog 9 #[.slice a zs.length c, .int .i64 u, .int .i64 0] W _) := fun W (hb : Below w.heap.size w W) => meet_any W a c zs u 0 (h.go (Nat.le_refl _) hb) hl
    have C3 : Hid (∀ W, Calls Try.prog 4 #[.slice none 0 0] W fun e w' => e = .returned (.int .i64 50) ∧ w' = W) := fun W => by
      have := check_any W 0 none 0 [] (fun g => absurd rfl g) (by simp)
      rw [chk_no (fun g => by have := g.1; simp at this)] at this
      exact this
    clear h
    by_cases hok : OKT zs
    · rw [chk_ok hok] at C1 C2
      by_cases hu0 : u < 0
      · have hd0 : decide (0 ≤ u) = false := by simp; omega
        have hno : ¬ (OKT zs ∧ 0 ≤ u ∧ u < zs.length) := fun g => by omega
        have ea := abv_no hno
        rw [ea] at A1
        rw [bel_none hno] at B1
        rw [ea, decide_eq_false (by simp)] at I1
        rw [meet_none ea] at M1
        clear I0 hok ea hno
        go_enter Try.func3, Try.ntmps3
        go_wp2_with (first
          | (go_at_call 4; refine C1.mono ?_; rintro e w1 ⟨rfl, rfl⟩; clear C1)
          | (go_at_call 5; refine C2.mono ?_; rintro e w1 ⟨rfl, rfl⟩; clear C2)
          | (go_at_call 7; refine A1.mono ?_; rintro e w1 ⟨a1, c1, rfl, _, hB1⟩; clear A1)
          | (go_at_call 8; refine (B1.out w1 hB1).mono ?_; rintro e w2 ⟨a2, c2, rfl, _, hb2⟩; have hB2 := Below.on hB1 hb2; clear B1 hB1 hb2)
          | (go_at_call 6; refine (I1.out w2 hB2).mono ?_; rintro e w3 ⟨rfl, hb3⟩; have hB3 := Below.on hB2 hb3; clear I1 hB2 hb3)
          | (go_at_call 9; refine (M1.out w3 hB3).mono ?_; rintro e w4 ⟨rfl, hb4⟩; have hB4 := Below.on hB3 hb4; clear M1 hB3 hb4)
          | (go_at_call 4; refine (C3.out w4).mono ?_; rintro e w5 ⟨rfl, rfl⟩; clear C3))
        go_ret
        exact ⟨rfl, hB4⟩
      · by_cases hu1 : u < zs.length
        · have hd0 : decide (0 ≤ u) = true := by simp; omega
          have hd1 : decide (u < (zs.length : Int)) = true := by simpa using hu1
          rw [decide_eq_true (abv_self hok (by omega) hu1)] at I0
          clear A1 B1 I1 M1 C3 hok
          go_enter Try.func3, Try.ntmps3
          go_wp2_with (first
            | (go_at_call 4; refine C1.mono ?_; rintro e w1 ⟨rfl, rfl⟩; clear C1)
            | (go_at_call 5; refine C2.mono ?_; rintro e w1 ⟨rfl, rfl⟩; clear C2)
            | (go_at_call 6; refine I0.mono ?_; rintro e w3 ⟨rfl, hb3⟩; clear I0))
          go_ret
          exact ⟨rfl, hb3⟩
        · have hd0 : decide (0 ≤ u) = true := by simp; omega
          have hd1 : decide (u < (zs.length : Int)) = false := by simpa using hu1
          have hno : ¬ (OKT zs ∧ 0 ≤ u ∧ u < zs.length) := fun g => by omega
          have ea := abv_no hno
          rw [ea] at A1
          rw [bel_none hno] at B1
          rw [ea, decide_eq_false (by simp)] at I1
          rw [meet_none ea] at M1
          clear I0 hok ea hno
          go_enter Try.func3, Try.ntmps3
          go_wp2_with (first
            | (go_at_call 4; refine C1.mono ?_; rintro e w1 ⟨rfl, rfl⟩; clear C1)
            | (go_at_call 5; refine C2.mono ?_; rintro e w1 ⟨rfl, rfl⟩; clear C2)
            | (go_at_call 7; refine A1.mono ?_; rintro e w1 ⟨a1, c1, rfl, _, hB1⟩; clear A1)
            | (go_at_call 8; refine (B1.out w1 hB1).mono ?_; rintro e w2 ⟨a2, c2, rfl, _, hb2⟩; have hB2 := Below.on hB1 hb2; clear B1 hB1 hb2)
            | (go_at_call 6; refine (I1.out w2 hB2).mono ?_; rintro e w3 ⟨rfl, hb3⟩; have hB3 := Below.on hB2 hb3; clear I1 hB2 hb3)
            | (go_at_call 9; refine (M1.out w3 hB3).mono ?_; rintro e w4 ⟨rfl, hb4⟩; have hB4 := Below.on hB3 hb4; clear M1 hB3 hb4)
            | (go_at_call 4; refine (C3.out w4).mono ?_; rintro e w5 ⟨rfl, rfl⟩; clear C3))
          go_ret
          exact ⟨rfl, hB4⟩
    · rw [chk_no hok] at C1 C2
      have hno : ¬ (OKT zs ∧ 0 ≤ u ∧ u < zs.length) := fun g => hok g.1
      have ea := abv_no hno
      rw [ea] at A1
      rw [bel_none hno] at B1
      rw [ea, decide_eq_false (by simp)] at I1
      rw [meet_none ea] at M1
      clear I0 hok ea hno
      go_enter Try.func3, Try.ntmps3
      go_wp2_with (first
        | (go_at_call 4; refine C1.mono ?_; rintro e w1 ⟨rfl, rfl⟩; clear C1)
        | (go_at_call 5; refine C2.mono ?_; rintro e w1 ⟨rfl, rfl⟩; clear C2)
        | (go_at_call 7; refine A1.mono ?_; rintro e w1 ⟨a1, c1, rfl, _, hB1⟩; clear A1)
        | (go_at_call 8; refine (B1.out w1 hB1).mono ?_; rintro e w2 ⟨a2, c2, rfl, _, hb2⟩; have hB2 := Below.on hB1 hb2; clear B1 hB1 hb2)
        | (go_at_call 6; refine (I1.out w2 hB2).mono ?_; rintro e w3 ⟨rfl, hb3⟩; have hB3 := Below.on hB2 hb3; clear I1 hB2 hb3)
        | (go_at_call 9; refine (M1.out w3 hB3).mono ?_; rintro e w4 ⟨rfl, hb4⟩; have hB4 := Below.on hB3 hb4; clear M1 hB3 hb4)
        | (go_at_call 4; refine (C3.out w4).mono ?_; rintro e w5 ⟨rfl, rfl⟩; clear C3))
      go_ret
      exact ⟨rfl, hB4⟩
end Go.Proofs.Ytnaodfgchaccoab
