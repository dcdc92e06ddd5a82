/- Proved: TreeOrder answers true, whatever it is asked; what lay in memory is as it was. -/
import Derived.Test.YtnaodfgchaccoaaMad
import Derived.Test.YtnaodfgchaccoaaPur
namespace Go.Proofs.Ytnaodfgchaccoaa
open Go.RowKit Go.Shelf
set_option linter.unusedVariables false

theorem Below.on {w W W1 : World} (h : Below w.heap.size w W) (g : Below W.heap.size W W1) : Below w.heap.size w W1 := h.trans (g.mono h.size)
/-- A number modulo how many there are. -/
theorem mod_in {zs : List Int} (h : 1 ≤ zs.length) (x : Int) : 0 ≤ x % (zs.length : Int) ∧ x % (zs.length : Int) < (zs.length : Int) := ⟨Int.emod_nonneg _ (by omega), Int.emod_lt_of_pos _ (by omega)⟩
theorem len_nz {zs : List Int} (h : 1 ≤ zs.length) : ((zs.length : Int) == 0) = false := by rw [beq_eq_false_iff_ne]; omega

set_option maxRecDepth 100000 in
set_option maxHeartbeats 2000000 in
theorem order_walk (w : World) (a : Option Addr) (n c : Nat) (z : List Int) (x y t : Int) (hn : n ≤ maxLen) (h : InB w a n z) (hx : 0 ≤ x ∧ x ≤ 255) (hy : 0 ≤ y ∧ y ≤ 255) (ht : 0 ≤ t ∧ t ≤ 255) :
    Calls Try.prog 4 #[.slice a n c, .int .u8 x, .int .u8 y, .int .u8 t] w fun e w' => e = .returned (.bool true) ∧ Below w.heap.size w w' := by
  have MD := made_any w a n c z hn h
  clear h
  go_enter Try.func4, Try.ntmps4
  go_wp2_with (go_at_call 20; refine MD.mono ?_; rintro e w1 ⟨zs, a1, c1, rfl, hok, hR, hb1⟩; have hl1 := hok.1; have hl2 := hok.2.1; have HOK : Hid (OKT zs) := hok; have HR : Hid (RdI w1 w1.heap.size a1 zs) := hR; clear MD hok hR; have hnz := len_nz hl1; have hnz' : ¬ ((zs.length : Int) = 0) := (by omega); have hAb := mod_in hl1 x; have hBb := mod_in hl1 y; have hCb := mod_in hl1 t; obtain ⟨A, hA⟩ : ∃ A, x % (zs.length : Int) = A := ⟨_, rfl⟩; obtain ⟨B, hB⟩ : ∃ B, y % (zs.length : Int) = B := ⟨_, rfl⟩; obtain ⟨C, hC⟩ : ∃ C, t % (zs.length : Int) = C := ⟨_, rfl⟩; rw [hA] at hAb; rw [hB] at hBb; rw [hC] at hCb)
  have C1 : Hid (∀ W, Below w1.heap.size w1 W → Calls Try.prog 9 #[.slice a1 zs.length c1] W fun e w' => e = .returned (.int .i64 0) ∧ W = w') := fun W (hb : Below w1.heap.size w1 W) => by
    have := check_any W W.heap.size a1 c1 zs (RdI.go HR.out (Nat.le_refl _) hb) (by omega)
    rw [chk_ok HOK.out] at this
    exact this.mono fun _ _ g => ⟨g.1, g.2.symm⟩
  have I : Hid (∀ u v W, Below w1.heap.size w1 W → Calls Try.prog 16 #[.slice a1 zs.length c1, .int .i64 u, .int .i64 v] W fun e w' => e = .returned (.bool (decide (v ∈ abv zs u))) ∧ Below W.heap.size W w') := fun u v W (hb : Below w1.heap.size w1 W) => isa_any W a1 c1 zs u v (RdI.go HR.out (Nat.le_refl _) hb) (by omega)
  have RI : Hid (∀ u v W, Below w1.heap.size w1 W → Calls Try.prog 17 #[.slice a1 zs.length c1, .int .i64 u, .int .i64 v] W fun e w' => e = .returned (.bool (decide (v ∈ abv zs u))) ∧ Below W.heap.size W w') := fun u v W (hb : Below w1.heap.size w1 W) => risa_any W a1 c1 zs u v (RdI.go HR.out (Nat.le_refl _) hb) (by omega)
  have hAA := decide_eq_true (abv_self HOK.out hAb.1 hAb.2)
  have hB1 := Below.refl w1.heap.size w1
  refine (I.out A B w1 hB1).mono ?_
  rintro e w2 ⟨rfl, hB2⟩
  by_cases h1 : B ∈ abv zs A
  · have e1 := decide_eq_true h1
    by_cases h2 : A ∈ abv zs B
    · have e2 := decide_eq_true h2
      obtain rfl : A = B := abv_anti h1 h2
      by_cases h3 : C ∈ abv zs A
      · have e3 := decide_eq_true h3
        clear h1 h2 h3
        go_wp2_with (first
          | (go_at_call 9; refine (C1.out w2 hB2).mono ?_; rintro e w' ⟨rfl, rfl⟩; clear C1)
          | (go_at_call 16; refine (I.out A C w6 hB6).mono ?_; rintro e w7 ⟨rfl, hb7⟩; have hB7 := Below.on hB6 hb7; clear hB6 hb7)
          | (go_at_call 16; refine (I.out A C w5 hB5).mono ?_; rintro e w6 ⟨rfl, hb6⟩; have hB6 := Below.on hB5 hb6; clear hB5 hb6)
          | (go_at_call 16; refine (I.out A A w4 hB4).mono ?_; rintro e w5 ⟨rfl, hb5⟩; have hB5 := Below.on hB4 hb5; clear hB4 hb5)
          | (go_at_call 17; refine (RI.out A A w3 hB3).mono ?_; rintro e w4 ⟨rfl, hb4⟩; have hB4 := Below.on hB3 hb4; clear hB3 hb4)
          | (go_at_call 16; refine (I.out A A w2 hB2).mono ?_; rintro e w3 ⟨rfl, hb3⟩; have hB3 := Below.on hB2 hb3; clear hB2 hb3))
        go_ret
        exact ⟨rfl, Below.on hb1 hB7⟩
      · have e3 := decide_eq_false h3
        clear h1 h2 h3
        go_wp2_with (first
          | (go_at_call 9; refine (C1.out w2 hB2).mono ?_; rintro e w' ⟨rfl, rfl⟩; clear C1)
          | (go_at_call 16; refine (I.out A C w5 hB5).mono ?_; rintro e w6 ⟨rfl, hb6⟩; have hB6 := Below.on hB5 hb6; clear hB5 hb6)
          | (go_at_call 16; refine (I.out A A w4 hB4).mono ?_; rintro e w5 ⟨rfl, hb5⟩; have hB5 := Below.on hB4 hb5; clear hB4 hb5)
          | (go_at_call 17; refine (RI.out A A w3 hB3).mono ?_; rintro e w4 ⟨rfl, hb4⟩; have hB4 := Below.on hB3 hb4; clear hB3 hb4)
          | (go_at_call 16; refine (I.out A A w2 hB2).mono ?_; rintro e w3 ⟨rfl, hb3⟩; have hB3 := Below.on hB2 hb3; clear hB2 hb3))
        go_ret
        exact ⟨rfl, Below.on hb1 hB6⟩
    · have e2 := decide_eq_false h2
      by_cases h3 : C ∈ abv zs B
      · have e3 := decide_eq_true h3
        have e4 := decide_eq_true (abv_trans h1 h3)
        clear h1 h2 h3
        go_wp2_with (first
          | (go_at_call 9; refine (C1.out w2 hB2).mono ?_; rintro e w' ⟨rfl, rfl⟩; clear C1)
          | (go_at_call 16; refine (I.out A C w6 hB6).mono ?_; rintro e w7 ⟨rfl, hb7⟩; have hB7 := Below.on hB6 hb7; clear hB6 hb7)
          | (go_at_call 16; refine (I.out B C w5 hB5).mono ?_; rintro e w6 ⟨rfl, hb6⟩; have hB6 := Below.on hB5 hb6; clear hB5 hb6)
          | (go_at_call 16; refine (I.out B A w4 hB4).mono ?_; rintro e w5 ⟨rfl, hb5⟩; have hB5 := Below.on hB4 hb5; clear hB4 hb5)
          | (go_at_call 17; refine (RI.out A B w3 hB3).mono ?_; rintro e w4 ⟨rfl, hb4⟩; have hB4 := Below.on hB3 hb4; clear hB3 hb4)
          | (go_at_call 16; refine (I.out A A w2 hB2).mono ?_; rintro e w3 ⟨rfl, hb3⟩; have hB3 := Below.on hB2 hb3; clear hB2 hb3))
        go_ret
        exact ⟨rfl, Below.on hb1 hB7⟩
      · have e3 := decide_eq_false h3
        clear h1 h2 h3
        go_wp2_with (first
          | (go_at_call 9; refine (C1.out w2 hB2).mono ?_; rintro e w' ⟨rfl, rfl⟩; clear C1)
          | (go_at_call 16; refine (I.out B C w5 hB5).mono ?_; rintro e w6 ⟨rfl, hb6⟩; have hB6 := Below.on hB5 hb6; clear hB5 hb6)
          | (go_at_call 16; refine (I.out B A w4 hB4).mono ?_; rintro e w5 ⟨rfl, hb5⟩; have hB5 := Below.on hB4 hb5; clear hB4 hb5)
          | (go_at_call 17; refine (RI.out A B w3 hB3).mono ?_; rintro e w4 ⟨rfl, hb4⟩; have hB4 := Below.on hB3 hb4; clear hB3 hb4)
          | (go_at_call 16; refine (I.out A A w2 hB2).mono ?_; rintro e w3 ⟨rfl, hb3⟩; have hB3 := Below.on hB2 hb3; clear hB2 hb3))
        go_ret
        exact ⟨rfl, Below.on hb1 hB6⟩
  · have e1 := decide_eq_false h1
    clear h1
    go_wp2_with (first
      | (go_at_call 9; refine (C1.out w2 hB2).mono ?_; rintro e w' ⟨rfl, rfl⟩; clear C1)
      | (go_at_call 17; refine (RI.out A B w3 hB3).mono ?_; rintro e w4 ⟨rfl, hb4⟩; have hB4 := Below.on hB3 hb4; clear hB3 hb4)
      | (go_at_call 16; refine (I.out A A w2 hB2).mono ?_; rintro e w3 ⟨rfl, hb3⟩; have hB3 := Below.on hB2 hb3; clear hB2 hb3))
    go_ret
    exact ⟨rfl, Below.on hb1 hB4⟩
end Go.Proofs.Ytnaodfgchaccoaa
