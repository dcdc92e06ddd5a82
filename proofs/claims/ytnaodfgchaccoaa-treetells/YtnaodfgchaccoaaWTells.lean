/- Proved: TreeTells answers true, whatever it is asked; what lay in memory is as it was. -/
import Derived.Test.YtnaodfgchaccoaaMet
import Derived.Test.YtnaodfgchaccoaaSam
namespace Go.Proofs.Ytnaodfgchaccoaa
open Go.RowKit Go.Shelf
set_option linter.unusedVariables false

theorem Below.on {w W W1 : World} (h : Below w.heap.size w W) (g : Below W.heap.size W W1) : Below w.heap.size w W1 := h.trans (g.mono h.size)

set_option maxRecDepth 100000 in
set_option maxHeartbeats 2000000 in
theorem tells_walk (w : World) (a : Option Addr) (c : Nat) (zs : List Int) (u v : Int) (hn : zs.length ≤ maxLen) (h : RdI w w.heap.size a zs) :
    Calls Try.prog 3 #[.slice a zs.length c, .int .i64 u, .int .i64 v] w fun e w' => e = .returned (.bool true) ∧ Below w.heap.size w w' := by
  have hl : zs.length ≤ 9223372036854775807 := by unfold maxLen at hn; omega
  by_cases h1 : 100 < zs.length
  · have h1' : (100 : Int) < (zs.length : Int) := by omega
    go_enter Try.func3, Try.ntmps3
    go_wp2
    go_ret
    exact ⟨rfl, Below.refl _ _⟩
  · have h1' : ¬ ((100 : Int) < (zs.length : Int)) := by omega
    have C1 := check_any w w.heap.size a c zs h hl
    have C2 := rcheck_any w w.heap.size a c zs h hl
    have A1 := above_any w a c zs u h hl
    have A2 : Hid (∀ W, Below w.heap.size w W → Calls Try.prog 13 #[.slice a zs.length c, .int .i64 u] W _) := fun W (hb : Below w.heap.size w W) => rabove_any W a c zs u (h.go (Nat.le_refl _) hb) hl
    have B1 : Hid (∀ W, Below w.heap.size w W → Calls Try.prog 14 #[.slice a zs.length c, .int .i64 u] W _) := fun W (hb : Below w.heap.size w W) => below_any W a c zs u (h.go (Nat.le_refl _) hb) hl
    have B2 : Hid (∀ W, Below w.heap.size w W → Calls Try.prog 15 #[.slice a zs.length c, .int .i64 u] W _) := fun W (hb : Below w.heap.size w W) => rbelow_any W a c zs u (h.go (Nat.le_refl _) hb) hl
    have I1 : Hid (∀ W, Below w.heap.size w W → Calls Try.prog 16 #[.slice a zs.length c, .int .i64 u, .int .i64 v] W _) := fun W (hb : Below w.heap.size w W) => isa_any W a c zs u v (h.go (Nat.le_refl _) hb) hl
    have I2 : Hid (∀ W, Below w.heap.size w W → Calls Try.prog 17 #[.slice a zs.length c, .int .i64 u, .int .i64 v] W _) := fun W (hb : Below w.heap.size w W) => risa_any W a c zs u v (h.go (Nat.le_refl _) hb) hl
    have M1 : Hid (∀ W, Below w.heap.size w W → Calls Try.prog 18 #[.slice a zs.length c, .int .i64 u, .int .i64 v] W _) := fun W (hb : Below w.heap.size w W) => meet_any W a c zs u v (h.go (Nat.le_refl _) hb) hl
    have M2 : Hid (∀ W, Below w.heap.size w W → Calls Try.prog 19 #[.slice a zs.length c, .int .i64 u, .int .i64 v] W _) := fun W (hb : Below w.heap.size w W) => rmeet_any W a c zs u v (h.go (Nat.le_refl _) hb) hl
    have hxl := abv_len zs u
    have hyl := belF_len zs u zs.length (Nat.le_refl _)
    change (bel zs u).length ≤ 16 at hyl
    obtain ⟨K, hK⟩ : ∃ K, chk zs = K := ⟨_, rfl⟩
    rw [hK] at C1 C2
    obtain ⟨T, hT⟩ : ∃ T, decide (v ∈ abv zs u) = T := ⟨_, rfl⟩
    rw [hT] at I1 I2
    obtain ⟨M, hM⟩ : ∃ M, meet zs u v = M := ⟨_, rfl⟩
    rw [hM] at M1 M2
    obtain ⟨xs, hxs⟩ : ∃ xs, abv zs u = xs := ⟨_, rfl⟩
    rw [hxs] at A1 A2 hxl
    obtain ⟨ys, hys⟩ : ∃ ys, bel zs u = ys := ⟨_, rfl⟩
    rw [hys] at B1 B2 hyl
    clear hK hT hM hxs hys h
    go_enter Try.func3, Try.ntmps3
    go_wp2_with (first
      | (go_at_call 9; refine C1.mono ?_; rintro e w1 ⟨rfl, rfl⟩; clear C1)
      | (go_at_call 10; refine C2.mono ?_; rintro e w1 ⟨rfl, rfl⟩; clear C2)
      | (go_at_call 12; refine A1.mono ?_; rintro e w1 ⟨a1, c1, rfl, hR1, hb1⟩; have HR1 : Hid _ := hR1; clear A1 hR1)
      | (go_at_call 13; refine (A2.out w1 hb1).mono ?_; rintro e w2 ⟨a2, c2, rfl, hR2, hb2⟩; have hB2 := Below.on hb1 hb2; have S1 := same_yes w2 w2.heap.size a1 a2 c1 c2 xs (Nat.le_refl _) (RdI.go HR1.out (Nat.le_refl _) hb2) hR2 (by omega); clear A2 hR2 HR1 hb1 hb2)
      | (go_at_call 14; refine (B1.out w3 hB3).mono ?_; rintro e w4 ⟨a4, c4, rfl, hR4, hb4⟩; have hB4 := Below.on hB3 hb4; have HR4 : Hid _ := hR4; clear B1 hR4 hB3 hb4)
      | (go_at_call 15; refine (B2.out w4 hB4).mono ?_; rintro e w5 ⟨a5, c5, rfl, hR5, hb5⟩; have hB5 := Below.on hB4 hb5; have S2 := same_yes w5 w5.heap.size a4 a5 c4 c5 ys (Nat.le_refl _) (RdI.go HR4.out (Nat.le_refl _) hb5) hR5 (by omega); clear B2 hR5 HR4 hB4 hb5)
      | (go_at_call 11; refine S2.mono ?_; rintro e w6 ⟨rfl, hb6⟩; have hB6 := Below.on hB5 hb6; clear S2 hB5 hb6)
      | (go_at_call 11; refine S1.mono ?_; rintro e w3 ⟨rfl, hb3⟩; have hB3 := Below.on hB2 hb3; clear S1 hB2 hb3)
      | (go_at_call 16; refine (I1.out w6 hB6).mono ?_; rintro e w7 ⟨rfl, hb7⟩; have hB7 := Below.on hB6 hb7; clear I1 hB6 hb7)
      | (go_at_call 17; refine (I2.out w7 hB7).mono ?_; rintro e w8 ⟨rfl, hb8⟩; have hB8 := Below.on hB7 hb8; clear I2 hB7 hb8)
      | (go_at_call 18; refine (M1.out w8 hB8).mono ?_; rintro e w9 ⟨rfl, hb9⟩; have hB9 := Below.on hB8 hb9; clear M1 hB8 hb9)
      | (go_at_call 19; refine (M2.out w9 hB9).mono ?_; rintro e w10 ⟨rfl, hb10⟩; have hB10 := Below.on hB9 hb10; clear M2 hB9 hb10))
    go_ret
    exact ⟨rfl, hB10⟩
end Go.Proofs.Ytnaodfgchaccoaa
