/- Proved: TreeTurned answers true, whatever it is asked; what lay in memory is as it was. -/
import Derived.Test.YtnaodfgchaccoaaCom
namespace Go.Proofs.Ytnaodfgchaccoaa
open Go.RowKit Go.Shelf
set_option linter.unusedVariables false

theorem first_cell {W : World} {n0 : Nat} {a : Option Addr} {xs : List Int} {x : Int} {t : List Int} (h : RdI W n0 a xs) (e : xs = x :: t) : ∃ b off, a = some ⟨b, off, none⟩ ∧ b < n0 ∧ W.cell? ⟨b, off, none⟩ = some (.int .i64 x) := by
  obtain ⟨b, off, rfl, hb, hc⟩ := h (by rw [e]; simp)
  have := hc 0 (by rw [e]; simp)
  rw [e] at this
  exact ⟨b, off, rfl, hb, by simpa [nthI] using this⟩

set_option maxRecDepth 100000 in
set_option maxHeartbeats 2000000 in
theorem turned_walk (w : World) (a : Option Addr) (n c : Nat) (z : List Int) (x y : Int) (hn : n ≤ maxLen) (h : InB w a n z) (hx : 0 ≤ x ∧ x ≤ 255) (hy : 0 ≤ y ∧ y ≤ 255) :
    Calls Try.prog 6 #[.slice a n c, .int .u8 x, .int .u8 y] w fun e w' => e = .returned (.bool true) ∧ Below w.heap.size w w' := by
  have MD := Tr.made (c := c) hn h
  clear h
  go_enter Try.func6, Try.ntmps6
  go_wp2_with (go_at_call 20; refine MD.mono ?_; rintro e w1 ⟨zs, a1, c1, rfl, T, hb1⟩; have hl1 := T.ok.1; have hl2 := T.ok.2.1; have HT : Hid (Tr w1 a1 zs) := T; clear MD T; have hnz := len_nz hl1; have hnz' : ¬ ((zs.length : Int) = 0) := (by omega); have hAb := mod_in hl1 x; have hBb := mod_in hl1 y; obtain ⟨A, hA⟩ : ∃ A, x % (zs.length : Int) = A := ⟨_, rfl⟩; obtain ⟨B, hB⟩ : ∃ B, y % (zs.length : Int) = B := ⟨_, rfl⟩; rw [hA] at hAb; rw [hB] at hBb)
  have hB1 := Below.refl w1.heap.size w1
  have A1 := Tr.above (c := c1) HT.out A hB1
  have A2 : Hid (∀ W, Below w1.heap.size w1 W → Calls Try.prog 13 #[.slice a1 zs.length c1, .int .i64 A] W _) := fun W (hb : Below w1.heap.size w1 W) => Tr.rabove (c := c1) HT.out A hb
  have B1 : Hid (∀ W, Below w1.heap.size w1 W → Calls Try.prog 14 #[.slice a1 zs.length c1, .int .i64 B] W _) := fun W (hb : Below w1.heap.size w1 W) => Tr.below (c := c1) HT.out B hb
  have hxl := abv_len zs A
  have hyl := belF_len zs B zs.length (Nat.le_refl _)
  change (bel zs B).length ≤ 16 at hyl
  have ex := abv_step (Tr.ok HT.out) hAb.1 hAb.2
  obtain ⟨yt, ey⟩ := bel_first (Tr.ok HT.out) hBb.1 hBb.2
  have hq : decide (B ∈ abv zs A) = decide (A ∈ bel zs B) := by simp [mem_bel]
  obtain ⟨xt, hxt⟩ : ∃ xt, ups zs (nthI zs A.toNat) = xt := ⟨_, rfl⟩
  rw [hxt] at ex
  obtain ⟨xs, hxs⟩ : ∃ xs, abv zs A = xs := ⟨_, rfl⟩
  rw [hxs] at A1 A2 hxl ex hq
  obtain ⟨ys, hys⟩ : ∃ ys, bel zs B = ys := ⟨_, rfl⟩
  rw [hys] at B1 hyl ey hq
  have hx1 : (0 : Int) < (xs.length : Int) := by rw [ex]; simp
  have hy1 : (0 : Int) < (ys.length : Int) := by rw [ey]; simp
  obtain ⟨q, hq1⟩ : ∃ q, decide (B ∈ xs) = q := ⟨_, rfl⟩
  rw [hq1] at hq
  have HX : Hid _ := ex
  have HY : Hid _ := ey
  have HQ1 : Hid _ := hq1
  have HQ2 : Hid _ := hq
  clear hxt hxs hys ex ey hq hq1
  refine A1.mono ?_
  rintro e w2 ⟨a2, c2, rfl, hR2, _, hB2⟩
  have HR2 : Hid (RdI w2 w2.heap.size a2 xs) := hR2
  clear A1 hR2
  go_wp2_with (go_at_call 14; refine (B1.out w2 hB2).mono ?_; rintro e w3 ⟨a3, c3, rfl, hR3, hb3, hB3⟩; have HR3 : Hid (RdI w3 w3.heap.size a3 ys) := hR3; clear B1 hR3 hB2)
  have HR2' : Hid (RdI w3 w3.heap.size a2 xs) := RdI.go HR2.out (Nat.le_refl _) hb3
  have H1 := rhas_any w3 w3.heap.size a2 c2 xs B HR2'.out (by omega)
  have H2 := rhas_any w3 w3.heap.size a3 c3 ys A HR3.out (by omega)
  rw [HQ1.out] at H1
  rw [← HQ2.out] at H2
  have A3 := A2.out w3 hB3
  obtain ⟨b2, o2, rfl, hb2', x2⟩ := first_cell HR2'.out HX.out
  obtain ⟨b3, o3, rfl, hb3', x3⟩ := first_cell HR3.out HY.out
  clear A2 hb3 HR2
  refine H1.mono ?_
  rintro e w' ⟨rfl, rfl⟩
  clear H1
  go_wp2_with (first
    | (go_at_call 21; refine H2.mono ?_; rintro e w' ⟨rfl, rfl⟩; clear H2)
    | (go_at_call 13; refine A3.mono ?_; rintro e w4 ⟨a4, c4, rfl, hR4, hb4, hB4⟩; have S1 := same_on (c := c2) (c' := c4) hxl HR2'.out hR4 hb4 hB4; clear A3 hR4)
    | (go_at_call 11; refine S1.mono ?_; rintro e w5 ⟨rfl, _, hB5⟩; clear S1))
  go_ret
  exact ⟨rfl, Below.on hb1 hB5⟩
end Go.Proofs.Ytnaodfgchaccoaa
