/- Proved: the walk of the statement on what is sent. -/
import Derived.Test.YtddjfjecamcfnaaSnt
namespace Go.Proofs.Ytddjfjecamcfnaa
open Go.RowKit
set_option linter.unusedVariables false

theorem cell_news {w : World} {cs : Array Value} {t : TypeId} {j : Nat} : (w.alloc (.cells cs t)).cell? ⟨w.heap.size, j, none⟩ = cs[j]? := by
  rw [World.cell?_alloc_new]

set_option maxRecDepth 100000 in
set_option maxHeartbeats 2000000 in
theorem sends_walk (w : World) (f q n b c d a : Int) :
    Calls Try.prog 4 #[.int .i64 f, .int .i64 q, .int .i64 n, .int .i64 b, .agg #[.int .i64 c, .int .i64 d, .int .i64 a]] w fun e w' => e = .returned (.bool true) ∧ Below w.heap.size w w' := by
  have mixed : Try.prog.follows .mixedOrders = true := by kernel_rfl
  have HA := fun W => sent_any W f q n b c d a
  have HB := fun W => rsent_any W f q n b c d a
  have h0 : 0 ≤ (b + a) % 1000 := by omega
  have h1 : (b + a) % 1000 < 1000 := by omega
  dsimp only [sentV] at HA HB
  obtain ⟨V, hV⟩ : ∃ V, vadd n d = V := ⟨_, rfl⟩
  obtain ⟨z, hz⟩ : ∃ z, (b + a) % 1000 = z := ⟨_, rfl⟩
  simp only [hV, hz] at HA HB h0 h1
  clear hV hz
  obtain ⟨W0, hW0⟩ : ∃ W0, W0 = w.alloc (.cells #[.int .i64 c, .int .i64 d, .int .i64 a] 33) := ⟨_, rfl⟩
  have hb0 : Below w.heap.size w W0 := by rw [hW0]; exact (Below.refl _ _).alloc (Nat.le_refl _) _
  have s0 : w.heap.size < W0.heap.size := by rw [hW0]; simp
  have x0 : W0.cell? ⟨w.heap.size, 0, none⟩ = some (.int .i64 c) := by rw [hW0]; exact cell_news
  have x1 : W0.cell? ⟨w.heap.size, 1, none⟩ = some (.int .i64 d) := by rw [hW0]; exact cell_news
  have x2 : W0.cell? ⟨w.heap.size, 2, none⟩ = some (.int .i64 a) := by rw [hW0]; exact cell_news
  have HW : Hid _ := hW0
  obtain ⟨B, hB⟩ : ∃ B, w.heap.size = B := ⟨_, rfl⟩
  have HSB : Hid _ := hB
  rw [hB] at s0 x0 x1 x2 hb0
  clear hW0 hB
  have HX : Hid (∀ W, Below W0.heap.size W0 W → W.cell? ⟨B, 0, none⟩ = some (.int .i64 c) ∧ W.cell? ⟨B, 1, none⟩ = some (.int .i64 d) ∧ W.cell? ⟨B, 2, none⟩ = some (.int .i64 a)) := fun W hW =>
    ⟨(hW.cell (p := ⟨B, 0, none⟩) s0).trans x0, (hW.cell (p := ⟨B, 1, none⟩) s0).trans x1, (hW.cell (p := ⟨B, 2, none⟩) s0).trans x2⟩
  have A1 := HA W0
  go_enter Try.func4, Try.ntmps4
  go_wp2_with fail
  rw [← HW.out, HSB.out]
  go_wp2_with fail
  refine A1.mono ?_
  rintro e w1 ⟨rfl, hb1⟩
  clear A1 HA x0 x1 x2
  obtain ⟨W2, hW2⟩ : ∃ W2, W2 = w1.alloc (.cells #[.int .i64 V, .int .i64 f, .int .i64 q, .int .i64 (-1), .int .i64 c, .int .i64 z] 37) := ⟨_, rfl⟩
  have hb2 : Below w1.heap.size w1 W2 := by rw [hW2]; exact (Below.refl _ _).alloc (Nat.le_refl _) _
  have s2 : w1.heap.size < W2.heap.size := by rw [hW2]; simp
  have y : ∀ j, W2.cell? ⟨w1.heap.size, j, none⟩ = (#[Value.int .i64 V, .int .i64 f, .int .i64 q, .int .i64 (-1), .int .i64 c, .int .i64 z] : Array Value)[j]? := fun j => by rw [hW2]; exact cell_news
  have HW2 : Hid _ := hW2
  clear hW2
  obtain ⟨C, hC⟩ : ∃ C, w1.heap.size = C := ⟨_, rfl⟩
  have HSC : Hid _ := hC
  rw [hC] at s2 y
  have hb02 : Below W0.heap.size W0 W2 := hb1.trans (hb2.mono hb1.size)
  have HY : Hid (∀ W, Below W2.heap.size W2 W → (W.cell? ⟨B, 0, none⟩ = some (.int .i64 c) ∧ W.cell? ⟨B, 1, none⟩ = some (.int .i64 d) ∧ W.cell? ⟨B, 2, none⟩ = some (.int .i64 a)) ∧ W.cell? ⟨C, 0, none⟩ = some (.int .i64 V) ∧ W.cell? ⟨C, 1, none⟩ = some (.int .i64 f) ∧ W.cell? ⟨C, 2, none⟩ = some (.int .i64 q) ∧ W.cell? ⟨C, 3, none⟩ = some (.int .i64 (-1)) ∧ W.cell? ⟨C, 4, none⟩ = some (.int .i64 c) ∧ W.cell? ⟨C, 5, none⟩ = some (.int .i64 z)) := fun W hW =>
    ⟨HX.out W (hb02.trans (hW.mono hb02.size)), (hW.cell (p := ⟨C, 0, none⟩) s2).trans (y 0), (hW.cell (p := ⟨C, 1, none⟩) s2).trans (y 1), (hW.cell (p := ⟨C, 2, none⟩) s2).trans (y 2), (hW.cell (p := ⟨C, 3, none⟩) s2).trans (y 3), (hW.cell (p := ⟨C, 4, none⟩) s2).trans (y 4), (hW.cell (p := ⟨C, 5, none⟩) s2).trans (y 5)⟩
  obtain ⟨⟨g0, g1, g2⟩, k0, k1, k2, k3, k4, k5⟩ := HY.out W2 (Below.refl _ _)
  have hbw : Hid (Below B w W2) := hb0.trans (hb02.mono (by omega))
  have hBW2 : Hid (B ≤ W2.heap.size) := by have := hb02.size; show B ≤ _; omega
  clear y hb02 hb2 hb1 hC
  have B1 := HB W2.drew
  go_wp2_with fail
  rw [← HW2.out, HSC.out]
  go_region_held3 (fun w' => (w'.cell? ⟨B, 0, none⟩ = some (.int .i64 c) ∧ w'.cell? ⟨B, 1, none⟩ = some (.int .i64 d) ∧ w'.cell? ⟨B, 2, none⟩ = some (.int .i64 a)) ∧ w'.cell? ⟨C, 0, none⟩ = some (.int .i64 V) ∧ w'.cell? ⟨C, 1, none⟩ = some (.int .i64 f) ∧ w'.cell? ⟨C, 2, none⟩ = some (.int .i64 q) ∧ w'.cell? ⟨C, 3, none⟩ = some (.int .i64 (-1)) ∧ w'.cell? ⟨C, 4, none⟩ = some (.int .i64 c) ∧ w'.cell? ⟨C, 5, none⟩ = some (.int .i64 z)) (go_keep) (first | (go_at_call 18; refine B1.mono ?_; rintro e w3 ⟨rfl, hb3⟩; have hb4 : Below W2.heap.size W2 w3 := ((Below.refl _ W2).drew).trans hb3; obtain ⟨⟨i0, i1, i2⟩, l0, l1, l2, l3, l4, l5⟩ := HY.out w3 hb4))
  all_goals go_wp2
  all_goals go_ret
  all_goals exact ⟨rfl, HSB.out ▸ hbw.out.trans (hb4.mono hBW2.out)⟩
end Go.Proofs.Ytddjfjecamcfnaa
