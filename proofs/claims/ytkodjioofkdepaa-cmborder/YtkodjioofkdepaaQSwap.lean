/- Proved: the contract of the pile's Swap. -/
import Derived.Test.YtkodjioofkdepaaQPile
import Derived.BigRegion
import Derived.Shelf.SlicesQ.Reverse
namespace Go.Proofs.Ytkodjioofkdepaa.Q
open Go.RowKit Go.Sort
set_option linter.unusedVariables false
set_option maxRecDepth 100000

theorem holds_load {W : World} {g : Nat} {d : List M} (h : HoldsK enc 6 W g 0 d.toArray) {i : Nat} (hi : i < d.length) {x : M} (hx : d[i] = x) :
    Sem.run Try.prog (loadCellsFrom ⟨g, i * 6, none⟩ 0 6 #[]) W = .ok (enc x).toArray W := by
  have h1 := HoldsK.cells h enc_len (i := i) (by simpa using hi)
  have h2 : d.toArray[i]! = x := by rw [getElem!_pos _ _ (by simpa using hi)]; simpa using hx
  rw [h2] at h1
  simp only [Nat.zero_add] at h1
  exact run_loadCellsFrom_list Try.prog _ _ _ 6 (enc_len _) h1
theorem holds_store {W : World} {g : Nat} {d : List M} (h : HoldsK enc 6 W g 0 d.toArray) {i : Nat} (hi : i < d.length) (x : M) :
    Sem.run Try.prog (storeCells ⟨g, i * 6, none⟩ (enc x) 0) W = .ok () (W.setCells g (i * 6) (enc x)) := by
  have := stores_of_holds Try.prog h (i * 6) (enc x) (by rw [enc_len, size_flatK]; simp; omega) (enc_one x)
  simpa only [Nat.zero_add] using this

theorem ne_cell (g p q : Nat) (h : p ≠ q) (W : World) (u : Value) : (W.setCell ⟨g, p, none⟩ u).cell? ⟨g, q, none⟩ = W.cell? ⟨g, q, none⟩ := by
  rw [World.cell?_setCell_other]
  simp
theorem setCells6 (w : World) (g p q : Nat) (a b : M) : ((w.drew.setCells g p (enc b)).setCells g q (enc a)) =
    ((((((((((((w.setCell ⟨g, p, none⟩ (.int .i64 b.1.1)).setCell ⟨g, p + 1, none⟩ (.int .i64 b.1.2.1)).setCell ⟨g, p + 2, none⟩ (.int .i64 b.1.2.2)).setCell ⟨g, p + 3, none⟩ (.int .i64 b.2.1)).setCell ⟨g, p + 4, none⟩ (.int .i64 b.2.2.1)).setCell ⟨g, p + 5, none⟩ (.int .i64 b.2.2.2)).setCell
      ⟨g, q, none⟩ (.int .i64 a.1.1)).setCell ⟨g, q + 1, none⟩ (.int .i64 a.1.2.1)).setCell ⟨g, q + 2, none⟩ (.int .i64 a.1.2.2)).setCell ⟨g, q + 3, none⟩ (.int .i64 a.2.1)).setCell ⟨g, q + 4, none⟩ (.int .i64 a.2.2.1)).setCell ⟨g, q + 5, none⟩ (.int .i64 a.2.2.2)).drew := by
  simp only [enc, World.setCells, Nat.add_assoc, Nat.reduceAdd, World.setCell_drew]
set_option maxHeartbeats 1000000 in
theorem swap_raw {w W1 W2 W3 : World} {pb mb g cap n i j : Nat} {a1 a2 a3 a4 a5 a6 b1 b2 b3 b4 b5 b6 : Int} (hij : i ≠ j) (hl : n ≤ 64) (hi : (i : Int) < (n : Int)) (hj : (j : Int) < (n : Int))
    (c0 : w.cell? ⟨pb, 0, none⟩ = some (.slice (some ⟨g, 0, none⟩) n cap)) (hpg : pb ≠ g)
    (x0 : w.cell? ⟨g, i * 6, none⟩ = some (.int .i64 a1)) (x1 : w.cell? ⟨g, i * 6 + 1, none⟩ = some (.int .i64 a2)) (x2 : w.cell? ⟨g, i * 6 + 2, none⟩ = some (.int .i64 a3))
    (x3 : w.cell? ⟨g, i * 6 + 3, none⟩ = some (.int .i64 a4)) (x4 : w.cell? ⟨g, i * 6 + 4, none⟩ = some (.int .i64 a5)) (x5 : w.cell? ⟨g, i * 6 + 5, none⟩ = some (.int .i64 a6))
    (y0 : w.cell? ⟨g, j * 6, none⟩ = some (.int .i64 b1)) (y1 : w.cell? ⟨g, j * 6 + 1, none⟩ = some (.int .i64 b2)) (y2 : w.cell? ⟨g, j * 6 + 2, none⟩ = some (.int .i64 b3))
    (y3 : w.cell? ⟨g, j * 6 + 3, none⟩ = some (.int .i64 b4)) (y4 : w.cell? ⟨g, j * 6 + 4, none⟩ = some (.int .i64 b5)) (y5 : w.cell? ⟨g, j * 6 + 5, none⟩ = some (.int .i64 b6))
    (hf : ∀ p, w.frozen? ⟨g, p, none⟩ = false)
    (hW1 : Hid (W1 = ((w.drew.setCells g (i * 6) (enc ((b1, b2, b3), b4, b5, b6))).setCells g (j * 6) (enc ((a1, a2, a3), a4, a5, a6)))))
    (d0 : W1.cell? ⟨pb, 0, none⟩ = some (.slice (some ⟨g, 0, none⟩) n cap)) (d1 : W1.cell? ⟨pb, 1, none⟩ = some (.map (some mb)))
    (u0 : W1.cell? ⟨g, i * 6, none⟩ = some (.int .i64 b1)) (u1 : W1.cell? ⟨g, i * 6 + 1, none⟩ = some (.int .i64 b2)) (u2 : W1.cell? ⟨g, i * 6 + 2, none⟩ = some (.int .i64 b3))
    (m1 : (Instr.mapUpdate 94 (.map (some mb)) (.agg #[.int .i64 b1, .int .i64 b2, .int .i64 b3]) (.int .i64 i)).run Try.prog W1.drew = .ok () W2)
    (e0 : W2.cell? ⟨pb, 0, none⟩ = some (.slice (some ⟨g, 0, none⟩) n cap)) (e1 : W2.cell? ⟨pb, 1, none⟩ = some (.map (some mb)))
    (v0 : W2.cell? ⟨g, j * 6, none⟩ = some (.int .i64 a1)) (v1 : W2.cell? ⟨g, j * 6 + 1, none⟩ = some (.int .i64 a2)) (v2 : W2.cell? ⟨g, j * 6 + 2, none⟩ = some (.int .i64 a3))
    (m2 : (Instr.mapUpdate 94 (.map (some mb)) (.agg #[.int .i64 a1, .int .i64 a2, .int .i64 a3]) (.int .i64 j)).run Try.prog W2.drew = .ok () W3) :
    Calls Try.prog 113 #[.pointer (some ⟨pb, 0, none⟩), .int .i64 i, .int .i64 j] w fun e w' => e = .returned (.tuple #[]) ∧ w' = W3 := by
  have mixed : Try.prog.follows .mixedOrders = true := by kernel_rfl
  have n00 := ne_cell g (i * 6) (j * 6) (by omega)
  have n01 := ne_cell g (i * 6) (j * 6 + 1) (by omega)
  have n02 := ne_cell g (i * 6) (j * 6 + 2) (by omega)
  have n03 := ne_cell g (i * 6) (j * 6 + 3) (by omega)
  have n04 := ne_cell g (i * 6) (j * 6 + 4) (by omega)
  have n05 := ne_cell g (i * 6) (j * 6 + 5) (by omega)
  have n10 := ne_cell g (i * 6 + 1) (j * 6) (by omega)
  have n11 := ne_cell g (i * 6 + 1) (j * 6 + 1) (by omega)
  have n12 := ne_cell g (i * 6 + 1) (j * 6 + 2) (by omega)
  have n13 := ne_cell g (i * 6 + 1) (j * 6 + 3) (by omega)
  have n14 := ne_cell g (i * 6 + 1) (j * 6 + 4) (by omega)
  have n15 := ne_cell g (i * 6 + 1) (j * 6 + 5) (by omega)
  have n20 := ne_cell g (i * 6 + 2) (j * 6) (by omega)
  have n21 := ne_cell g (i * 6 + 2) (j * 6 + 1) (by omega)
  have n22 := ne_cell g (i * 6 + 2) (j * 6 + 2) (by omega)
  have n23 := ne_cell g (i * 6 + 2) (j * 6 + 3) (by omega)
  have n24 := ne_cell g (i * 6 + 2) (j * 6 + 4) (by omega)
  have n25 := ne_cell g (i * 6 + 2) (j * 6 + 5) (by omega)
  have n30 := ne_cell g (i * 6 + 3) (j * 6) (by omega)
  have n31 := ne_cell g (i * 6 + 3) (j * 6 + 1) (by omega)
  have n32 := ne_cell g (i * 6 + 3) (j * 6 + 2) (by omega)
  have n33 := ne_cell g (i * 6 + 3) (j * 6 + 3) (by omega)
  have n34 := ne_cell g (i * 6 + 3) (j * 6 + 4) (by omega)
  have n35 := ne_cell g (i * 6 + 3) (j * 6 + 5) (by omega)
  have n40 := ne_cell g (i * 6 + 4) (j * 6) (by omega)
  have n41 := ne_cell g (i * 6 + 4) (j * 6 + 1) (by omega)
  have n42 := ne_cell g (i * 6 + 4) (j * 6 + 2) (by omega)
  have n43 := ne_cell g (i * 6 + 4) (j * 6 + 3) (by omega)
  have n44 := ne_cell g (i * 6 + 4) (j * 6 + 4) (by omega)
  have n45 := ne_cell g (i * 6 + 4) (j * 6 + 5) (by omega)
  have n50 := ne_cell g (i * 6 + 5) (j * 6) (by omega)
  have n51 := ne_cell g (i * 6 + 5) (j * 6 + 1) (by omega)
  have n52 := ne_cell g (i * 6 + 5) (j * 6 + 2) (by omega)
  have n53 := ne_cell g (i * 6 + 5) (j * 6 + 3) (by omega)
  have n54 := ne_cell g (i * 6 + 5) (j * 6 + 4) (by omega)
  have n55 := ne_cell g (i * 6 + 5) (j * 6 + 5) (by omega)
  go_enter Try.func113, Try.ntmps113
  go_wp2_with fail
  go_region
  clear n00 n01 n02 n03 n04 n05 n10 n11 n12 n13 n14 n15 n20 n21 n22 n23 n24 n25 n30 n31 n32 n33 n34 n35 n40 n41 n42 n43 n44 n45 n50 n51 n52 n53 n54 n55
  generalize hwq : World.drew _ = wq
  obtain rfl : wq = W1 := by rw [hW1.out, setCells6]; exact hwq.symm
  clear hwq hW1 x0 x1 x2 x3 x4 x5 y0 y1 y2 y3 y4 y5 c0 hf
  go_wp2_with fail
  go_region
  clear u0 u1 u2 m1 d0 d1
  go_wp2_with fail
  go_region
  go_wp2
  go_end0
  exact ⟨rfl, rfl⟩

set_option maxHeartbeats 1000000 in
theorem swap_raw_same {w W1 W2 W3 : World} {pb mb g cap n i : Nat} {a1 a2 a3 a4 a5 a6 : Int} (hl : n ≤ 64) (hi : (i : Int) < (n : Int))
    (c0 : w.cell? ⟨pb, 0, none⟩ = some (.slice (some ⟨g, 0, none⟩) n cap)) (hpg : pb ≠ g)
    (x0 : w.cell? ⟨g, i * 6, none⟩ = some (.int .i64 a1)) (x1 : w.cell? ⟨g, i * 6 + 1, none⟩ = some (.int .i64 a2)) (x2 : w.cell? ⟨g, i * 6 + 2, none⟩ = some (.int .i64 a3))
    (x3 : w.cell? ⟨g, i * 6 + 3, none⟩ = some (.int .i64 a4)) (x4 : w.cell? ⟨g, i * 6 + 4, none⟩ = some (.int .i64 a5)) (x5 : w.cell? ⟨g, i * 6 + 5, none⟩ = some (.int .i64 a6))
    (hf : ∀ p, w.frozen? ⟨g, p, none⟩ = false)
    (hW1 : Hid (W1 = ((w.drew.setCells g (i * 6) (enc ((a1, a2, a3), a4, a5, a6))).setCells g (i * 6) (enc ((a1, a2, a3), a4, a5, a6)))))
    (d0 : W1.cell? ⟨pb, 0, none⟩ = some (.slice (some ⟨g, 0, none⟩) n cap)) (d1 : W1.cell? ⟨pb, 1, none⟩ = some (.map (some mb)))
    (u0 : W1.cell? ⟨g, i * 6, none⟩ = some (.int .i64 a1)) (u1 : W1.cell? ⟨g, i * 6 + 1, none⟩ = some (.int .i64 a2)) (u2 : W1.cell? ⟨g, i * 6 + 2, none⟩ = some (.int .i64 a3))
    (m1 : (Instr.mapUpdate 94 (.map (some mb)) (.agg #[.int .i64 a1, .int .i64 a2, .int .i64 a3]) (.int .i64 i)).run Try.prog W1.drew = .ok () W2)
    (e0 : W2.cell? ⟨pb, 0, none⟩ = some (.slice (some ⟨g, 0, none⟩) n cap)) (e1 : W2.cell? ⟨pb, 1, none⟩ = some (.map (some mb)))
    (v0 : W2.cell? ⟨g, i * 6, none⟩ = some (.int .i64 a1)) (v1 : W2.cell? ⟨g, i * 6 + 1, none⟩ = some (.int .i64 a2)) (v2 : W2.cell? ⟨g, i * 6 + 2, none⟩ = some (.int .i64 a3))
    (m2 : (Instr.mapUpdate 94 (.map (some mb)) (.agg #[.int .i64 a1, .int .i64 a2, .int .i64 a3]) (.int .i64 i)).run Try.prog W2.drew = .ok () W3) :
    Calls Try.prog 113 #[.pointer (some ⟨pb, 0, none⟩), .int .i64 i, .int .i64 i] w fun e w' => e = .returned (.tuple #[]) ∧ w' = W3 := by
  have mixed : Try.prog.follows .mixedOrders = true := by kernel_rfl
  go_enter Try.func113, Try.ntmps113
  go_wp2_with fail
  go_region
  generalize hwq : World.drew _ = wq
  obtain rfl : wq = W1 := by rw [hW1.out, setCells6]; exact hwq.symm
  clear hwq hW1 x0 x1 x2 x3 x4 x5 c0 hf
  go_wp2_with fail
  go_region
  clear u0 u1 u2 m1 d0 d1
  go_wp2_with fail
  go_region
  go_wp2
  go_end0
  exact ⟨rfl, rfl⟩

end Go.Proofs.Ytkodjioofkdepaa.Q
