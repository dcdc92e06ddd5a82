/- Proved: how the pile of solo lies in memory, and contracts of its Len, Less, Swap, Push and Pop. -/
import Derived.Test.YtmfcbalhabcodaaGreatHHpp
import Derived.BigRegion
import Derived.Deep.RegionLaw
import Derived.Shelf.SlicesQ.Reverse
namespace Go.Proofs.YtmfcbalhabcodaaGreat.H
open Go.RowKit Go.Sort
set_option linter.unusedVariables false

/-- The pile at block pb: its slice v of the messages d. -/
structure IsP (w : World) (pb : Nat) (v : Value) (d : List M) : Prop where
  bx : w.heap[pb]? = some (.cells #[v] 67 (0, 0))
  own : Own w v d
  nv : v.ownBlock ≠ some pb
  len : d.length ≤ 20000

def FP (pb : Nat) (v : Value) : Nat → Prop := fun k => k = pb ∨ v.ownBlock = some k
theorem IsP.c0 {w : World} {pb : Nat} {v : Value} {d : List M} (h : IsP w pb v d) : w.cell? ⟨pb, 0, none⟩ = some v := by simp [World.cell?, h.bx]
theorem IsP.f0 {w : World} {pb : Nat} {v : Value} {d : List M} (h : IsP w pb v d) : w.frozen? ⟨pb, 0, none⟩ = false := by simp [World.frozen?, h.bx]
theorem IsP.lt {w : World} {pb : Nat} {v : Value} {d : List M} (h : IsP w pb v d) : ∀ k, FP pb v k → k < w.heap.size := by
  rintro k (rfl | hk)
  · exact cell_lt h.c0
  · exact h.own.lt hk
theorem IsP.keep {S : Nat → Prop} {w w' : World} {pb : Nat} {v : Value} {d : List M} (h : IsP w pb v d) (hf : Fr S w w') (hs : ∀ k, FP pb v k → ¬ S k) : IsP w' pb v d :=
  ⟨(hf.block pb (cell_lt h.c0) (hs pb (.inl rfl))).trans h.bx, h.own.keep hf (fun g hg => hs g (.inr hg)), h.nv, h.len⟩
theorem IsP.below {w w' : World} {pb : Nat} {v : Value} {d : List M} (h : IsP w pb v d) (hb : Below w.heap.size w w') : IsP w' pb v d :=
  h.keep (Fr.of_below (S := fun _ => False) hb) (fun _ _ g => g)

set_option maxHeartbeats 400000 in
theorem plen_any {w : World} {pb : Nat} {v : Value} {d : List M} (h : IsP w pb v d) :
    Calls Tryz.prog 55 #[.pointer (some ⟨pb, 0, none⟩)] w fun e w' => e = .returned (.int .i64 d.length) ∧ w' = w := by
  have h0 := h.c0
  obtain ⟨a, cap, rfl, _⟩ := h.own.rd
  have hl := h.len
  clear h
  go_enter Tryz.func55, Tryz.ntmps55
  go_wp2
  go_ret
  exact ⟨rfl, rfl⟩

theorem own_nonempty {w : World} {v : Value} {d : List M} (h : Own w v d) {i : Nat} (hi : i < d.length) : ∃ g cap, v = .slice (some ⟨g, 0, none⟩) d.length cap ∧ g < w.heap.size := by
  rcases h.2 with ⟨rfl, hn⟩ | ⟨g, cap, cur, rfl, _, hg, _⟩
  · omega
  · exact ⟨g, cap, rfl, (Array.getElem?_eq_some_iff.1 hg).1⟩
theorem own_cell {w : World} {g cap : Nat} {d : List M} (h : Own w (.slice (some ⟨g, 0, none⟩) d.length cap) d) {i : Nat} (hi : i < d.length) {x : M} (hx : d[i] = x) :
    w.cell? ⟨g, i * 6, none⟩ = some (.int .i64 x.1.1) ∧ w.cell? ⟨g, i * 6 + 1, none⟩ = some (.int .i64 x.1.2.1) ∧ w.cell? ⟨g, i * 6 + 2, none⟩ = some (.int .i64 x.1.2.2) ∧
    w.cell? ⟨g, i * 6 + 3, none⟩ = some (.int .i64 x.2.1) ∧ w.cell? ⟨g, i * 6 + 4, none⟩ = some (.int .i64 x.2.2.1) ∧ w.cell? ⟨g, i * 6 + 5, none⟩ = some (.int .i64 x.2.2.2) := by
  subst hx
  have hc : ∀ c, c < 6 → w.cell? ⟨g, i * 6 + c, none⟩ = (enc d[i])[c]? := fun c hc => by rw [World.ownsRow.cellAt h _ (by omega), flat_get d i c hi hc]
  exact ⟨hc 0 (by omega), hc 1 (by omega), hc 2 (by omega), hc 3 (by omega), hc 4 (by omega), hc 5 (by omega)⟩

theorem inTurn_t (a b : M) (w : World) : Calls Tryz.prog 65 #[mv a, mv b] w fun e w' => e = .returned (.int .i64 (tcmp a b)) ∧ ∃ q os, w' = grow (w.drewN q) os :=
  inTurn_any ⟨a.1.1, a.1.2.1, a.1.2.2, a.2.1, a.2.2.1, a.2.2.2⟩ ⟨b.1.1, b.1.2.1, b.1.2.2, b.2.1, b.2.2.1, b.2.2.2⟩ w

set_option maxHeartbeats 1000000 in
theorem less_any {w : World} {pb : Nat} {v : Value} {d : List M} (h : IsP w pb v d) (i j : Nat) (hi : i < d.length) (hj : j < d.length) :
    Calls Tryz.prog 157 #[.pointer (some ⟨pb, 0, none⟩), .int .i64 i, .int .i64 j] w fun e w' => e = .returned (.bool (klt d[i] d[j])) ∧ Below w.heap.size w w' := by
  have mixed : Tryz.prog.follows .mixedOrders = true := by kernel_rfl
  have h0 := h.c0
  have hlt := cell_lt h0
  obtain ⟨g, cap, rfl, hg⟩ := own_nonempty h.own hi
  have hl := h.len
  obtain ⟨x, hx⟩ : ∃ x, d[i] = x := ⟨_, rfl⟩
  obtain ⟨y, hy⟩ : ∃ y, d[j] = y := ⟨_, rfl⟩
  obtain ⟨x0, x1, x2, x3, x4, x5⟩ := own_cell h.own hi hx
  obtain ⟨y0, y1, y2, y3, y4, y5⟩ := own_cell h.own hj hy
  rw [hx, hy]
  clear hx hy h
  have H0 := fun n os => cell_grown (n := n) (os := os) (a := ⟨pb, 0, none⟩) hlt h0
  have X0 := fun n os => cell_grown (n := n) (os := os) (a := ⟨g, i * 6, none⟩) hg x0
  have X1 := fun n os => cell_grown (n := n) (os := os) (a := ⟨g, i * 6 + 1, none⟩) hg x1
  have X2 := fun n os => cell_grown (n := n) (os := os) (a := ⟨g, i * 6 + 2, none⟩) hg x2
  have X3 := fun n os => cell_grown (n := n) (os := os) (a := ⟨g, i * 6 + 3, none⟩) hg x3
  have X4 := fun n os => cell_grown (n := n) (os := os) (a := ⟨g, i * 6 + 4, none⟩) hg x4
  have X5 := fun n os => cell_grown (n := n) (os := os) (a := ⟨g, i * 6 + 5, none⟩) hg x5
  have Y0 := fun n os => cell_grown (n := n) (os := os) (a := ⟨g, j * 6, none⟩) hg y0
  have Y1 := fun n os => cell_grown (n := n) (os := os) (a := ⟨g, j * 6 + 1, none⟩) hg y1
  have Y2 := fun n os => cell_grown (n := n) (os := os) (a := ⟨g, j * 6 + 2, none⟩) hg y2
  have Y3 := fun n os => cell_grown (n := n) (os := os) (a := ⟨g, j * 6 + 3, none⟩) hg y3
  have Y4 := fun n os => cell_grown (n := n) (os := os) (a := ⟨g, j * 6 + 4, none⟩) hg y4
  have Y5 := fun n os => cell_grown (n := n) (os := os) (a := ⟨g, j * 6 + 5, none⟩) hg y5
  have hb := fun W => inTurn_t x y W
  have hk : klt x y = decide (tcmp x y < 0) := rfl
  rw [hk]
  generalize tcmp x y = r at hb ⊢
  have hi' : (i : Int) < (d.length : Int) := by omega
  have hj' : (j : Int) < (d.length : Int) := by omega
  have hd : d.length ≤ 20000 := hl
  generalize d.length = n at *
  clear hl h0 x0 x1 x2 x3 x4 x5 y0 y1 y2 y3 y4 y5
  obtain ⟨⟨x1, x2, x3⟩, x4, x5, x6⟩ := x
  obtain ⟨⟨y1, y2, y3⟩, y4, y5, y6⟩ := y
  dsimp only at *
  go_enter Tryz.func157, Tryz.ntmps157
  go_wp2_with fail
  go_quiet_grown (first | (go_at_call 65; refine Calls.grown_of (hb _)))
  go_wp2
  go_ret
  exact ⟨rfl, below_grow _ _ _⟩
theorem holds_load {W : World} {g : Nat} {d : List M} (h : HoldsK enc 6 W g 0 d.toArray) {i : Nat} (hi : i < d.length) {x : M} (hx : d[i] = x) :
    Sem.run Tryz.prog (loadCellsFrom ⟨g, i * 6, none⟩ 0 6 #[]) W = .ok (enc x).toArray W := by
  have h1 := HoldsK.cells h enc_len (i := i) (by simpa using hi)
  have h2 : d.toArray[i]! = x := by rw [getElem!_pos _ _ (by simpa using hi)]; simpa using hx
  rw [h2] at h1
  simp only [Nat.zero_add] at h1
  exact run_loadCellsFrom_list Tryz.prog _ _ _ 6 (enc_len _) h1
theorem holds_store {W : World} {g : Nat} {d : List M} (h : HoldsK enc 6 W g 0 d.toArray) {i : Nat} (hi : i < d.length) (x : M) :
    Sem.run Tryz.prog (storeCells ⟨g, i * 6, none⟩ (enc x) 0) W = .ok () (W.setCells g (i * 6) (enc x)) := by
  have := stores_of_holds Tryz.prog h (i * 6) (enc x) (by rw [enc_len, size_flatK]; simp; omega) (enc_one x)
  simpa only [Nat.zero_add] using this

theorem ne_cell (g p q : Nat) (h : p ≠ q) (W : World) (u : Value) : (W.setCell ⟨g, p, none⟩ u).cell? ⟨g, q, none⟩ = W.cell? ⟨g, q, none⟩ := by
  rw [World.cell?_setCell_other]
  simp
theorem setCells6 (w : World) (g p q : Nat) (a b : M) : ((w.drew.setCells g p (enc b)).setCells g q (enc a)) =
    ((((((((((((w.setCell ⟨g, p, none⟩ (.int .i64 b.1.1)).setCell ⟨g, p + 1, none⟩ (.int .i64 b.1.2.1)).setCell ⟨g, p + 2, none⟩ (.int .i64 b.1.2.2)).setCell ⟨g, p + 3, none⟩ (.int .i64 b.2.1)).setCell ⟨g, p + 4, none⟩ (.int .i64 b.2.2.1)).setCell ⟨g, p + 5, none⟩ (.int .i64 b.2.2.2)).setCell
      ⟨g, q, none⟩ (.int .i64 a.1.1)).setCell ⟨g, q + 1, none⟩ (.int .i64 a.1.2.1)).setCell ⟨g, q + 2, none⟩ (.int .i64 a.1.2.2)).setCell ⟨g, q + 3, none⟩ (.int .i64 a.2.1)).setCell ⟨g, q + 4, none⟩ (.int .i64 a.2.2.1)).setCell ⟨g, q + 5, none⟩ (.int .i64 a.2.2.2)).drew := by
  simp only [enc, World.setCells, Nat.add_assoc, Nat.reduceAdd, World.setCell_drew]
set_option maxRecDepth 100000 in
set_option maxHeartbeats 1000000 in
theorem swap_raw {w W1 : World} {pb g cap n i j : Nat} {a1 a2 a3 a4 a5 a6 b1 b2 b3 b4 b5 b6 : Int} (hij : i ≠ j) (hl : n ≤ 20000) (hi : (i : Int) < (n : Int)) (hj : (j : Int) < (n : Int))
    (c0 : w.cell? ⟨pb, 0, none⟩ = some (.slice (some ⟨g, 0, none⟩) n cap)) (hpg : pb ≠ g)
    (x0 : w.cell? ⟨g, i * 6, none⟩ = some (.int .i64 a1)) (x1 : w.cell? ⟨g, i * 6 + 1, none⟩ = some (.int .i64 a2)) (x2 : w.cell? ⟨g, i * 6 + 2, none⟩ = some (.int .i64 a3))
    (x3 : w.cell? ⟨g, i * 6 + 3, none⟩ = some (.int .i64 a4)) (x4 : w.cell? ⟨g, i * 6 + 4, none⟩ = some (.int .i64 a5)) (x5 : w.cell? ⟨g, i * 6 + 5, none⟩ = some (.int .i64 a6))
    (y0 : w.cell? ⟨g, j * 6, none⟩ = some (.int .i64 b1)) (y1 : w.cell? ⟨g, j * 6 + 1, none⟩ = some (.int .i64 b2)) (y2 : w.cell? ⟨g, j * 6 + 2, none⟩ = some (.int .i64 b3))
    (y3 : w.cell? ⟨g, j * 6 + 3, none⟩ = some (.int .i64 b4)) (y4 : w.cell? ⟨g, j * 6 + 4, none⟩ = some (.int .i64 b5)) (y5 : w.cell? ⟨g, j * 6 + 5, none⟩ = some (.int .i64 b6))
    (hf : ∀ p, w.frozen? ⟨g, p, none⟩ = false)
    (hW1 : Hid (W1 = ((w.drew.setCells g (i * 6) (enc ((b1, b2, b3), b4, b5, b6))).setCells g (j * 6) (enc ((a1, a2, a3), a4, a5, a6))))) :
    Calls Tryz.prog 160 #[.pointer (some ⟨pb, 0, none⟩), .int .i64 i, .int .i64 j] w fun e w' => e = .returned (.tuple #[]) ∧ w' = W1 := by
  have mixed : Tryz.prog.follows .mixedOrders = true := by kernel_rfl
  have n00 := ne_cell g (i * 6) (j * 6) (by omega)
  have n01 := ne_cell g (i * 6) (j * 6 + 1) (by omega)
  have n02 := ne_cell g (i * 6) (j * 6 + 2) (by omega)
  have n03 := ne_cell g (i * 6) (j * 6 + 3) (by omega)
  have n04 := ne_cell g (i * 6) (j * 6 + 4) (by omega)
  have n05 := ne_cell g (i * 6) (j * 6 + 5) (by omega)
  have n10 := ne_cell g (i * 6 + 1) (j * 6) (by omega)
  have n11 := ne_cell g (i * 6 + 1) (j * 6 + 1) (by omega)
  have n12 := ne_cell g (i * 6 + 1) (j * 6 + 2) (by omega)
  have n13 := ne_cell g (i * 6 + 1) (j * 6 + 3) (by omega)
  have n14 := ne_cell g (i * 6 + 1) (j * 6 + 4) (by omega)
  have n15 := ne_cell g (i * 6 + 1) (j * 6 + 5) (by omega)
  have n20 := ne_cell g (i * 6 + 2) (j * 6) (by omega)
  have n21 := ne_cell g (i * 6 + 2) (j * 6 + 1) (by omega)
  have n22 := ne_cell g (i * 6 + 2) (j * 6 + 2) (by omega)
  have n23 := ne_cell g (i * 6 + 2) (j * 6 + 3) (by omega)
  have n24 := ne_cell g (i * 6 + 2) (j * 6 + 4) (by omega)
  have n25 := ne_cell g (i * 6 + 2) (j * 6 + 5) (by omega)
  have n30 := ne_cell g (i * 6 + 3) (j * 6) (by omega)
  have n31 := ne_cell g (i * 6 + 3) (j * 6 + 1) (by omega)
  have n32 := ne_cell g (i * 6 + 3) (j * 6 + 2) (by omega)
  have n33 := ne_cell g (i * 6 + 3) (j * 6 + 3) (by omega)
  have n34 := ne_cell g (i * 6 + 3) (j * 6 + 4) (by omega)
  have n35 := ne_cell g (i * 6 + 3) (j * 6 + 5) (by omega)
  have n40 := ne_cell g (i * 6 + 4) (j * 6) (by omega)
  have n41 := ne_cell g (i * 6 + 4) (j * 6 + 1) (by omega)
  have n42 := ne_cell g (i * 6 + 4) (j * 6 + 2) (by omega)
  have n43 := ne_cell g (i * 6 + 4) (j * 6 + 3) (by omega)
  have n44 := ne_cell g (i * 6 + 4) (j * 6 + 4) (by omega)
  have n45 := ne_cell g (i * 6 + 4) (j * 6 + 5) (by omega)
  have n50 := ne_cell g (i * 6 + 5) (j * 6) (by omega)
  have n51 := ne_cell g (i * 6 + 5) (j * 6 + 1) (by omega)
  have n52 := ne_cell g (i * 6 + 5) (j * 6 + 2) (by omega)
  have n53 := ne_cell g (i * 6 + 5) (j * 6 + 3) (by omega)
  have n54 := ne_cell g (i * 6 + 5) (j * 6 + 4) (by omega)
  have n55 := ne_cell g (i * 6 + 5) (j * 6 + 5) (by omega)
  go_enter Tryz.func160, Tryz.ntmps160
  go_wp2_with fail
  go_region
  clear n00 n01 n02 n03 n04 n05 n10 n11 n12 n13 n14 n15 n20 n21 n22 n23 n24 n25 n30 n31 n32 n33 n34 n35 n40 n41 n42 n43 n44 n45 n50 n51 n52 n53 n54 n55
  generalize hwq : World.drew _ = wq
  obtain rfl : wq = W1 := by rw [hW1.out, setCells6]; exact hwq.symm
  clear hwq hW1 x0 x1 x2 x3 x4 x5 y0 y1 y2 y3 y4 y5 c0 hf
  go_wp2
  go_end0
  exact ⟨rfl, rfl⟩

set_option maxRecDepth 100000 in
set_option maxHeartbeats 1000000 in
theorem swap_raw_same {w W1 : World} {pb g cap n i : Nat} {a1 a2 a3 a4 a5 a6 : Int} (hl : n ≤ 20000) (hi : (i : Int) < (n : Int))
    (c0 : w.cell? ⟨pb, 0, none⟩ = some (.slice (some ⟨g, 0, none⟩) n cap)) (hpg : pb ≠ g)
    (x0 : w.cell? ⟨g, i * 6, none⟩ = some (.int .i64 a1)) (x1 : w.cell? ⟨g, i * 6 + 1, none⟩ = some (.int .i64 a2)) (x2 : w.cell? ⟨g, i * 6 + 2, none⟩ = some (.int .i64 a3))
    (x3 : w.cell? ⟨g, i * 6 + 3, none⟩ = some (.int .i64 a4)) (x4 : w.cell? ⟨g, i * 6 + 4, none⟩ = some (.int .i64 a5)) (x5 : w.cell? ⟨g, i * 6 + 5, none⟩ = some (.int .i64 a6))
    (hf : ∀ p, w.frozen? ⟨g, p, none⟩ = false)
    (hW1 : Hid (W1 = ((w.drew.setCells g (i * 6) (enc ((a1, a2, a3), a4, a5, a6))).setCells g (i * 6) (enc ((a1, a2, a3), a4, a5, a6))))) :
    Calls Tryz.prog 160 #[.pointer (some ⟨pb, 0, none⟩), .int .i64 i, .int .i64 i] w fun e w' => e = .returned (.tuple #[]) ∧ w' = W1 := by
  have mixed : Tryz.prog.follows .mixedOrders = true := by kernel_rfl
  go_enter Tryz.func160, Tryz.ntmps160
  go_wp2_with fail
  go_region
  generalize hwq : World.drew _ = wq
  obtain rfl : wq = W1 := by rw [hW1.out, setCells6]; exact hwq.symm
  clear hwq hW1 x0 x1 x2 x3 x4 x5 c0 hf
  go_wp2
  go_end0
  exact ⟨rfl, rfl⟩

theorem fr_mapBlock (w : World) (n g : Nat) (f : Array Value → Array Value) : Fr (fun k => k = g) w (mapBlock (Sort.ahead w n) g f) :=
  ⟨rfl, rfl, rfl, by simp [mapBlock], fun k hk hn => by simp [mapBlock, Array.getElem?_modify, Ne.symm hn]⟩
theorem size_putCells (off : Nat) (F c : Array Value) : (putCells id off F c).size = c.size := by simp [putCells]
/-- A row of the program's own in which other messages, as many, were put. -/
theorem Own.put {w : World} {g cap : Nat} {d d' : List M} (h : Own w (.slice (some ⟨g, 0, none⟩) d.length cap) d) (hl : d'.length = d.length) (n : Nat) : Own (putRowK enc 6 (Sort.ahead w n) g 0 d'.toArray) (.slice (some ⟨g, 0, none⟩) d'.length cap) d' := by
  refine own_of_holds h hl (fun cur hc => ?_) ?_
  · exact mapBlock_shape (Sort.ahead w n) g _ (fun c => size_putCells 0 _ c) cur 38 (0, 0) hc
  · exact holdsK_putRowK enc 6 (Sort.ahead w n) g 0 d.toArray d'.toArray (holdsK_ahead enc 6 w n g 0 _ h.holds) (by simpa using hl)

set_option maxRecDepth 10000 in
set_option maxHeartbeats 400000 in
theorem swap_any {w : World} {pb : Nat} {v : Value} {d : List M} (h : IsP w pb v d) (i j : Nat) (hi : i < d.length) (hj : j < d.length) :
    Calls Tryz.prog 160 #[.pointer (some ⟨pb, 0, none⟩), .int .i64 i, .int .i64 j] w fun e w' => e = .returned (.tuple #[]) ∧ IsP w' pb v (swapL d i j) ∧ Fr (FP pb v) w w' := by
  obtain ⟨g, cap, rfl, hg⟩ := own_nonempty h.own hi
  have hpg : pb ≠ g := fun e => h.nv (by rw [e]; rfl)
  have hl := h.len
  have hls := swapL_len d i j
  obtain ⟨W1, hW1⟩ : ∃ W1, W1 = putRowK enc 6 (Sort.ahead w 1) g 0 (swapL d i j).toArray := ⟨_, rfl⟩
  have hW : W1 = (w.drew.setCells g (i * 6) (enc d[j])).setCells g (j * 6) (enc d[i]) := by
    have e := swap_worldK enc 6 enc_len w 0 1 g 0 d.toArray i j (by simpa using hi) (by simpa using hj)
    rw [Sort.ahead_zero, putRowK_self enc 6 w g 0 _ h.own.holds, getElem!_pos d.toArray j (by simpa using hj), getElem!_pos d.toArray i (by simpa using hi)] at e
    simp only [Nat.zero_add, List.getElem_toArray] at e
    rw [hW1]
    have e2 : (swapL d i j).toArray = swp d.toArray i j := by simp [swapL]
    rw [e2]
    exact e.symm
  have fr1 : Fr (fun k => k = g) w W1 := by rw [hW1]; exact fr_mapBlock w 1 g _
  have own1 : Own W1 (.slice (some ⟨g, 0, none⟩) (swapL d i j).length cap) (swapL d i j) := by rw [hW1]; exact h.own.put hls 1
  have hfz : ∀ p, w.frozen? ⟨g, p, none⟩ = false := fun p => World.ownsRow.frozenAt h.own p
  have post : IsP W1 pb (.slice (some ⟨g, 0, none⟩) d.length cap) (swapL d i j) ∧ Fr (FP pb (.slice (some ⟨g, 0, none⟩) d.length cap)) w W1 :=
    ⟨⟨(fr1.block pb (cell_lt h.c0) hpg).trans h.bx, by rw [← hls]; exact own1, h.nv, by rw [hls]; exact hl⟩, fr1.wide (fun k hk => by subst hk; exact .inr rfl)⟩
  obtain ⟨x, hx⟩ : ∃ x, d[i] = x := ⟨_, rfl⟩
  obtain ⟨y, hy⟩ : ∃ y, d[j] = y := ⟨_, rfl⟩
  rw [hx, hy] at hW
  obtain ⟨x0, x1, x2, x3, x4, x5⟩ := own_cell h.own hi hx
  obtain ⟨y0, y1, y2, y3, y4, y5⟩ := own_cell h.own hj hy
  by_cases hij : i = j
  · subst hij
    have hxy : y = x := hy.symm.trans hx
    subst hxy
    exact (swap_raw_same (n := d.length) hl (by omega) h.c0 hpg x0 x1 x2 x3 x4 x5 hfz (show Hid _ from hW)).mono fun e w' ⟨he, hw⟩ => ⟨he, by rw [hw]; exact post⟩
  · exact (swap_raw (n := d.length) hij hl (by omega) (by omega) h.c0 hpg x0 x1 x2 x3 x4 x5 y0 y1 y2 y3 y4 y5 hfz (show Hid _ from hW)).mono fun e w' ⟨he, hw⟩ => ⟨he, by rw [hw]; exact post⟩

end Go.Proofs.YtmfcbalhabcodaaGreat.H
