/- Proved: how the pile of prio lies in memory, and contracts of its Len and Less. -/
import Derived.Test.YtkodjioofkdepaaQCmp
import Derived.Test.YtkodjioofkdepaaQKeys
import Derived.Deep.QuietTactic
import Derived.BigQuiet
import Derived.Shelf.SlSortCmp.QuietGrown
namespace Go.Proofs.Ytkodjioofkdepaa.Q
open Go.RowKit Go.Sort
set_option linter.unusedVariables false
set_option maxRecDepth 100000

/-- The pile at block pb: its slice v of the messages d, its map at mb. -/
structure IsP (w : World) (pb mb : Nat) (v : Value) (d : List M) : Prop where
  c0 : w.cell? ⟨pb, 0, none⟩ = some v
  c1 : w.cell? ⟨pb, 1, none⟩ = some (.map (some mb))
  f0 : w.frozen? ⟨pb, 0, none⟩ = false
  own : Own w v d
  map : MapIs w mb d
  ne : pb ≠ mb
  nv : v.ownBlock ≠ some pb
  nm : v.ownBlock ≠ some mb
  wf : ∀ m ∈ d, mwf m
  nd : (d.map Prod.fst).Nodup
  len : d.length ≤ 64

def FP (pb mb : Nat) (v : Value) : Nat → Prop := fun k => k = pb ∨ k = mb ∨ v.ownBlock = some k
theorem cell_lt {w : World} {b o : Nat} {v : Value} (h : w.cell? ⟨b, o, none⟩ = some v) : b < w.heap.size := by
  obtain ⟨c, e, fr, h1, _⟩ := cells_of_cell? h
  exact (Array.getElem?_eq_some_iff.1 h1).1
theorem IsP.lt {w : World} {pb mb : Nat} {v : Value} {d : List M} (h : IsP w pb mb v d) : ∀ k, FP pb mb v k → k < w.heap.size := by
  rintro k (rfl | rfl | hk)
  · exact cell_lt h.c0
  · exact h.map.lt
  · exact h.own.lt hk
theorem IsP.keep {S : Nat → Prop} {w w' : World} {pb mb : Nat} {v : Value} {d : List M} (h : IsP w pb mb v d) (hf : Fr S w w') (hs : ∀ k, FP pb mb v k → ¬ S k) : IsP w' pb mb v d :=
  ⟨(hf.cell (p := ⟨pb, 0, none⟩) (cell_lt h.c0) (hs pb (.inl rfl))).trans h.c0, (hf.cell (p := ⟨pb, 1, none⟩) (cell_lt h.c1) (hs pb (.inl rfl))).trans h.c1, (hf.frozen (p := ⟨pb, 0, none⟩) (cell_lt h.c0) (hs pb (.inl rfl))).trans h.f0,
   h.own.keep hf (fun g hg => hs g (.inr (.inr hg))), h.map.keep hf (hs mb (.inr (.inl rfl))), h.ne, h.nv, h.nm, h.wf, h.nd, h.len⟩
theorem IsP.below {w w' : World} {pb mb : Nat} {v : Value} {d : List M} (h : IsP w pb mb v d) (hb : Below w.heap.size w w') : IsP w' pb mb v d :=
  h.keep (Fr.of_below (S := fun _ => False) hb) (fun _ _ g => g)

set_option maxHeartbeats 400000 in
theorem plen_any {w : World} {pb mb : Nat} {v : Value} {d : List M} (h : IsP w pb mb v d) :
    Calls Try.prog 62 #[.pointer (some ⟨pb, 0, none⟩)] w fun e w' => e = .returned (.int .i64 d.length) ∧ w' = w := by
  have h0 := h.c0
  obtain ⟨a, cap, rfl, _⟩ := h.own.rd
  have hl := h.len
  clear h
  go_enter Try.func62, Try.ntmps62
  go_wp2
  go_ret
  exact ⟨rfl, rfl⟩

theorem own_nonempty {w : World} {v : Value} {d : List M} (h : Own w v d) {i : Nat} (hi : i < d.length) : ∃ g cap, v = .slice (some ⟨g, 0, none⟩) d.length cap ∧ g < w.heap.size := by
  rcases h.2 with ⟨rfl, hn⟩ | ⟨g, cap, cur, rfl, _, hg, _⟩
  · omega
  · exact ⟨g, cap, rfl, (Array.getElem?_eq_some_iff.1 hg).1⟩
theorem own_cell {w : World} {g cap : Nat} {d : List M} (h : Own w (.slice (some ⟨g, 0, none⟩) d.length cap) d) {i : Nat} (hi : i < d.length) {x : M} (hx : d[i] = x) :
    w.cell? ⟨g, i * 6, none⟩ = some (.int .i64 x.1.1) ∧ w.cell? ⟨g, i * 6 + 1, none⟩ = some (.int .i64 x.1.2.1) ∧ w.cell? ⟨g, i * 6 + 2, none⟩ = some (.int .i64 x.1.2.2) ∧
    w.cell? ⟨g, i * 6 + 3, none⟩ = some (.int .i64 x.2.1) ∧ w.cell? ⟨g, i * 6 + 4, none⟩ = some (.int .i64 x.2.2.1) ∧ w.cell? ⟨g, i * 6 + 5, none⟩ = some (.int .i64 x.2.2.2) := by
  subst hx
  have hc : ∀ c, c < 6 → w.cell? ⟨g, i * 6 + c, none⟩ = (enc d[i])[c]? := fun c hc => by rw [World.ownsRow.cellAt h _ (by omega), flat_get d i c hi hc]
  exact ⟨hc 0 (by omega), hc 1 (by omega), hc 2 (by omega), hc 3 (by omega), hc 4 (by omega), hc 5 (by omega)⟩

set_option maxHeartbeats 1000000 in
theorem less_any {w : World} {pb mb : Nat} {v : Value} {d : List M} (h : IsP w pb mb v d) (i j : Nat) (hi : i < d.length) (hj : j < d.length) :
    Calls Try.prog 110 #[.pointer (some ⟨pb, 0, none⟩), .int .i64 i, .int .i64 j] w fun e w' => e = .returned (.bool (klt d[i].1 d[j].1)) ∧ Below w.heap.size w w' := by
  have mixed : Try.prog.follows .mixedOrders = true := by kernel_rfl
  have h0 := h.c0
  have hlt := cell_lt h0
  obtain ⟨g, cap, rfl, hg⟩ := own_nonempty h.own hi
  have hl := h.len
  obtain ⟨x, hx⟩ : ∃ x, d[i] = x := ⟨_, rfl⟩
  obtain ⟨y, hy⟩ : ∃ y, d[j] = y := ⟨_, rfl⟩
  obtain ⟨x0, x1, x2, x3, x4, x5⟩ := own_cell h.own hi hx
  obtain ⟨y0, y1, y2, y3, y4, y5⟩ := own_cell h.own hj hy
  rw [hx, hy]
  clear hx hy h
  have H0 := fun n os => cell_grown (n := n) (os := os) (a := ⟨pb, 0, none⟩) hlt h0
  have X0 := fun n os => cell_grown (n := n) (os := os) (a := ⟨g, i * 6, none⟩) hg x0
  have X1 := fun n os => cell_grown (n := n) (os := os) (a := ⟨g, i * 6 + 1, none⟩) hg x1
  have X2 := fun n os => cell_grown (n := n) (os := os) (a := ⟨g, i * 6 + 2, none⟩) hg x2
  have X3 := fun n os => cell_grown (n := n) (os := os) (a := ⟨g, i * 6 + 3, none⟩) hg x3
  have X4 := fun n os => cell_grown (n := n) (os := os) (a := ⟨g, i * 6 + 4, none⟩) hg x4
  have X5 := fun n os => cell_grown (n := n) (os := os) (a := ⟨g, i * 6 + 5, none⟩) hg x5
  have Y0 := fun n os => cell_grown (n := n) (os := os) (a := ⟨g, j * 6, none⟩) hg y0
  have Y1 := fun n os => cell_grown (n := n) (os := os) (a := ⟨g, j * 6 + 1, none⟩) hg y1
  have Y2 := fun n os => cell_grown (n := n) (os := os) (a := ⟨g, j * 6 + 2, none⟩) hg y2
  have Y3 := fun n os => cell_grown (n := n) (os := os) (a := ⟨g, j * 6 + 3, none⟩) hg y3
  have Y4 := fun n os => cell_grown (n := n) (os := os) (a := ⟨g, j * 6 + 4, none⟩) hg y4
  have Y5 := fun n os => cell_grown (n := n) (os := os) (a := ⟨g, j * 6 + 5, none⟩) hg y5
  have hb := fun W => byKey_any x y W
  have hk : klt x.1 y.1 = decide (kcmp x.1 y.1 < 0) := rfl
  rw [hk]
  generalize kcmp x.1 y.1 = r at hb ⊢
  have hi' : (i : Int) < (d.length : Int) := by omega
  have hj' : (j : Int) < (d.length : Int) := by omega
  have hd : d.length ≤ 64 := hl
  generalize d.length = n at *
  clear hl h0 x0 x1 x2 x3 x4 x5 y0 y1 y2 y3 y4 y5
  obtain ⟨⟨x1, x2, x3⟩, x4, x5, x6⟩ := x
  obtain ⟨⟨y1, y2, y3⟩, y4, y5, y6⟩ := y
  dsimp only at *
  go_enter Try.func110, Try.ntmps110
  go_wp2_with fail
  go_quiet_grown (first | (go_at_call 114; refine Calls.grown_of (hb _)))
  go_wp2
  go_ret
  exact ⟨rfl, below_grow _ _ _⟩
end Go.Proofs.Ytkodjioofkdepaa.Q
