/- Proved: the contract of the statements' echo: the small federation, and what comes of it as plain data. -/
import Derived.Test.YtkodjioofkdepaaNod
namespace Go.Proofs.Ytkodjioofkdepaa
open Go.RowKit Go.Shelf
set_option linter.unusedVariables false
set_option maxRecDepth 100000

/-- The small federation, its rows in the blocks from s on. -/
def ecR (s : Nat) : Rl := ⟨0, 0, 0, some ⟨s + 1, 0, none⟩, 1, [(0, 2, 1)]⟩
def ecF0 (s : Nat) : Fd := ⟨0, 2, 0, some ⟨s + 1 + 1, 0, none⟩, 1, [ecR s], some ⟨s + 1 + 1 + 1 + 1, 0, none⟩, 1, [0], some ⟨s + 1 + 1 + 1 + 1 + 1, 0, none⟩, 1, [0], none, 0, []⟩
def ecF1 (s : Nat) : Fd := ⟨0, 1, 0, none, 0, [], some ⟨s + 1 + 1 + 1 + 1 + 1 + 1, 0, none⟩, 1, [0], some ⟨s + 1 + 1 + 1 + 1 + 1 + 1 + 1, 0, none⟩, 1, [0], none, 0, []⟩
def ecF2 : Fd := ⟨0, 1, 0, none, 0, [], none, 0, [], none, 0, [], none, 0, []⟩
def ecD (s : Nat) : Wd := ⟨some ⟨s + 1 + 1 + 1, 0, none⟩, 1, [-1], some ⟨s + 1 + 1 + 1 + 1 + 1 + 1 + 1 + 1, 0, none⟩, 3, [ecF0 s, ecF1 s, ecF2], 100⟩
theorem ecD_wld (s : Nat) : wldE (ecD s) = (-1, 0) := by rfl
theorem ecD_n (s : Nat) : (ecD s).fs.length = 3 := rfl
theorem ecD_f (s : Nat) : nthF (ecD s).fs 0 = ecF0 s := rfl
theorem rdI1 {W : World} {g : Nat} {x : Int} (h : W.heap[g]? = some (.cells #[.int .i64 x] 3 (0, 0))) : RdI W W.heap.size (some ⟨g, 0, none⟩) [x] := fun _ => ⟨g, 0, rfl, (Array.getElem?_eq_some_iff.1 h).1, fun i hi => by
  have hi0 : i = 0 := by simp at hi; omega
  subst hi0
  rw [cellN h]; rfl⟩
theorem rdI0 (W : World) : RdI W W.heap.size none [] := fun g => absurd rfl g
theorem rdO0 (W : World) : RdO W none [] := fun g => absurd rfl g
theorem rdR0 (W : World) : RdR W none [] := ⟨fun g => absurd rfl g, fun r hr => by cases hr⟩
theorem rdO1 {W : World} {g : Nat} {o : O} (h : W.heap[g]? = some (.cells #[.int .i64 o.1, .int .i64 o.2.1, .int .i64 o.2.2] 69 (0, 0))) : RdO W (some ⟨g, 0, none⟩) [o] := fun _ => ⟨g, 0, rfl, (Array.getElem?_eq_some_iff.1 h).1, fun i hi c hc => by
  have hi0 : i = 0 := by simp at hi; omega
  subst hi0
  rw [cellN h]
  rcases (by omega : c = 0 ∨ c = 1 ∨ c = 2) with rfl | rfl | rfl <;> rfl⟩
theorem ec_ww {W : World} {s : Nat} (h1 : W.heap[s + 1]? = some (.cells #[.int .i64 0, .int .i64 2, .int .i64 1] 69 (0, 0)))
    (h2 : W.heap[s + 1 + 1]? = some (.cells #[.int .i64 0, .int .i64 0, .int .i64 0, .slice (some ⟨s + 1, 0, none⟩) 1 1] 71 (0, 0)))
    (h3 : W.heap[s + 1 + 1 + 1]? = some (.cells #[.int .i64 (-1)] 3 (0, 0)))
    (h4 : W.heap[s + 1 + 1 + 1 + 1]? = some (.cells #[.int .i64 0] 3 (0, 0)))
    (h5 : W.heap[s + 1 + 1 + 1 + 1 + 1]? = some (.cells #[.int .i64 0] 3 (0, 0)))
    (h6 : W.heap[s + 1 + 1 + 1 + 1 + 1 + 1]? = some (.cells #[.int .i64 0] 3 (0, 0)))
    (h7 : W.heap[s + 1 + 1 + 1 + 1 + 1 + 1 + 1]? = some (.cells #[.int .i64 0] 3 (0, 0)))
    (h8 : W.heap[s + 1 + 1 + 1 + 1 + 1 + 1 + 1 + 1]? = some (.cells ((encF (ecF0 s) ++ encF (ecF1 s) ++ encF ecF2).toArray) 65 (0, 0))) : Ww W (ecD s) := by
  have rR : RdR W (some ⟨s + 1 + 1, 0, none⟩) [ecR s] := by
    refine ⟨fun _ => ⟨s + 1 + 1, 0, rfl, (Array.getElem?_eq_some_iff.1 h2).1, fun i hi c hc => ?_⟩, fun r hr => ?_⟩
    · have hi0 : i = 0 := by simp at hi; omega
      subst hi0
      rw [cellN h2]
      rcases (by omega : c = 0 ∨ c = 1 ∨ c = 2 ∨ c = 3) with rfl | rfl | rfl | rfl <;> rfl
    · simp at hr
      subst hr
      exact ⟨by unfold i64; simp [ecR], by unfold i64; simp [ecR], rdO1 (o := (0, 2, 1)) h1⟩
  refine ⟨rdI1 h3, ⟨fun _ => ⟨_, 0, rfl, (Array.getElem?_eq_some_iff.1 h8).1, fun i hi c hc => ?_⟩, fun f hf => ?_⟩, by simp [ecD], by simp [ecD], fun f hf => ?_⟩
  · have hi3 : i < 3 := by simpa [ecD] using hi
    rw [cellN h8]
    rcases (by omega : i = 0 ∨ i = 1 ∨ i = 2) with rfl | rfl | rfl <;> rcases (by omega : c = 0 ∨ c = 1 ∨ c = 2 ∨ c = 3 ∨ c = 4 ∨ c = 5 ∨ c = 6) with rfl | rfl | rfl | rfl | rfl | rfl | rfl <;> rfl
  · simp [ecD] at hf
    rcases hf with rfl | rfl | rfl
    · exact ⟨rR, rdI1 h4, rdI1 h5, rdO0 W⟩
    · exact ⟨rdR0 W, rdI1 h6, rdI1 h7, rdO0 W⟩
    · exact ⟨rdR0 W, rdI0 W, rdI0 W, rdO0 W⟩
  · simp [ecD] at hf
    rcases hf with rfl | rfl | rfl
    · exact ⟨⟨by simp [ecF0], fun r hr => by simp [ecF0] at hr; subst hr; simp [ecR]⟩, by simp [ecF0], by simp [ecF0], by simp [ecF0]⟩
    · exact ⟨⟨by simp [ecF1], fun r hr => by simp [ecF1] at hr⟩, by simp [ecF1], by simp [ecF1], by simp [ecF1]⟩
    · exact ⟨⟨by simp [ecF2], fun r hr => by simp [ecF2] at hr⟩, by simp [ecF2], by simp [ecF2], by simp [ecF2]⟩

theorem ec_made (w : World) : Ww (((((((((w.alloc (.cells #[.slice (some ⟨w.heap.size + 1 + 1 + 1, 0, none⟩) 1 1, .slice (some ⟨w.heap.size + 1 + 1 + 1 + 1 + 1 + 1 + 1 + 1, 0, none⟩) 3 3, .int .i64 100] 31)).alloc (.cells #[.int .i64 0, .int .i64 2, .int .i64 1] 69)).alloc (.cells #[.int .i64 0, .int .i64 0, .int .i64 0, .slice (some ⟨w.heap.size + 1, 0, none⟩) 1 1] 71)).alloc (.cells #[.int .i64 (-1)] 3)).alloc (.cells #[.int .i64 0] 3)).alloc (.cells #[.int .i64 0] 3)).alloc (.cells #[.int .i64 0] 3)).alloc (.cells #[.int .i64 0] 3)).alloc (.cells #[.int .i64 0, .int .i64 2, .int .i64 0, .slice (some ⟨w.heap.size + 1 + 1, 0, none⟩) 1 1, .slice (some ⟨w.heap.size + 1 + 1 + 1 + 1, 0, none⟩) 1 1, .slice (some ⟨w.heap.size + 1 + 1 + 1 + 1 + 1, 0, none⟩) 1 1, .slice none 0 0, .int .i64 0, .int .i64 1, .int .i64 0, .slice none 0 0, .slice (some ⟨w.heap.size + 1 + 1 + 1 + 1 + 1 + 1, 0, none⟩) 1 1, .slice (some ⟨w.heap.size + 1 + 1 + 1 + 1 + 1 + 1 + 1, 0, none⟩) 1 1, .slice none 0 0, .int .i64 0, .int .i64 1, .int .i64 0, .slice none 0 0, .slice none 0 0, .slice none 0 0, .slice none 0 0] 65)) (ecD w.heap.size) ∧ Below w.heap.size w (((((((((w.alloc (.cells #[.slice (some ⟨w.heap.size + 1 + 1 + 1, 0, none⟩) 1 1, .slice (some ⟨w.heap.size + 1 + 1 + 1 + 1 + 1 + 1 + 1 + 1, 0, none⟩) 3 3, .int .i64 100] 31)).alloc (.cells #[.int .i64 0, .int .i64 2, .int .i64 1] 69)).alloc (.cells #[.int .i64 0, .int .i64 0, .int .i64 0, .slice (some ⟨w.heap.size + 1, 0, none⟩) 1 1] 71)).alloc (.cells #[.int .i64 (-1)] 3)).alloc (.cells #[.int .i64 0] 3)).alloc (.cells #[.int .i64 0] 3)).alloc (.cells #[.int .i64 0] 3)).alloc (.cells #[.int .i64 0] 3)).alloc (.cells #[.int .i64 0, .int .i64 2, .int .i64 0, .slice (some ⟨w.heap.size + 1 + 1, 0, none⟩) 1 1, .slice (some ⟨w.heap.size + 1 + 1 + 1 + 1, 0, none⟩) 1 1, .slice (some ⟨w.heap.size + 1 + 1 + 1 + 1 + 1, 0, none⟩) 1 1, .slice none 0 0, .int .i64 0, .int .i64 1, .int .i64 0, .slice none 0 0, .slice (some ⟨w.heap.size + 1 + 1 + 1 + 1 + 1 + 1, 0, none⟩) 1 1, .slice (some ⟨w.heap.size + 1 + 1 + 1 + 1 + 1 + 1 + 1, 0, none⟩) 1 1, .slice none 0 0, .int .i64 0, .int .i64 1, .int .i64 0, .slice none 0 0, .slice none 0 0, .slice none 0 0, .slice none 0 0] 65)) ∧ (((((((((w.alloc (.cells #[.slice (some ⟨w.heap.size + 1 + 1 + 1, 0, none⟩) 1 1, .slice (some ⟨w.heap.size + 1 + 1 + 1 + 1 + 1 + 1 + 1 + 1, 0, none⟩) 3 3, .int .i64 100] 31)).alloc (.cells #[.int .i64 0, .int .i64 2, .int .i64 1] 69)).alloc (.cells #[.int .i64 0, .int .i64 0, .int .i64 0, .slice (some ⟨w.heap.size + 1, 0, none⟩) 1 1] 71)).alloc (.cells #[.int .i64 (-1)] 3)).alloc (.cells #[.int .i64 0] 3)).alloc (.cells #[.int .i64 0] 3)).alloc (.cells #[.int .i64 0] 3)).alloc (.cells #[.int .i64 0] 3)).alloc (.cells #[.int .i64 0, .int .i64 2, .int .i64 0, .slice (some ⟨w.heap.size + 1 + 1, 0, none⟩) 1 1, .slice (some ⟨w.heap.size + 1 + 1 + 1 + 1, 0, none⟩) 1 1, .slice (some ⟨w.heap.size + 1 + 1 + 1 + 1 + 1, 0, none⟩) 1 1, .slice none 0 0, .int .i64 0, .int .i64 1, .int .i64 0, .slice none 0 0, .slice (some ⟨w.heap.size + 1 + 1 + 1 + 1 + 1 + 1, 0, none⟩) 1 1, .slice (some ⟨w.heap.size + 1 + 1 + 1 + 1 + 1 + 1 + 1, 0, none⟩) 1 1, .slice none 0 0, .int .i64 0, .int .i64 1, .int .i64 0, .slice none 0 0, .slice none 0 0, .slice none 0 0, .slice none 0 0] 65)).heap[w.heap.size]? = some (.cells #[.slice (some ⟨w.heap.size + 1 + 1 + 1, 0, none⟩) 1 1, .slice (some ⟨w.heap.size + 1 + 1 + 1 + 1 + 1 + 1 + 1 + 1, 0, none⟩) 3 3, .int .i64 100] 31 (0, 0)) := by
  obtain ⟨w1, e1⟩ : ∃ w1, w1 = w.alloc (.cells #[.slice (some ⟨w.heap.size + 1 + 1 + 1, 0, none⟩) 1 1, .slice (some ⟨w.heap.size + 1 + 1 + 1 + 1 + 1 + 1 + 1 + 1, 0, none⟩) 3 3, .int .i64 100] 31) := ⟨_, rfl⟩
  have s1 : w1.heap.size = w.heap.size + 1 := by rw [e1]; simp
  have b1 : Below w.heap.size w w1 := by rw [e1]; exact al _ _
  have n1 : w1.heap[w.heap.size]? = some (.cells #[.slice (some ⟨w.heap.size + 1 + 1 + 1, 0, none⟩) 1 1, .slice (some ⟨w.heap.size + 1 + 1 + 1 + 1 + 1 + 1 + 1 + 1, 0, none⟩) 3 3, .int .i64 100] 31 (0, 0)) := by rw [e1]; exact (MapKept.heap_alloc _ _).1
  obtain ⟨w2, e2⟩ : ∃ w2, w2 = w1.alloc (.cells #[.int .i64 0, .int .i64 2, .int .i64 1] 69) := ⟨_, rfl⟩
  have s2 : w2.heap.size = w.heap.size + 1 + 1 := by rw [e2]; simp [s1]
  have b2 : Below w1.heap.size w1 w2 := by rw [e2]; exact al _ _
  have n2 : w2.heap[w.heap.size + 1]? = some (.cells #[.int .i64 0, .int .i64 2, .int .i64 1] 69 (0, 0)) := by rw [e2, ← s1]; exact (MapKept.heap_alloc _ _).1
  obtain ⟨w3, e3⟩ : ∃ w3, w3 = w2.alloc (.cells #[.int .i64 0, .int .i64 0, .int .i64 0, .slice (some ⟨w.heap.size + 1, 0, none⟩) 1 1] 71) := ⟨_, rfl⟩
  have s3 : w3.heap.size = w.heap.size + 1 + 1 + 1 := by rw [e3]; simp [s2]
  have b3 : Below w2.heap.size w2 w3 := by rw [e3]; exact al _ _
  have n3 : w3.heap[w.heap.size + 1 + 1]? = some (.cells #[.int .i64 0, .int .i64 0, .int .i64 0, .slice (some ⟨w.heap.size + 1, 0, none⟩) 1 1] 71 (0, 0)) := by rw [e3, ← s2]; exact (MapKept.heap_alloc _ _).1
  obtain ⟨w4, e4⟩ : ∃ w4, w4 = w3.alloc (.cells #[.int .i64 (-1)] 3) := ⟨_, rfl⟩
  have s4 : w4.heap.size = w.heap.size + 1 + 1 + 1 + 1 := by rw [e4]; simp [s3]
  have b4 : Below w3.heap.size w3 w4 := by rw [e4]; exact al _ _
  have n4 : w4.heap[w.heap.size + 1 + 1 + 1]? = some (.cells #[.int .i64 (-1)] 3 (0, 0)) := by rw [e4, ← s3]; exact (MapKept.heap_alloc _ _).1
  obtain ⟨w5, e5⟩ : ∃ w5, w5 = w4.alloc (.cells #[.int .i64 0] 3) := ⟨_, rfl⟩
  have s5 : w5.heap.size = w.heap.size + 1 + 1 + 1 + 1 + 1 := by rw [e5]; simp [s4]
  have b5 : Below w4.heap.size w4 w5 := by rw [e5]; exact al _ _
  have n5 : w5.heap[w.heap.size + 1 + 1 + 1 + 1]? = some (.cells #[.int .i64 0] 3 (0, 0)) := by rw [e5, ← s4]; exact (MapKept.heap_alloc _ _).1
  obtain ⟨w6, e6⟩ : ∃ w6, w6 = w5.alloc (.cells #[.int .i64 0] 3) := ⟨_, rfl⟩
  have s6 : w6.heap.size = w.heap.size + 1 + 1 + 1 + 1 + 1 + 1 := by rw [e6]; simp [s5]
  have b6 : Below w5.heap.size w5 w6 := by rw [e6]; exact al _ _
  have n6 : w6.heap[w.heap.size + 1 + 1 + 1 + 1 + 1]? = some (.cells #[.int .i64 0] 3 (0, 0)) := by rw [e6, ← s5]; exact (MapKept.heap_alloc _ _).1
  obtain ⟨w7, e7⟩ : ∃ w7, w7 = w6.alloc (.cells #[.int .i64 0] 3) := ⟨_, rfl⟩
  have s7 : w7.heap.size = w.heap.size + 1 + 1 + 1 + 1 + 1 + 1 + 1 := by rw [e7]; simp [s6]
  have b7 : Below w6.heap.size w6 w7 := by rw [e7]; exact al _ _
  have n7 : w7.heap[w.heap.size + 1 + 1 + 1 + 1 + 1 + 1]? = some (.cells #[.int .i64 0] 3 (0, 0)) := by rw [e7, ← s6]; exact (MapKept.heap_alloc _ _).1
  obtain ⟨w8, e8⟩ : ∃ w8, w8 = w7.alloc (.cells #[.int .i64 0] 3) := ⟨_, rfl⟩
  have s8 : w8.heap.size = w.heap.size + 1 + 1 + 1 + 1 + 1 + 1 + 1 + 1 := by rw [e8]; simp [s7]
  have b8 : Below w7.heap.size w7 w8 := by rw [e8]; exact al _ _
  have n8 : w8.heap[w.heap.size + 1 + 1 + 1 + 1 + 1 + 1 + 1]? = some (.cells #[.int .i64 0] 3 (0, 0)) := by rw [e8, ← s7]; exact (MapKept.heap_alloc _ _).1
  obtain ⟨w9, e9⟩ : ∃ w9, w9 = w8.alloc (.cells #[.int .i64 0, .int .i64 2, .int .i64 0, .slice (some ⟨w.heap.size + 1 + 1, 0, none⟩) 1 1, .slice (some ⟨w.heap.size + 1 + 1 + 1 + 1, 0, none⟩) 1 1, .slice (some ⟨w.heap.size + 1 + 1 + 1 + 1 + 1, 0, none⟩) 1 1, .slice none 0 0, .int .i64 0, .int .i64 1, .int .i64 0, .slice none 0 0, .slice (some ⟨w.heap.size + 1 + 1 + 1 + 1 + 1 + 1, 0, none⟩) 1 1, .slice (some ⟨w.heap.size + 1 + 1 + 1 + 1 + 1 + 1 + 1, 0, none⟩) 1 1, .slice none 0 0, .int .i64 0, .int .i64 1, .int .i64 0, .slice none 0 0, .slice none 0 0, .slice none 0 0, .slice none 0 0] 65) := ⟨_, rfl⟩
  have s9 : w9.heap.size = w.heap.size + 1 + 1 + 1 + 1 + 1 + 1 + 1 + 1 + 1 := by rw [e9]; simp [s8]
  have b9 : Below w8.heap.size w8 w9 := by rw [e9]; exact al _ _
  have n9 : w9.heap[w.heap.size + 1 + 1 + 1 + 1 + 1 + 1 + 1 + 1]? = some (.cells #[.int .i64 0, .int .i64 2, .int .i64 0, .slice (some ⟨w.heap.size + 1 + 1, 0, none⟩) 1 1, .slice (some ⟨w.heap.size + 1 + 1 + 1 + 1, 0, none⟩) 1 1, .slice (some ⟨w.heap.size + 1 + 1 + 1 + 1 + 1, 0, none⟩) 1 1, .slice none 0 0, .int .i64 0, .int .i64 1, .int .i64 0, .slice none 0 0, .slice (some ⟨w.heap.size + 1 + 1 + 1 + 1 + 1 + 1, 0, none⟩) 1 1, .slice (some ⟨w.heap.size + 1 + 1 + 1 + 1 + 1 + 1 + 1, 0, none⟩) 1 1, .slice none 0 0, .int .i64 0, .int .i64 1, .int .i64 0, .slice none 0 0, .slice none 0 0, .slice none 0 0, .slice none 0 0] 65 (0, 0)) := by rw [e9, ← s8]; exact (MapKept.heap_alloc _ _).1
  rw [← e1]
  rw [← e2]
  rw [← e3]
  rw [← e4]
  rw [← e5]
  rw [← e6]
  rw [← e7]
  rw [← e8]
  rw [← e9]
  exact ⟨ec_ww ((b9.block _ (by omega)).trans ((b8.block _ (by omega)).trans ((b7.block _ (by omega)).trans ((b6.block _ (by omega)).trans ((b5.block _ (by omega)).trans ((b4.block _ (by omega)).trans ((b3.block _ (by omega)).trans n2))))))) ((b9.block _ (by omega)).trans ((b8.block _ (by omega)).trans ((b7.block _ (by omega)).trans ((b6.block _ (by omega)).trans ((b5.block _ (by omega)).trans ((b4.block _ (by omega)).trans n3)))))) ((b9.block _ (by omega)).trans ((b8.block _ (by omega)).trans ((b7.block _ (by omega)).trans ((b6.block _ (by omega)).trans ((b5.block _ (by omega)).trans n4))))) ((b9.block _ (by omega)).trans ((b8.block _ (by omega)).trans ((b7.block _ (by omega)).trans ((b6.block _ (by omega)).trans n5)))) ((b9.block _ (by omega)).trans ((b8.block _ (by omega)).trans ((b7.block _ (by omega)).trans n6))) ((b9.block _ (by omega)).trans ((b8.block _ (by omega)).trans n7)) ((b9.block _ (by omega)).trans n8) n9, ((((((((b1.trans (b2.mono (by omega))).trans (b3.mono (by omega))).trans (b4.mono (by omega))).trans (b5.mono (by omega))).trans (b6.mono (by omega))).trans (b7.mono (by omega))).trans (b8.mono (by omega))).trans (b9.mono (by omega))), ((b9.block _ (by omega)).trans ((b8.block _ (by omega)).trans ((b7.block _ (by omega)).trans ((b6.block _ (by omega)).trans ((b5.block _ (by omega)).trans ((b4.block _ (by omega)).trans ((b3.block _ (by omega)).trans ((b2.block _ (by omega)).trans n1))))))))⟩
set_option maxHeartbeats 1000000 in
theorem echo_any (w : World) :
    Calls Try.prog 7 #[] w fun e w' => e = .returned (wv (ecD w.heap.size)) ∧ Ww w' (ecD w.heap.size) ∧ Below w.heap.size w w' := by
  obtain ⟨h1, h2, h3⟩ := ec_made w
  go_enter Try.func7, Try.ntmps7
  go_wp2
  generalize hwf : World.alloc _ _ = WF
  rw [hwf] at h1 h2 h3
  have m0 := cellN h3 0
  have m1 := cellN h3 1
  have m2 := cellN h3 2
  exact bodyPost_ret (v := wv (ecD w.heap.size)) (by simp [results, Try.results7, go_sem, m0, m1, m2, ecD]) rfl ⟨rfl, h1, h2⟩
end Go.Proofs.Ytkodjioofkdepaa
