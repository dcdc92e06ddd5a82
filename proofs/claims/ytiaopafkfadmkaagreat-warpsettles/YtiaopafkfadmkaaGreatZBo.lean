/- Joined: the texts that follow, each with its own sentence. -/
import Derived.Test.YtiaopafkfadmkaaGreatZJf
set_option linter.unusedVariables false
set_option maxRecDepth 100000
namespace Go.Proofs.YtiaopafkfadmkaaGreat
open Go.RowKit Go.Shelf
def boR0 (s : Nat) : Rl := ⟨0, 0, 1, some ⟨s + 1, 0, none⟩, 1, [(1, 2, 1)]⟩
def boR1 (s : Nat) : Rl := ⟨1, 0, 0, some ⟨s + 1 + 1, 0, none⟩, 2, [(1, 3, 5), (1, 4, 7)]⟩
def boF0 (s : Nat) : Fd := ⟨1, 2, 0, some ⟨s + 1 + 1 + 1, 0, none⟩, 2, [boR0 s, boR1 s], some ⟨s + 1 + 1 + 1 + 1 + 1, 0, none⟩, 1, [1], some ⟨s + 1 + 1 + 1 + 1 + 1 + 1, 0, none⟩, 1, [0], none, 0, []⟩
def boF1 (s : Nat) : Fd := ⟨1, 1, 0, none, 0, [], some ⟨s + 1 + 1 + 1 + 1 + 1 + 1 + 1, 0, none⟩, 1, [0], some ⟨s + 1 + 1 + 1 + 1 + 1 + 1 + 1 + 1, 0, none⟩, 1, [1], none, 0, []⟩
def boF2 (s : Nat) : Fd := ⟨0, 1, 0, none, 0, [], some ⟨s + 1 + 1 + 1 + 1 + 1 + 1 + 1 + 1 + 1, 0, none⟩, 1, [0], some ⟨s + 1 + 1 + 1 + 1 + 1 + 1 + 1 + 1 + 1 + 1, 0, none⟩, 1, [1], none, 0, []⟩
def boD (s : Nat) : Wd := ⟨some ⟨s + 1 + 1 + 1 + 1, 0, none⟩, 2, [-1, -1], some ⟨s + 1 + 1 + 1 + 1 + 1 + 1 + 1 + 1 + 1 + 1 + 1, 0, none⟩, 3, [boF0 s, boF1 s, boF2 s], 200⟩
theorem boD_wld (s : Nat) : wldE (boD s) = (-1, 0) := by rfl
theorem boD_n (s : Nat) : (boD s).fs.length = 3 := rfl
theorem cellW {W : World} {b : Nat} {cs : Array Value} {T : TypeId} {fz : Nat × Nat} (h : W.heap[b]? = some (.cells cs T fz)) (i : Nat) : W.cell? ⟨b, i, none⟩ = cs[i]? := by simp [World.cell?, h]
theorem rdIx {W : World} {g : Nat} {l : List Int} {fz : Nat × Nat} (h : W.heap[g]? = some (.cells (l.map (fun x => Value.int .i64 x)).toArray 3 fz)) : RdI W W.heap.size (some ⟨g, 0, none⟩) l := fun _ => ⟨g, 0, rfl, (Array.getElem?_eq_some_iff.1 h).1, fun i hi => by
 rw [cellW h]
 simp [nthI, hi]⟩
theorem rdOn (W : World) : RdO W none [] := fun g => absurd rfl g
theorem rdRn (W : World) : RdR W none [] := ⟨fun g => absurd rfl g, fun r hr => by cases hr⟩
theorem bo_ww {W : World} {s : Nat} (h1 : W.heap[s + 1]? = some (.cells #[.int .i64 1, .int .i64 2, .int .i64 1] 147 (0, 0))) (h2 : W.heap[s + 1 + 1]? = some (.cells #[.int .i64 1, .int .i64 3, .int .i64 5, .int .i64 1, .int .i64 4, .int .i64 7] 147 (0, 0))) (h3 : W.heap[s + 1 + 1 + 1]? = some (.cells #[.int .i64 0, .int .i64 0, .int .i64 1, .slice (some ⟨s + 1, 0, none⟩) 1 1, .int .i64 1, .int .i64 0, .int .i64 0, .slice (some ⟨s + 1 + 1, 0, none⟩) 2 2] 86 (0, 0))) (h4 : W.heap[s + 1 + 1 + 1 + 1]? = some (.cells #[.int .i64 (-1), .int .i64 (-1)] 3 (0, 0))) (h5 : W.heap[s + 1 + 1 + 1 + 1 + 1]? = some (.cells #[.int .i64 1] 3 (0, 0))) (h6 : W.heap[s + 1 + 1 + 1 + 1 + 1 + 1]? = some (.cells #[.int .i64 0] 3 (0, 0))) (h7 : W.heap[s + 1 + 1 + 1 + 1 + 1 + 1 + 1]? = some (.cells #[.int .i64 0] 3 (0, 0))) (h8 : W.heap[s + 1 + 1 + 1 + 1 + 1 + 1 + 1 + 1]? = some (.cells #[.int .i64 1] 3 (0, 0))) (h9 : W.heap[s + 1 + 1 + 1 + 1 + 1 + 1 + 1 + 1 + 1]? = some (.cells #[.int .i64 0] 3 (0, 0))) (h10 : W.heap[s + 1 + 1 + 1 + 1 + 1 + 1 + 1 + 1 + 1 + 1]? = some (.cells #[.int .i64 1] 3 (0, 0))) (h11 : W.heap[s + 1 + 1 + 1 + 1 + 1 + 1 + 1 + 1 + 1 + 1 + 1]? = some (.cells #[.int .i64 1, .int .i64 2, .int .i64 0, .slice (some ⟨s + 1 + 1 + 1, 0, none⟩) 2 2, .slice (some ⟨s + 1 + 1 + 1 + 1 + 1, 0, none⟩) 1 1, .slice (some ⟨s + 1 + 1 + 1 + 1 + 1 + 1, 0, none⟩) 1 1, .slice none 0 0, .int .i64 1, .int .i64 1, .int .i64 0, .slice none 0 0, .slice (some ⟨s + 1 + 1 + 1 + 1 + 1 + 1 + 1, 0, none⟩) 1 1, .slice (some ⟨s + 1 + 1 + 1 + 1 + 1 + 1 + 1 + 1, 0, none⟩) 1 1, .slice none 0 0, .int .i64 0, .int .i64 1, .int .i64 0, .slice none 0 0, .slice (some ⟨s + 1 + 1 + 1 + 1 + 1 + 1 + 1 + 1 + 1, 0, none⟩) 1 1, .slice (some ⟨s + 1 + 1 + 1 + 1 + 1 + 1 + 1 + 1 + 1 + 1, 0, none⟩) 1 1, .slice none 0 0] 77 (0, 0))) : Ww W (boD s) := by
 have o0 : RdO W (some ⟨s + 1, 0, none⟩) [(1, 2, 1)] := fun _ => ⟨_, 0, rfl, (Array.getElem?_eq_some_iff.1 h1).1, fun i hi c hc => by
  have hi0 : i = 0 := by simp at hi; omega
  subst hi0
  rw [cellW h1]
  rcases (by omega : c = 0 ∨ c = 1 ∨ c = 2) with rfl | rfl | rfl <;> rfl⟩
 have o1 : RdO W (some ⟨s + 1 + 1, 0, none⟩) [(1, 3, 5), (1, 4, 7)] := fun _ => ⟨_, 0, rfl, (Array.getElem?_eq_some_iff.1 h2).1, fun i hi c hc => by
  have hi2 : i < 2 := by simpa using hi
  rw [cellW h2]
  rcases (by omega : i = 0 ∨ i = 1) with rfl | rfl <;> rcases (by omega : c = 0 ∨ c = 1 ∨ c = 2) with rfl | rfl | rfl <;> rfl⟩
 have rR : RdR W (some ⟨s + 1 + 1 + 1, 0, none⟩) [boR0 s, boR1 s] := by
  refine ⟨fun _ => ⟨_, 0, rfl, (Array.getElem?_eq_some_iff.1 h3).1, fun i hi c hc => ?_⟩, fun r hr => ?_⟩
  ·have hi2 : i < 2 := by simpa using hi
   rw [cellW h3]
   rcases (by omega : i = 0 ∨ i = 1) with rfl | rfl <;> rcases (by omega : c = 0 ∨ c = 1 ∨ c = 2 ∨ c = 3) with rfl | rfl | rfl | rfl <;> rfl
  ·simp at hr
   rcases hr with rfl | rfl
   ·exact ⟨by unfold i64; simp [boR0], by unfold i64; simp [boR0], o0⟩
   ·exact ⟨by unfold i64; simp [boR1], by unfold i64; simp [boR1], o1⟩
 refine ⟨rdIx (l := [-1, -1]) h4, ⟨fun _ => ⟨_, 0, rfl, (Array.getElem?_eq_some_iff.1 h11).1, fun i hi c hc => ?_⟩, fun f hf => ?_⟩, by simp [boD], by simp [boD], fun f hf => ?_⟩
 ·have hi3 : i < 3 := by simpa [boD] using hi
  rw [cellW h11]
  rcases (by omega : i = 0 ∨ i = 1 ∨ i = 2) with rfl | rfl | rfl <;> rcases (by omega : c = 0 ∨ c = 1 ∨ c = 2 ∨ c = 3 ∨ c = 4 ∨ c = 5 ∨ c = 6) with rfl | rfl | rfl | rfl | rfl | rfl | rfl <;> rfl
 ·simp [boD] at hf
  rcases hf with rfl | rfl | rfl
  ·exact ⟨rR, rdIx (l := [1]) h5, rdIx (l := [0]) h6, rdOn W⟩
  ·exact ⟨rdRn W, rdIx (l := [0]) h7, rdIx (l := [1]) h8, rdOn W⟩
  ·exact ⟨rdRn W, rdIx (l := [0]) h9, rdIx (l := [1]) h10, rdOn W⟩
 ·simp [boD] at hf
  rcases hf with rfl | rfl | rfl
  ·exact ⟨⟨by simp [boF0], fun r hr => by simp [boF0] at hr; rcases hr with rfl | rfl <;> simp [boR0, boR1]⟩, by simp [boF0], by simp [boF0], by simp [boF0]⟩
  ·exact ⟨⟨by simp [boF1], fun r hr => by simp [boF1] at hr⟩, by simp [boF1], by simp [boF1], by simp [boF1]⟩
  ·exact ⟨⟨by simp [boF2], fun r hr => by simp [boF2] at hr⟩, by simp [boF2], by simp [boF2], by simp [boF2]⟩
set_option maxHeartbeats 2000000 in
theorem bo_made (w : World) : Ww ((((((((((((w.alloc (.cells #[.slice (some ⟨w.heap.size + 1 + 1 + 1 + 1, 0, none⟩) 2 2, .slice (some ⟨w.heap.size + 1 + 1 + 1 + 1 + 1 + 1 + 1 + 1 + 1 + 1 + 1, 0, none⟩) 3 3, .int .i64 200] 25)).alloc (.cells #[.int .i64 1, .int .i64 2, .int .i64 1] 147)).alloc (.cells #[.int .i64 1, .int .i64 3, .int .i64 5, .int .i64 1, .int .i64 4, .int .i64 7] 147)).alloc (.cells #[.int .i64 0, .int .i64 0, .int .i64 1, .slice (some ⟨w.heap.size + 1, 0, none⟩) 1 1, .int .i64 1, .int .i64 0, .int .i64 0, .slice (some ⟨w.heap.size + 1 + 1, 0, none⟩) 2 2] 86)).alloc (.cells #[.int .i64 (-1), .int .i64 (-1)] 3)).alloc (.cells #[.int .i64 1] 3)).alloc (.cells #[.int .i64 0] 3)).alloc (.cells #[.int .i64 0] 3)).alloc (.cells #[.int .i64 1] 3)).alloc (.cells #[.int .i64 0] 3)).alloc (.cells #[.int .i64 1] 3)).alloc (.cells #[.int .i64 1, .int .i64 2, .int .i64 0, .slice (some ⟨w.heap.size + 1 + 1 + 1, 0, none⟩) 2 2, .slice (some ⟨w.heap.size + 1 + 1 + 1 + 1 + 1, 0, none⟩) 1 1, .slice (some ⟨w.heap.size + 1 + 1 + 1 + 1 + 1 + 1, 0, none⟩) 1 1, .slice none 0 0, .int .i64 1, .int .i64 1, .int .i64 0, .slice none 0 0, .slice (some ⟨w.heap.size + 1 + 1 + 1 + 1 + 1 + 1 + 1, 0, none⟩) 1 1, .slice (some ⟨w.heap.size + 1 + 1 + 1 + 1 + 1 + 1 + 1 + 1, 0, none⟩) 1 1, .slice none 0 0, .int .i64 0, .int .i64 1, .int .i64 0, .slice none 0 0, .slice (some ⟨w.heap.size + 1 + 1 + 1 + 1 + 1 + 1 + 1 + 1 + 1, 0, none⟩) 1 1, .slice (some ⟨w.heap.size + 1 + 1 + 1 + 1 + 1 + 1 + 1 + 1 + 1 + 1, 0, none⟩) 1 1, .slice none 0 0] 77)) (boD w.heap.size) ∧ Below w.heap.size w ((((((((((((w.alloc (.cells #[.slice (some ⟨w.heap.size + 1 + 1 + 1 + 1, 0, none⟩) 2 2, .slice (some ⟨w.heap.size + 1 + 1 + 1 + 1 + 1 + 1 + 1 + 1 + 1 + 1 + 1, 0, none⟩) 3 3, .int .i64 200] 25)).alloc (.cells #[.int .i64 1, .int .i64 2, .int .i64 1] 147)).alloc (.cells #[.int .i64 1, .int .i64 3, .int .i64 5, .int .i64 1, .int .i64 4, .int .i64 7] 147)).alloc (.cells #[.int .i64 0, .int .i64 0, .int .i64 1, .slice (some ⟨w.heap.size + 1, 0, none⟩) 1 1, .int .i64 1, .int .i64 0, .int .i64 0, .slice (some ⟨w.heap.size + 1 + 1, 0, none⟩) 2 2] 86)).alloc (.cells #[.int .i64 (-1), .int .i64 (-1)] 3)).alloc (.cells #[.int .i64 1] 3)).alloc (.cells #[.int .i64 0] 3)).alloc (.cells #[.int .i64 0] 3)).alloc (.cells #[.int .i64 1] 3)).alloc (.cells #[.int .i64 0] 3)).alloc (.cells #[.int .i64 1] 3)).alloc (.cells #[.int .i64 1, .int .i64 2, .int .i64 0, .slice (some ⟨w.heap.size + 1 + 1 + 1, 0, none⟩) 2 2, .slice (some ⟨w.heap.size + 1 + 1 + 1 + 1 + 1, 0, none⟩) 1 1, .slice (some ⟨w.heap.size + 1 + 1 + 1 + 1 + 1 + 1, 0, none⟩) 1 1, .slice none 0 0, .int .i64 1, .int .i64 1, .int .i64 0, .slice none 0 0, .slice (some ⟨w.heap.size + 1 + 1 + 1 + 1 + 1 + 1 + 1, 0, none⟩) 1 1, .slice (some ⟨w.heap.size + 1 + 1 + 1 + 1 + 1 + 1 + 1 + 1, 0, none⟩) 1 1, .slice none 0 0, .int .i64 0, .int .i64 1, .int .i64 0, .slice none 0 0, .slice (some ⟨w.heap.size + 1 + 1 + 1 + 1 + 1 + 1 + 1 + 1 + 1, 0, none⟩) 1 1, .slice (some ⟨w.heap.size + 1 + 1 + 1 + 1 + 1 + 1 + 1 + 1 + 1 + 1, 0, none⟩) 1 1, .slice none 0 0] 77)) ∧ ((((((((((((w.alloc (.cells #[.slice (some ⟨w.heap.size + 1 + 1 + 1 + 1, 0, none⟩) 2 2, .slice (some ⟨w.heap.size + 1 + 1 + 1 + 1 + 1 + 1 + 1 + 1 + 1 + 1 + 1, 0, none⟩) 3 3, .int .i64 200] 25)).alloc (.cells #[.int .i64 1, .int .i64 2, .int .i64 1] 147)).alloc (.cells #[.int .i64 1, .int .i64 3, .int .i64 5, .int .i64 1, .int .i64 4, .int .i64 7] 147)).alloc (.cells #[.int .i64 0, .int .i64 0, .int .i64 1, .slice (some ⟨w.heap.size + 1, 0, none⟩) 1 1, .int .i64 1, .int .i64 0, .int .i64 0, .slice (some ⟨w.heap.size + 1 + 1, 0, none⟩) 2 2] 86)).alloc (.cells #[.int .i64 (-1), .int .i64 (-1)] 3)).alloc (.cells #[.int .i64 1] 3)).alloc (.cells #[.int .i64 0] 3)).alloc (.cells #[.int .i64 0] 3)).alloc (.cells #[.int .i64 1] 3)).alloc (.cells #[.int .i64 0] 3)).alloc (.cells #[.int .i64 1] 3)).alloc (.cells #[.int .i64 1, .int .i64 2, .int .i64 0, .slice (some ⟨w.heap.size + 1 + 1 + 1, 0, none⟩) 2 2, .slice (some ⟨w.heap.size + 1 + 1 + 1 + 1 + 1, 0, none⟩) 1 1, .slice (some ⟨w.heap.size + 1 + 1 + 1 + 1 + 1 + 1, 0, none⟩) 1 1, .slice none 0 0, .int .i64 1, .int .i64 1, .int .i64 0, .slice none 0 0, .slice (some ⟨w.heap.size + 1 + 1 + 1 + 1 + 1 + 1 + 1, 0, none⟩) 1 1, .slice (some ⟨w.heap.size + 1 + 1 + 1 + 1 + 1 + 1 + 1 + 1, 0, none⟩) 1 1, .slice none 0 0, .int .i64 0, .int .i64 1, .int .i64 0, .slice none 0 0, .slice (some ⟨w.heap.size + 1 + 1 + 1 + 1 + 1 + 1 + 1 + 1 + 1, 0, none⟩) 1 1, .slice (some ⟨w.heap.size + 1 + 1 + 1 + 1 + 1 + 1 + 1 + 1 + 1 + 1, 0, none⟩) 1 1, .slice none 0 0] 77)).heap[w.heap.size]? = some (.cells #[.slice (some ⟨w.heap.size + 1 + 1 + 1 + 1, 0, none⟩) 2 2, .slice (some ⟨w.heap.size + 1 + 1 + 1 + 1 + 1 + 1 + 1 + 1 + 1 + 1 + 1, 0, none⟩) 3 3, .int .i64 200] 25 (0, 0)) := by
 obtain ⟨w1, e1⟩ : ∃ w1, w1 = w.alloc (.cells #[.slice (some ⟨w.heap.size + 1 + 1 + 1 + 1, 0, none⟩) 2 2, .slice (some ⟨w.heap.size + 1 + 1 + 1 + 1 + 1 + 1 + 1 + 1 + 1 + 1 + 1, 0, none⟩) 3 3, .int .i64 200] 25) := ⟨_, rfl⟩
 have s1 : w1.heap.size = w.heap.size + 1 := by rw [e1]; simp
 have b1 : Below w.heap.size w w1 := by rw [e1]; exact al _ _
 have n1 : w1.heap[w.heap.size]? = some (.cells #[.slice (some ⟨w.heap.size + 1 + 1 + 1 + 1, 0, none⟩) 2 2, .slice (some ⟨w.heap.size + 1 + 1 + 1 + 1 + 1 + 1 + 1 + 1 + 1 + 1 + 1, 0, none⟩) 3 3, .int .i64 200] 25 (0, 0)) := by rw [e1]; exact (MapKept.heap_alloc _ _).1
 obtain ⟨w2, e2⟩ : ∃ w2, w2 = w1.alloc (.cells #[.int .i64 1, .int .i64 2, .int .i64 1] 147) := ⟨_, rfl⟩
 have s2 : w2.heap.size = w.heap.size + 1 + 1 := by rw [e2]; simp [s1]
 have b2 : Below w1.heap.size w1 w2 := by rw [e2]; exact al _ _
 have n2 : w2.heap[w.heap.size + 1]? = some (.cells #[.int .i64 1, .int .i64 2, .int .i64 1] 147 (0, 0)) := by rw [e2, ← s1]; exact (MapKept.heap_alloc _ _).1
 obtain ⟨w3, e3⟩ : ∃ w3, w3 = w2.alloc (.cells #[.int .i64 1, .int .i64 3, .int .i64 5, .int .i64 1, .int .i64 4, .int .i64 7] 147) := ⟨_, rfl⟩
 have s3 : w3.heap.size = w.heap.size + 1 + 1 + 1 := by rw [e3]; simp [s2]
 have b3 : Below w2.heap.size w2 w3 := by rw [e3]; exact al _ _
 have n3 : w3.heap[w.heap.size + 1 + 1]? = some (.cells #[.int .i64 1, .int .i64 3, .int .i64 5, .int .i64 1, .int .i64 4, .int .i64 7] 147 (0, 0)) := by rw [e3, ← s2]; exact (MapKept.heap_alloc _ _).1
 obtain ⟨w4, e4⟩ : ∃ w4, w4 = w3.alloc (.cells #[.int .i64 0, .int .i64 0, .int .i64 1, .slice (some ⟨w.heap.size + 1, 0, none⟩) 1 1, .int .i64 1, .int .i64 0, .int .i64 0, .slice (some ⟨w.heap.size + 1 + 1, 0, none⟩) 2 2] 86) := ⟨_, rfl⟩
 have s4 : w4.heap.size = w.heap.size + 1 + 1 + 1 + 1 := by rw [e4]; simp [s3]
 have b4 : Below w3.heap.size w3 w4 := by rw [e4]; exact al _ _
 have n4 : w4.heap[w.heap.size + 1 + 1 + 1]? = some (.cells #[.int .i64 0, .int .i64 0, .int .i64 1, .slice (some ⟨w.heap.size + 1, 0, none⟩) 1 1, .int .i64 1, .int .i64 0, .int .i64 0, .slice (some ⟨w.heap.size + 1 + 1, 0, none⟩) 2 2] 86 (0, 0)) := by rw [e4, ← s3]; exact (MapKept.heap_alloc _ _).1
 obtain ⟨w5, e5⟩ : ∃ w5, w5 = w4.alloc (.cells #[.int .i64 (-1), .int .i64 (-1)] 3) := ⟨_, rfl⟩
 have s5 : w5.heap.size = w.heap.size + 1 + 1 + 1 + 1 + 1 := by rw [e5]; simp [s4]
 have b5 : Below w4.heap.size w4 w5 := by rw [e5]; exact al _ _
 have n5 : w5.heap[w.heap.size + 1 + 1 + 1 + 1]? = some (.cells #[.int .i64 (-1), .int .i64 (-1)] 3 (0, 0)) := by rw [e5, ← s4]; exact (MapKept.heap_alloc _ _).1
 obtain ⟨w6, e6⟩ : ∃ w6, w6 = w5.alloc (.cells #[.int .i64 1] 3) := ⟨_, rfl⟩
 have s6 : w6.heap.size = w.heap.size + 1 + 1 + 1 + 1 + 1 + 1 := by rw [e6]; simp [s5]
 have b6 : Below w5.heap.size w5 w6 := by rw [e6]; exact al _ _
 have n6 : w6.heap[w.heap.size + 1 + 1 + 1 + 1 + 1]? = some (.cells #[.int .i64 1] 3 (0, 0)) := by rw [e6, ← s5]; exact (MapKept.heap_alloc _ _).1
 obtain ⟨w7, e7⟩ : ∃ w7, w7 = w6.alloc (.cells #[.int .i64 0] 3) := ⟨_, rfl⟩
 have s7 : w7.heap.size = w.heap.size + 1 + 1 + 1 + 1 + 1 + 1 + 1 := by rw [e7]; simp [s6]
 have b7 : Below w6.heap.size w6 w7 := by rw [e7]; exact al _ _
 have n7 : w7.heap[w.heap.size + 1 + 1 + 1 + 1 + 1 + 1]? = some (.cells #[.int .i64 0] 3 (0, 0)) := by rw [e7, ← s6]; exact (MapKept.heap_alloc _ _).1
 obtain ⟨w8, e8⟩ : ∃ w8, w8 = w7.alloc (.cells #[.int .i64 0] 3) := ⟨_, rfl⟩
 have s8 : w8.heap.size = w.heap.size + 1 + 1 + 1 + 1 + 1 + 1 + 1 + 1 := by rw [e8]; simp [s7]
 have b8 : Below w7.heap.size w7 w8 := by rw [e8]; exact al _ _
 have n8 : w8.heap[w.heap.size + 1 + 1 + 1 + 1 + 1 + 1 + 1]? = some (.cells #[.int .i64 0] 3 (0, 0)) := by rw [e8, ← s7]; exact (MapKept.heap_alloc _ _).1
 obtain ⟨w9, e9⟩ : ∃ w9, w9 = w8.alloc (.cells #[.int .i64 1] 3) := ⟨_, rfl⟩
 have s9 : w9.heap.size = w.heap.size + 1 + 1 + 1 + 1 + 1 + 1 + 1 + 1 + 1 := by rw [e9]; simp [s8]
 have b9 : Below w8.heap.size w8 w9 := by rw [e9]; exact al _ _
 have n9 : w9.heap[w.heap.size + 1 + 1 + 1 + 1 + 1 + 1 + 1 + 1]? = some (.cells #[.int .i64 1] 3 (0, 0)) := by rw [e9, ← s8]; exact (MapKept.heap_alloc _ _).1
 obtain ⟨w10, e10⟩ : ∃ w10, w10 = w9.alloc (.cells #[.int .i64 0] 3) := ⟨_, rfl⟩
 have s10 : w10.heap.size = w.heap.size + 1 + 1 + 1 + 1 + 1 + 1 + 1 + 1 + 1 + 1 := by rw [e10]; simp [s9]
 have b10 : Below w9.heap.size w9 w10 := by rw [e10]; exact al _ _
 have n10 : w10.heap[w.heap.size + 1 + 1 + 1 + 1 + 1 + 1 + 1 + 1 + 1]? = some (.cells #[.int .i64 0] 3 (0, 0)) := by rw [e10, ← s9]; exact (MapKept.heap_alloc _ _).1
 obtain ⟨w11, e11⟩ : ∃ w11, w11 = w10.alloc (.cells #[.int .i64 1] 3) := ⟨_, rfl⟩
 have s11 : w11.heap.size = w.heap.size + 1 + 1 + 1 + 1 + 1 + 1 + 1 + 1 + 1 + 1 + 1 := by rw [e11]; simp [s10]
 have b11 : Below w10.heap.size w10 w11 := by rw [e11]; exact al _ _
 have n11 : w11.heap[w.heap.size + 1 + 1 + 1 + 1 + 1 + 1 + 1 + 1 + 1 + 1]? = some (.cells #[.int .i64 1] 3 (0, 0)) := by rw [e11, ← s10]; exact (MapKept.heap_alloc _ _).1
 obtain ⟨w12, e12⟩ : ∃ w12, w12 = w11.alloc (.cells #[.int .i64 1, .int .i64 2, .int .i64 0, .slice (some ⟨w.heap.size + 1 + 1 + 1, 0, none⟩) 2 2, .slice (some ⟨w.heap.size + 1 + 1 + 1 + 1 + 1, 0, none⟩) 1 1, .slice (some ⟨w.heap.size + 1 + 1 + 1 + 1 + 1 + 1, 0, none⟩) 1 1, .slice none 0 0, .int .i64 1, .int .i64 1, .int .i64 0, .slice none 0 0, .slice (some ⟨w.heap.size + 1 + 1 + 1 + 1 + 1 + 1 + 1, 0, none⟩) 1 1, .slice (some ⟨w.heap.size + 1 + 1 + 1 + 1 + 1 + 1 + 1 + 1, 0, none⟩) 1 1, .slice none 0 0, .int .i64 0, .int .i64 1, .int .i64 0, .slice none 0 0, .slice (some ⟨w.heap.size + 1 + 1 + 1 + 1 + 1 + 1 + 1 + 1 + 1, 0, none⟩) 1 1, .slice (some ⟨w.heap.size + 1 + 1 + 1 + 1 + 1 + 1 + 1 + 1 + 1 + 1, 0, none⟩) 1 1, .slice none 0 0] 77) := ⟨_, rfl⟩
 have s12 : w12.heap.size = w.heap.size + 1 + 1 + 1 + 1 + 1 + 1 + 1 + 1 + 1 + 1 + 1 + 1 := by rw [e12]; simp [s11]
 have b12 : Below w11.heap.size w11 w12 := by rw [e12]; exact al _ _
 have n12 : w12.heap[w.heap.size + 1 + 1 + 1 + 1 + 1 + 1 + 1 + 1 + 1 + 1 + 1]? = some (.cells #[.int .i64 1, .int .i64 2, .int .i64 0, .slice (some ⟨w.heap.size + 1 + 1 + 1, 0, none⟩) 2 2, .slice (some ⟨w.heap.size + 1 + 1 + 1 + 1 + 1, 0, none⟩) 1 1, .slice (some ⟨w.heap.size + 1 + 1 + 1 + 1 + 1 + 1, 0, none⟩) 1 1, .slice none 0 0, .int .i64 1, .int .i64 1, .int .i64 0, .slice none 0 0, .slice (some ⟨w.heap.size + 1 + 1 + 1 + 1 + 1 + 1 + 1, 0, none⟩) 1 1, .slice (some ⟨w.heap.size + 1 + 1 + 1 + 1 + 1 + 1 + 1 + 1, 0, none⟩) 1 1, .slice none 0 0, .int .i64 0, .int .i64 1, .int .i64 0, .slice none 0 0, .slice (some ⟨w.heap.size + 1 + 1 + 1 + 1 + 1 + 1 + 1 + 1 + 1, 0, none⟩) 1 1, .slice (some ⟨w.heap.size + 1 + 1 + 1 + 1 + 1 + 1 + 1 + 1 + 1 + 1, 0, none⟩) 1 1, .slice none 0 0] 77 (0, 0)) := by rw [e12, ← s11]; exact (MapKept.heap_alloc _ _).1
 rw [← e1]
 rw [← e2]
 rw [← e3]
 rw [← e4]
 rw [← e5]
 rw [← e6]
 rw [← e7]
 rw [← e8]
 rw [← e9]
 rw [← e10]
 rw [← e11]
 rw [← e12]
 exact ⟨bo_ww ((b12.block _ (by omega)).trans ((b11.block _ (by omega)).trans ((b10.block _ (by omega)).trans ((b9.block _ (by omega)).trans ((b8.block _ (by omega)).trans ((b7.block _ (by omega)).trans ((b6.block _ (by omega)).trans ((b5.block _ (by omega)).trans ((b4.block _ (by omega)).trans ((b3.block _ (by omega)).trans n2)))))))))) ((b12.block _ (by omega)).trans ((b11.block _ (by omega)).trans ((b10.block _ (by omega)).trans ((b9.block _ (by omega)).trans ((b8.block _ (by omega)).trans ((b7.block _ (by omega)).trans ((b6.block _ (by omega)).trans ((b5.block _ (by omega)).trans ((b4.block _ (by omega)).trans n3))))))))) ((b12.block _ (by omega)).trans ((b11.block _ (by omega)).trans ((b10.block _ (by omega)).trans ((b9.block _ (by omega)).trans ((b8.block _ (by omega)).trans ((b7.block _ (by omega)).trans ((b6.block _ (by omega)).trans ((b5.block _ (by omega)).trans n4)))))))) ((b12.block _ (by omega)).trans ((b11.block _ (by omega)).trans ((b10.block _ (by omega)).trans ((b9.block _ (by omega)).trans ((b8.block _ (by omega)).trans ((b7.block _ (by omega)).trans ((b6.block _ (by omega)).trans n5))))))) ((b12.block _ (by omega)).trans ((b11.block _ (by omega)).trans ((b10.block _ (by omega)).trans ((b9.block _ (by omega)).trans ((b8.block _ (by omega)).trans ((b7.block _ (by omega)).trans n6)))))) ((b12.block _ (by omega)).trans ((b11.block _ (by omega)).trans ((b10.block _ (by omega)).trans ((b9.block _ (by omega)).trans ((b8.block _ (by omega)).trans n7))))) ((b12.block _ (by omega)).trans ((b11.block _ (by omega)).trans ((b10.block _ (by omega)).trans ((b9.block _ (by omega)).trans n8)))) ((b12.block _ (by omega)).trans ((b11.block _ (by omega)).trans ((b10.block _ (by omega)).trans n9))) ((b12.block _ (by omega)).trans ((b11.block _ (by omega)).trans n10)) ((b12.block _ (by omega)).trans n11) n12, (((((((((((b1.trans (b2.mono (by omega))).trans (b3.mono (by omega))).trans (b4.mono (by omega))).trans (b5.mono (by omega))).trans (b6.mono (by omega))).trans (b7.mono (by omega))).trans (b8.mono (by omega))).trans (b9.mono (by omega))).trans (b10.mono (by omega))).trans (b11.mono (by omega))).trans (b12.mono (by omega))), ((b12.block _ (by omega)).trans ((b11.block _ (by omega)).trans ((b10.block _ (by omega)).trans ((b9.block _ (by omega)).trans ((b8.block _ (by omega)).trans ((b7.block _ (by omega)).trans ((b6.block _ (by omega)).trans ((b5.block _ (by omega)).trans ((b4.block _ (by omega)).trans ((b3.block _ (by omega)).trans ((b2.block _ (by omega)).trans n1)))))))))))⟩
set_option maxHeartbeats 1000000 in
theorem bold_any (w : World) :
  Calls Tryz.prog 35 #[] w fun e w' => e = .returned (wv (boD w.heap.size)) ∧ Ww w' (boD w.heap.size) ∧ Below w.heap.size w w' := by
 obtain ⟨h1, h2, h3⟩ := bo_made w
 go_enter Tryz.func35, Tryz.ntmps35
 go_wp2
 generalize hwf : World.alloc _ _ = WF
 rw [hwf] at h1 h2 h3
 have m0 := cellW h3 0
 have m1 := cellW h3 1
 have m2 := cellW h3 2
 exact bodyPost_ret (v := wv (boD w.heap.size)) (by simp [results, Tryz.results35, go_sem, m0, m1, m2, boD]) rfl ⟨rfl, h1, h2⟩
end Go.Proofs.YtiaopafkfadmkaaGreat
