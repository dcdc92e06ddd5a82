/- Proved: what of a queue in order is not below a time. -/
import Derived.Test.YtmciameckbbgaaaLw0
namespace Go.Proofs.Ytmciameckbbgaaa
open Go.RowKit Go.Shelf
open D (Gr dec many Up)
set_option linter.unusedVariables false

def fl (l : List Int) (t : Int) : Nat → List Int
  | 0 => []
  | k + 1 => if l.getD k 0 ≥ t then fl l t k ++ [l.getD k 0] else fl l t k
theorem fl_len (l : List Int) (t : Int) : ∀ k, (fl l t k).length ≤ k
  | 0 => Nat.le_refl _
  | k + 1 => by
    have := fl_len l t k
    unfold fl
    split
    · simp; omega
    · omega
theorem fl_of {l : List Int} {t : Int} : ∀ {k : Nat} {x : Int}, x ∈ fl l t k → t ≤ x ∧ ∃ j, j < k ∧ x = l.getD j 0
  | 0, x, h => by cases h
  | k + 1, x, h => by
    unfold fl at h
    split at h
    · rename_i g
      rcases List.mem_append.1 h with h | h
      · obtain ⟨h1, j, h2, h3⟩ := fl_of h
        exact ⟨h1, j, by omega, h3⟩
      · simp at h
        subst h
        exact ⟨by simpa using g, k, by omega, by simp⟩
    · obtain ⟨h1, j, h2, h3⟩ := fl_of h
      exact ⟨h1, j, by omega, h3⟩
theorem fl_up {l : List Int} (hu : Up l) (t : Int) : ∀ {k : Nat}, k ≤ l.length → Up (fl l t k)
  | 0, _ => fun i j _ hj => by simp [fl] at hj
  | k + 1, hk => by
    have ih := fl_up hu t (k := k) (by omega)
    unfold fl
    split
    · refine up_app ih ?_
      rcases Nat.eq_zero_or_pos (fl l t k).length with h | h
      · exact .inl h
      · obtain ⟨_, j, h2, h3⟩ := fl_of (l := l) (t := t) (k := k) (x := (fl l t k).getD ((fl l t k).length - 1) 0) (by
          have : (fl l t k).length - 1 < (fl l t k).length := by omega
          simp [this])
        rw [h3]
        exact .inr (hu j k h2 (by omega))
    · exact ih
theorem Ri.base {w w1 W : World} {v : Value} {l : List Int} (h : Ri w1 W v l) (hb : Below w.heap.size w w1) : Ri w W v l := ⟨h.own, fun k e => by have := h.new k e; have := hb.size; omega, Below.trans hb (h.bel.mono hb.size)⟩
/-- The filtered queue, whole. -/
theorem Qu.flt {w w1 W : World} {ra qa : Option Addr} {rn rc m c : Nat} {l : List Int} {t : Int} (h1 : Qu w w1 ra rn rc l) (h : Ri w1 W (.slice qa m c) (fl l t rn)) (hm : (fl l t rn).length = m) : Qu w W qa m c (fl l t rn) :=
  ⟨h.base h1.bel, fl_up h1.up t (by rw [h1.len]; exact Nat.le_refl _), hm, by have := fl_len l t rn; have := h1.le; omega⟩
end Go.Proofs.Ytmciameckbbgaaa
