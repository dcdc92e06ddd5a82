/- Proved: contracts of vtime.Valid, of the document's Valid, and of slices.BinarySearchFunc at messages and a key. -/
import Derived.Test.YtjkcdkoomipfkaaDays
import Derived.Test.YtjkcdkoomipfkaaOne
namespace Go.Proofs.Ytjkcdkoomipfkaa
open Go.RowKit Go.Sort
set_option linter.unusedVariables false

def vt (t : Int) : Bool := decide ((0 ≤ t ∧ t ≤ 1099511627776) ∨ t = 1125899906842624)
theorem within_any (t b : Int) (w : World) : Calls Try.prog 55 #[.int .i64 t, .int .i64 b] w fun e w' => e = .returned (.bool (decide (0 ≤ t ∧ t ≤ b))) ∧ w' = w := by
  go_enter Try.func55, Try.ntmps55
  by_cases h : 0 ≤ t
  · go_wp2
    go_ret
    refine ⟨?_, rfl⟩
    simp [h]
  · have h2 : decide (0 ≤ t) = false := by simpa using h
    go_wp2
    go_ret
    refine ⟨?_, rfl⟩
    simp
theorem valid_any (t : Int) (w : World) : Calls Try.prog 34 #[.int .i64 t] w fun e w' => e = .returned (.bool (vt t)) ∧ w' = w := by
  have H := within_any t 1099511627776 w
  unfold vt
  by_cases h : 0 ≤ t ∧ t ≤ 1099511627776
  · rw [show decide (0 ≤ t ∧ t ≤ 1099511627776) = true by simpa using h] at H
    go_enter Try.func34, Try.ntmps34
    go_wp2_with fail
    refine H.mono ?_
    rintro e w' ⟨rfl, rfl⟩
    go_wp2
    go_ret
    refine ⟨?_, rfl⟩
    simp [h]
  · rw [show decide (0 ≤ t ∧ t ≤ 1099511627776) = false by simpa using h] at H
    go_enter Try.func34, Try.ntmps34
    go_wp2_with fail
    refine H.mono ?_
    rintro e w' ⟨rfl, rfl⟩
    go_wp2
    go_ret
    refine ⟨?_, rfl⟩
    simp [h]
    rfl
theorem rvalid_any (t : Int) (w : World) : Calls Try.prog 37 #[.int .i64 t] w fun e w' => e = .returned (.bool (vt t)) ∧ w' = w := by
  unfold vt
  by_cases h1 : 0 ≤ t
  · have k1 : decide (0 ≤ t) = true := by simpa using h1
    by_cases h2 : t ≤ 1099511627776
    · have k2 : decide (t ≤ 1099511627776) = true := by simpa using h2
      go_enter Try.func37, Try.ntmps37
      go_wp2
      go_ret
      exact ⟨by simp [h1, h2], rfl⟩
    · have k2 : decide (t ≤ 1099511627776) = false := by simpa using h2
      go_enter Try.func37, Try.ntmps37
      go_wp2
      go_ret
      exact ⟨by simp; rfl, rfl⟩
  · have k1 : decide (0 ≤ t) = false := by simpa using h1
    go_enter Try.func37, Try.ntmps37
    go_wp2
    go_ret
    exact ⟨by simp; rfl, rfl⟩

theorem fkey_any (a : M) (b : K) (w : World) :
    Calls Try.prog 57 #[mv a, kv b] w
      fun e w' => e = .returned (.int .i64 (kcmp a.1 b)) ∧ ∃ q os, w' = grow (w.drewN q) os := by
  obtain ⟨⟨a1, a2, a3⟩, a4, a5, a6⟩ := a
  obtain ⟨b1, b2, b3⟩ := b
  have hc := fun W => cmp_any (a1, a2, a3) (b1, b2, b3) W
  dsimp only at hc ⊢
  generalize kcmp (a1, a2, a3) (b1, b2, b3) = r at hc ⊢
  go_enter Try.func57, Try.ntmps57
  go_wp2_with (go_at_call 48; refine (hc _).mono ?_; rintro e w' ⟨rfl, q, os, rfl⟩)
  go_ret
  exact ⟨rfl, q, _, grow2_drewN _ _ _ _ _⟩
theorem lkey_any (a b : M) (w : World) :
    Calls Try.prog 47 #[mv a, mv b] w
      fun e w' => e = .returned (.int .i64 (kcmp a.1 b.1)) ∧ ∃ q os, w' = grow (w.drewN q) os := by
  obtain ⟨⟨a1, a2, a3⟩, a4, a5, a6⟩ := a
  obtain ⟨⟨b1, b2, b3⟩, b4, b5, b6⟩ := b
  have hc := fun W => cmp_any (a1, a2, a3) (b1, b2, b3) W
  dsimp only at hc ⊢
  generalize kcmp (a1, a2, a3) (b1, b2, b3) = r at hc ⊢
  go_enter Try.func47, Try.ntmps47
  go_wp2_with (go_at_call 48; refine (hc _).mono ?_; rintro e w' ⟨rfl, q, os, rfl⟩)
  go_ret
  exact ⟨rfl, q, _, grow2_drewN _ _ _ _ _⟩
end Go.Proofs.Ytjkcdkoomipfkaa
