/- Proved: what is granted, as plain data, and what follows of it where what waits stands in order; no condition. -/
import Derived.Test.YtmciameckbbgaaaProg
namespace Go.Proofs.Ytmciameckbbgaaa.D
set_option linter.unusedVariables false

/-- How many of a queue are at most a time. -/
def many : List Int → Int → Nat
  | [], _ => 0
  | x :: r, t => if x ≤ t then many r t + 1 else 0
/-- A list that does not fall. -/
def Up (l : List Int) : Prop := ∀ i j, i < j → j < l.length → l.getD i 0 ≤ l.getD j 0
structure Gr where
  is : Bool
  t : Int
  n : Nat
def no : Gr := ⟨false, 0, 0⟩
def dec (k ask time bound : Int) (q : List Int) : Gr :=
  if k = 1 ∧ bound > ask then ⟨true, ask, many q ask⟩
  else if k = 2 ∧ 0 < q.length ∧ q.getD 0 0 ≤ ask then (if bound > q.getD 0 0 then ⟨true, max time (q.getD 0 0), many q (q.getD 0 0)⟩ else no)
  else if k = 2 ∧ bound > ask then ⟨true, ask, 0⟩
  else if k = 3 then ⟨true, max time (if 0 < q.length then min (min ask bound) (q.getD 0 0) else min ask bound), q.length⟩
  else no
theorem many_le (q : List Int) (t : Int) : many q t ≤ q.length := by
  induction q with
  | nil => exact Nat.le_refl _
  | cons x r ih =>
    unfold many
    split
    · simp only [List.length_cons]; omega
    · exact Nat.zero_le _
theorem many_lt {q : List Int} {t : Int} : ∀ {i : Nat}, i < many q t → q.getD i 0 ≤ t := by
  induction q with
  | nil => intro i h; exact absurd h (Nat.not_lt_zero _)
  | cons x r ih =>
    intro i h
    unfold many at h
    split at h
    · rename_i hx
      cases i with
      | zero => simpa using hx
      | succ i => simpa using ih (i := i) (by omega)
    · exact absurd h (Nat.not_lt_zero _)
theorem many_at {q : List Int} {t : Int} (h : many q t < q.length) : t < q.getD (many q t) 0 := by
  induction q with
  | nil => exact absurd h (Nat.not_lt_zero _)
  | cons x r ih =>
    unfold many at h ⊢
    split
    · rename_i hx
      rw [if_pos hx] at h
      simpa using ih (by simpa using h)
    · rename_i hx
      simp
      omega
theorem many_iff {q : List Int} (hq : Up q) {t : Int} {i : Nat} (hi : i < q.length) : q.getD i 0 ≤ t ↔ i < many q t := by
  refine ⟨fun h => ?_, many_lt⟩
  rcases Nat.lt_or_ge i (many q t) with g | g
  · exact g
  · exfalso
    have h1 := many_at (q := q) (t := t) (by omega)
    rcases Nat.lt_or_ge (many q t) i with g2 | g2
    · have := hq _ _ g2 hi
      omega
    · have e : many q t = i := by omega
      rw [e] at h1
      omega
theorem many_up {q : List Int} {t u : Int} (h : t ≤ u) : many q t ≤ many q u := by
  induction q with
  | nil => exact Nat.le_refl _
  | cons x r ih =>
    unfold many
    by_cases h1 : x ≤ t
    · rw [if_pos h1, if_pos (by omega)]
      omega
    · rw [if_neg h1]
      exact Nat.zero_le _
theorem dec1 {ask time bound : Int} {q : List Int} : dec 1 ask time bound q = if bound > ask then ⟨true, ask, many q ask⟩ else no := by
  unfold dec
  by_cases h : bound > ask
  · rw [if_pos ⟨rfl, h⟩, if_pos h]
  · rw [if_neg (fun g => h g.2), if_neg (by simp), if_neg (by simp), if_neg (by simp), if_neg h]
theorem dec2 {ask time bound : Int} {q : List Int} : dec 2 ask time bound q = if 0 < q.length ∧ q.getD 0 0 ≤ ask then (if bound > q.getD 0 0 then ⟨true, max time (q.getD 0 0), many q (q.getD 0 0)⟩ else no) else if bound > ask then ⟨true, ask, 0⟩ else no := by
  unfold dec
  rw [if_neg (by simp)]
  by_cases h : 0 < q.length ∧ q.getD 0 0 ≤ ask
  · rw [if_pos ⟨rfl, h⟩, if_pos h]
  · rw [if_neg (fun g => h g.2), if_neg h]
    by_cases h2 : bound > ask
    · rw [if_pos ⟨rfl, h2⟩, if_pos h2]
    · rw [if_neg (fun g => h2 g.2), if_neg (by simp), if_neg h2]
theorem dec3 {ask time bound : Int} {q : List Int} : dec 3 ask time bound q = ⟨true, max time (if 0 < q.length then min (min ask bound) (q.getD 0 0) else min ask bound), q.length⟩ := by
  unfold dec
  rw [if_neg (by simp), if_neg (by simp), if_neg (by simp), if_pos rfl]
theorem dec0 {k ask time bound : Int} {q : List Int} (h1 : k ≠ 1) (h2 : k ≠ 2) (h3 : k ≠ 3) : dec k ask time bound q = no := by
  unfold dec
  rw [if_neg (fun g => h1 g.1), if_neg (fun g => h2 g.1), if_neg (fun g => h2 g.1), if_neg h3]
/-- What is not granted comes with nothing. -/
theorem dec_no {k ask time bound : Int} {q : List Int} (h : (dec k ask time bound q).is = false) : (dec k ask time bound q).t = 0 ∧ (dec k ask time bound q).n = 0 := by
  by_cases h1 : k = 1
  · subst h1
    rw [dec1] at h ⊢
    split at h
    · cases h
    · rename_i g; rw [if_neg g]; exact ⟨rfl, rfl⟩
  by_cases h2 : k = 2
  · subst h2
    rw [dec2] at h ⊢
    split at h
    · rename_i g
      rw [if_pos g]
      split at h
      · cases h
      · rename_i g2; rw [if_neg g2]; exact ⟨rfl, rfl⟩
    · rename_i g
      rw [if_neg g]
      split at h
      · cases h
      · rename_i g2; rw [if_neg g2]; exact ⟨rfl, rfl⟩
  by_cases h3 : k = 3
  · subst h3
    rw [dec3] at h
    cases h
  · rw [dec0 h1 h2 h3]; exact ⟨rfl, rfl⟩
/-- GrantSafe's plain side: what waits is at the time or above it, in order; the time asked for is not passed. -/
theorem safe {k to time bound : Int} {q : List Int} (hk : k = 1 ∨ k = 2) (hq : Up q) (hge : ∀ x ∈ q, time ≤ x) (hto : time ≤ to) :
    ((dec k to time bound q).is = false → (dec k to time bound q).t = 0 ∧ (dec k to time bound q).n = 0 ∧ bound ≤ to) ∧
    ((dec k to time bound q).is = true → time ≤ (dec k to time bound q).t ∧ (dec k to time bound q).t ≤ to ∧ (dec k to time bound q).t < bound ∧ (dec k to time bound q).n ≤ q.length ∧ ∀ i, i < q.length → (q.getD i 0 ≤ (dec k to time bound q).t ↔ i < (dec k to time bound q).n)) := by
  rcases hk with rfl | rfl
  · rw [dec1]
    split
    · rename_i g
      exact ⟨fun h => (by cases h), fun _ => ⟨hto, Int.le_refl _, g, many_le _ _, fun i hi => many_iff hq hi⟩⟩
    · rename_i g
      exact ⟨fun _ => ⟨rfl, rfl, by omega⟩, fun h => (by cases h)⟩
  · rw [dec2]
    split
    · rename_i g
      have hx : time ≤ q.getD 0 0 := hge _ (by simp [g.1])
      split
      · rename_i g2
        refine ⟨fun h => (by cases h), fun _ => ?_⟩
        have e : max time (q.getD 0 0) = q.getD 0 0 := by omega
        show time ≤ max time (q.getD 0 0) ∧ _
        refine ⟨by omega, by show max time (q.getD 0 0) ≤ to; omega, by show max time (q.getD 0 0) < bound; omega, many_le _ _, fun i hi => ?_⟩
        show q.getD i 0 ≤ max time (q.getD 0 0) ↔ _
        rw [e]
        exact many_iff hq hi
      · rename_i g2
        exact ⟨fun _ => ⟨rfl, rfl, by omega⟩, fun h => (by cases h)⟩
    · rename_i g
      split
      · rename_i g2
        refine ⟨fun h => (by cases h), fun _ => ⟨hto, Int.le_refl _, g2, Nat.zero_le _, fun i hi => ⟨fun h => ?_, fun h => absurd h (Nat.not_lt_zero _)⟩⟩⟩
        exfalso
        have h' : q.getD i 0 ≤ to := h
        refine g ⟨by omega, ?_⟩
        by_cases e : i = 0
        · subst e; exact h'
        · have := hq 0 i (by omega) hi
          omega
      · exact ⟨fun _ => ⟨rfl, rfl, by omega⟩, fun h => (by cases h)⟩
/-- GrantAll's plain side. -/
theorem all_of {to time bound : Int} {q : List Int} (hq : Up q) (hge : ∀ x ∈ q, time ≤ x) (hto : time ≤ to) (hb : time ≤ bound) :
    (dec 3 to time bound q).is = true ∧ (dec 3 to time bound q).n = q.length ∧ time ≤ (dec 3 to time bound q).t ∧ (dec 3 to time bound q).t ≤ to ∧ (dec 3 to time bound q).t ≤ bound ∧ ∀ i, i < q.length → (dec 3 to time bound q).t ≤ q.getD i 0 := by
  rw [dec3]
  refine ⟨rfl, rfl, ?_, ?_, ?_, fun i hi => ?_⟩
  · show time ≤ max time _; omega
  · show max time _ ≤ to; split <;> omega
  · show max time _ ≤ bound; split <;> omega
  · show max time _ ≤ _
    have h0 : 0 < q.length := by omega
    rw [if_pos h0]
    have h1 : time ≤ q.getD i 0 := hge _ (by simp [hi])
    have h2 : q.getD 0 0 ≤ q.getD i 0 := by
      by_cases e : i = 0
      · subst e; exact Int.le_refl _
      · exact hq 0 i (by omega) hi
    omega
/-- GrantMore's plain side. -/
theorem more_of {k ask time bound b2 : Int} {q : List Int} (hk : k = 1 ∨ k = 2 ∨ k = 3) (h : bound ≤ b2) : (dec k ask time bound q).is = true → (dec k ask time b2 q).is = true ∧ (dec k ask time bound q).t ≤ (dec k ask time b2 q).t ∧ (dec k ask time bound q).n ≤ (dec k ask time b2 q).n := by
  rcases hk with rfl | rfl | rfl
  · rw [dec1, dec1]
    split
    · rename_i g
      rw [if_pos (by omega)]
      exact fun _ => ⟨rfl, Int.le_refl _, Nat.le_refl _⟩
    · exact fun h => (by cases h)
  · rw [dec2, dec2]
    split
    · split
      · rename_i g
        rw [if_pos (by omega)]
        exact fun _ => ⟨rfl, Int.le_refl _, Nat.le_refl _⟩
      · exact fun h => (by cases h)
    · split
      · rename_i g
        rw [if_pos (by omega)]
        exact fun _ => ⟨rfl, Int.le_refl _, Nat.le_refl _⟩
      · exact fun h => (by cases h)
  · rw [dec3, dec3]
    refine fun _ => ⟨rfl, ?_, Nat.le_refl _⟩
    show max time _ ≤ max time _
    split <;> omega
/-- GrantFree's plain side: nothing bounds. -/
theorem free_of {to time bound : Int} {q : List Int} (hq : Up q) (hge : ∀ x ∈ q, time ≤ x) (hto : time ≤ to) (hb : to < bound) :
    (dec 1 to time bound q) = ⟨true, to, many q to⟩ ∧ (dec 2 to time bound q).is = true ∧ (∀ i, i < q.length → (i < many q to ↔ q.getD i 0 ≤ to)) ∧
    (0 < q.length ∧ q.getD 0 0 ≤ to → (dec 2 to time bound q).t = q.getD 0 0 ∧ 1 ≤ (dec 2 to time bound q).n ∧ (dec 2 to time bound q).n ≤ many q to ∧ ((dec 2 to time bound q).n = q.length ∨ q.getD 0 0 < q.getD (dec 2 to time bound q).n 0)) ∧
    (¬ (0 < q.length ∧ q.getD 0 0 ≤ to) → (dec 2 to time bound q).t = to ∧ (dec 2 to time bound q).n = 0 ∧ many q to = 0) := by
  refine ⟨by rw [dec1, if_pos hb], ?_, fun i hi => (many_iff hq hi).symm, fun g => ?_, fun g => ?_⟩
  · rw [dec2]
    split
    · rw [if_pos (by omega)]
    · first | rfl | rw [if_pos hb]
  · rw [dec2, if_pos g, if_pos (by omega)]
    have hx : time ≤ q.getD 0 0 := hge _ (by simp [g.1])
    refine ⟨by show max time _ = _; omega, ?_, many_up g.2, ?_⟩
    · exact (many_iff hq g.1).1 (Int.le_refl _)
    · show many q (q.getD 0 0) = q.length ∨ _
      rcases Nat.lt_or_ge (many q (q.getD 0 0)) q.length with h | h
      · exact .inr (many_at h)
      · have := many_le q (q.getD 0 0)
        exact .inl (by omega)
  · rw [dec2, if_neg g, if_pos hb]
    refine ⟨rfl, rfl, ?_⟩
    rcases Nat.eq_zero_or_pos (many q to) with h | h
    · exact h
    · exact absurd ⟨by have := many_le q to; omega, many_lt h⟩ g
end Go.Proofs.Ytmciameckbbgaaa.D
