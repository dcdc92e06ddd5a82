/- Proved: of rows of fields as letters: what is written is read back, what is read is what was written, and a text that is cut off is read up to its last line feed. -/
import Derived.KernelRfl
namespace Go.Proofs.YtjlcmgfgbmcjpaaDoor

/-- How one byte of a field is written. -/
def esc (c : UInt8) : List UInt8 := if c = 37 then [37, 50, 53] else if c = 44 then [37, 50, 67] else if c = 10 then [37, 48, 65] else [c]
def encField (f : List UInt8) : List UInt8 := f.flatMap esc
/-- A row's fields, commas between. -/
def body : List (List UInt8) → List UInt8
  | [] => []
  | [f] => encField f
  | f :: g :: r => encField f ++ 44 :: body (g :: r)
def encRow (r : List (List UInt8)) : List UInt8 := body r ++ [10]
def encRows (rs : List (List (List UInt8))) : List UInt8 := rs.flatMap encRow

theorem encField_snoc (f : List UInt8) (c : UInt8) : encField (f ++ [c]) = encField f ++ esc c := by simp [encField]
theorem encField_append (f g : List UInt8) : encField (f ++ g) = encField f ++ encField g := by simp [encField]
theorem encField_nil : encField [] = [] := rfl
theorem encRows_append (a b : List (List (List UInt8))) : encRows (a ++ b) = encRows a ++ encRows b := by simp [encRows]
theorem encRows_snoc (a : List (List (List UInt8))) (r : List (List UInt8)) : encRows (a ++ [r]) = encRows a ++ encRow r := by simp [encRows]
theorem encRows_cons (r : List (List UInt8)) (a : List (List (List UInt8))) : encRows (r :: a) = encRow r ++ encRows a := by simp [encRows]

theorem body_snoc (r : List (List UInt8)) (f : List UInt8) (h : r ≠ []) : body (r ++ [f]) = body r ++ 44 :: encField f := by
  induction r with
  | nil => exact absurd rfl h
  | cons g t ih =>
    cases t with
    | nil => simp [body]
    | cons g2 t2 =>
      have := ih (by simp)
      simp only [List.cons_append] at this
      simp [body, this]
theorem body_snoc_char (r : List (List UInt8)) (f : List UInt8) (c : UInt8) : body (r ++ [f ++ [c]]) = body (r ++ [f]) ++ esc c := by
  by_cases h : r = []
  · subst h; simp [body, encField_snoc]
  · rw [body_snoc r _ h, body_snoc r _ h, encField_snoc]; simp

theorem esc_no10 (c : UInt8) : ∀ x ∈ esc c, x ≠ 10 := by
  intro x hx
  unfold esc at hx
  split at hx
  · simp at hx; rcases hx with rfl | rfl | rfl <;> decide
  · split at hx
    · simp at hx; rcases hx with rfl | rfl | rfl <;> decide
    · split at hx
      · simp at hx; rcases hx with rfl | rfl | rfl <;> decide
      · rename_i h10
        simp at hx; subst hx; exact h10
theorem esc_no44 (c : UInt8) : ∀ x ∈ esc c, x ≠ 44 := by
  intro x hx
  unfold esc at hx
  split at hx
  · simp at hx; rcases hx with rfl | rfl | rfl <;> decide
  · split at hx
    · simp at hx; rcases hx with rfl | rfl | rfl <;> decide
    · rename_i h44
      split at hx
      · simp at hx; rcases hx with rfl | rfl | rfl <;> decide
      · simp at hx; subst hx; exact h44
theorem esc_len (c : UInt8) : 1 ≤ (esc c).length ∧ (esc c).length ≤ 3 := by
  unfold esc
  split
  · simp
  · split
    · simp
    · split <;> simp
theorem encField_no10 (f : List UInt8) : ∀ x ∈ encField f, x ≠ 10 := by
  intro x hx
  obtain ⟨c, _, h⟩ := List.mem_flatMap.1 hx
  exact esc_no10 c x h
theorem encField_no44 (f : List UInt8) : ∀ x ∈ encField f, x ≠ 44 := by
  intro x hx
  obtain ⟨c, _, h⟩ := List.mem_flatMap.1 hx
  exact esc_no44 c x h
theorem encField_len (f : List UInt8) : f.length ≤ (encField f).length ∧ (encField f).length ≤ 3 * f.length := by
  induction f with
  | nil => simp [encField]
  | cons c r ih =>
    have := esc_len c
    simp only [encField, List.flatMap_cons, List.length_append, List.length_cons] at ih ⊢
    omega
theorem body_no10 (r : List (List UInt8)) : ∀ x ∈ body r, x ≠ 10 := by
  induction r with
  | nil => simp [body]
  | cons f t ih =>
    cases t with
    | nil => exact encField_no10 f
    | cons g t2 =>
      intro x hx
      simp only [body, List.mem_append, List.mem_cons] at hx
      rcases hx with h | h | h
      · exact encField_no10 f x h
      · subst h; decide
      · exact ih x h

/-- The bytes that the two letters behind a percent sign stand for. -/
def code (a b : UInt8) : Option UInt8 := if a = 50 ∧ b = 53 then some 37 else if a = 50 ∧ b = 67 then some 44 else if a = 48 ∧ b = 65 then some 10 else none

/-- READING, letter by letter: 'line' is the number of the line at hand, 'row' its fields so far, 'field' the field at hand. -/
def dec (line : Nat) (row : List (List UInt8)) (field : List UInt8) : List UInt8 → Except Nat (List (List (List UInt8)))
  | [] => if row = [] ∧ field = [] then .ok [] else .error line
  | 44 :: r => dec line (row ++ [field]) [] r
  | 10 :: r => match dec (line + 1) [] [] r with
    | .ok rows => .ok ((row ++ [field]) :: rows)
    | .error n => .error n
  | 37 :: a :: b :: r => match code a b with
    | some x => dec line row (field ++ [x]) r
    | none => .error line
  | [37] => .error line
  | [37, _] => .error line
  | c :: r => dec line row (field ++ [c]) r

theorem dec_nil (line : Nat) (row : List (List UInt8)) (field : List UInt8) : dec line row field [] = if row = [] ∧ field = [] then .ok [] else .error line := by
  rw [dec]
theorem dec_comma (line : Nat) (row : List (List UInt8)) (field r : List UInt8) : dec line row field (44 :: r) = dec line (row ++ [field]) [] r := by
  rw [dec]
theorem dec_lf (line : Nat) (row : List (List UInt8)) (field r : List UInt8) : dec line row field (10 :: r) = match dec (line + 1) [] [] r with
    | .ok rows => .ok ((row ++ [field]) :: rows)
    | .error n => .error n := by
  rw [dec]
theorem dec_code (line : Nat) (row : List (List UInt8)) (field r : List UInt8) (a b : UInt8) : dec line row field (37 :: a :: b :: r) = match code a b with
    | some x => dec line row (field ++ [x]) r
    | none => .error line := by
  rw [dec]
theorem dec_short0 (line : Nat) (row : List (List UInt8)) (field : List UInt8) : dec line row field [37] = .error line := by rw [dec]
theorem dec_short1 (line : Nat) (row : List (List UInt8)) (field : List UInt8) (a : UInt8) : dec line row field [37, a] = .error line := by rw [dec]
theorem dec_char (line : Nat) (row : List (List UInt8)) (field r : List UInt8) (c : UInt8) (h1 : c ≠ 44) (h2 : c ≠ 10) (h3 : c ≠ 37) : dec line row field (c :: r) = dec line row (field ++ [c]) r := by
  rw [dec] <;> simp_all

theorem dec_esc (line : Nat) (row : List (List UInt8)) (field r : List UInt8) (c : UInt8) : dec line row field (esc c ++ r) = dec line row (field ++ [c]) r := by
  unfold esc
  split
  · subst c; simp [dec_code, code]
  · rename_i h37
    split
    · subst c; simp [dec_code, code]
    · rename_i h44
      split
      · subst c; simp [dec_code, code]
      · rename_i h10
        exact dec_char line row field r c h44 h10 h37
theorem dec_field (line : Nat) (row : List (List UInt8)) (f : List UInt8) : ∀ (field r : List UInt8), dec line row field (encField f ++ r) = dec line row (field ++ f) r := by
  induction f with
  | nil => intro field r; simp [encField]
  | cons c t ih =>
    intro field r
    have : encField (c :: t) ++ r = esc c ++ (encField t ++ r) := by simp [encField]
    rw [this, dec_esc, ih]; simp
theorem dec_body (line : Nat) (fs : List (List UInt8)) : ∀ (row : List (List UInt8)) (r : List UInt8), fs ≠ [] → dec line row [] (body fs ++ 10 :: r) = match dec (line + 1) [] [] r with
    | .ok rows => .ok ((row ++ fs) :: rows)
    | .error n => .error n := by
  induction fs with
  | nil => intro _ _ h; exact absurd rfl h
  | cons f t ih =>
    intro row r _
    cases t with
    | nil => rw [body, dec_field, dec_lf]; simp
    | cons g t2 =>
      have e : body (f :: g :: t2) ++ 10 :: r = encField f ++ (44 :: (body (g :: t2) ++ 10 :: r)) := by simp [body]
      rw [e, dec_field, dec_comma, ih _ _ (by simp)]
      simp
/-- WHAT IS WRITTEN IS READ BACK, whatever stands behind. -/
theorem dec_rows (rs : List (List (List UInt8))) : ∀ (line : Nat) (r : List UInt8), (∀ x ∈ rs, x ≠ []) → dec line [] [] (encRows rs ++ r) = match dec (line + rs.length) [] [] r with
    | .ok rows => .ok (rs ++ rows)
    | .error n => .error n := by
  induction rs with
  | nil => intro line r _; simp only [encRows, List.flatMap_nil, List.nil_append, List.length_nil, Nat.add_zero]; cases dec line [] [] r <;> rfl
  | cons x t ih =>
    intro line r h
    have e : encRows (x :: t) ++ r = body x ++ 10 :: (encRows t ++ r) := by simp [encRows, encRow]
    rw [e, dec_body line x [] _ (h x (by simp)), ih (line + 1) r (fun y hy => h y (by simp [hy]))]
    have e2 : line + 1 + t.length = line + (x :: t).length := by simp; omega
    rw [e2]
    cases dec (line + (x :: t).length) [] [] r <;> simp
theorem dec_enc (rs : List (List (List UInt8))) (h : ∀ x ∈ rs, x ≠ []) : dec 1 [] [] (encRows rs) = .ok rs := by
  have := dec_rows rs 1 [] h
  rw [List.append_nil] at this
  rw [this, dec_nil]; simp

theorem code_esc {a b x : UInt8} (h : code a b = some x) : esc x = [37, a, b] := by
  unfold code at h
  split at h
  · rename_i hh; obtain ⟨rfl, rfl⟩ := hh; cases h; decide
  · split at h
    · rename_i hh; obtain ⟨rfl, rfl⟩ := hh; cases h; decide
    · split at h
      · rename_i hh; obtain ⟨rfl, rfl⟩ := hh; cases h; decide
      · cases h
theorem esc_char {c : UInt8} (h1 : c ≠ 44) (h2 : c ≠ 10) (h3 : c ≠ 37) : esc c = [c] := by simp [esc, h1, h2, h3]

/-- WHAT IS READ IS WHAT WAS WRITTEN. -/
theorem enc_dec (line : Nat) (row : List (List UInt8)) (field s : List UInt8) : ∀ rows, dec line row field s = .ok rows → body (row ++ [field]) ++ s = encRows rows ∧ ∀ x ∈ rows, x ≠ [] := by
  fun_induction dec line row field s with
  | case1 line row field h => intro rows hr; cases hr; obtain ⟨rfl, rfl⟩ := h; exact ⟨rfl, by simp⟩
  | case2 => intro rows hr; cases hr
  | case3 line row field r ih =>
    intro rows hr
    have := ih rows hr
    rw [List.append_assoc] at this
    refine ⟨?_, this.2⟩
    rw [← this.1]
    have e := body_snoc (row ++ [field]) [] (by simp)
    rw [List.append_assoc] at e
    rw [e]; simp [encField]
  | case4 line row field r rows' hd ih =>
    intro rows hr
    cases hr
    obtain ⟨h1, h2⟩ := ih rows' hd
    refine ⟨?_, ?_⟩
    · rw [encRows_cons, ← h1]; simp [encRow, body, encField]
    · intro x hx
      rcases List.mem_cons.1 hx with rfl | hx
      · simp
      · exact h2 x hx
  | case5 => intro rows hr; cases hr
  | case6 line row field a b r x hc ih =>
    intro rows hr
    obtain ⟨h1, h2⟩ := ih rows hr
    refine ⟨?_, h2⟩
    rw [← h1, body_snoc_char, code_esc hc]; simp
  | case7 => intro rows hr; cases hr
  | case8 => intro rows hr; cases hr
  | case9 => intro rows hr; cases hr
  | case10 line row field c r h1 h2 h3 h4 h5 ih =>
    intro rows hr
    obtain ⟨e1, e2⟩ := ih rows hr
    refine ⟨?_, e2⟩
    have hc : c ≠ 37 := by
      rintro rfl
      match r with
      | [] => exact h4 rfl rfl
      | [x] => exact h5 x rfl rfl
      | x :: y :: t => exact h3 x y t rfl rfl
    rw [← e1, body_snoc_char, esc_char h1 h2 hc]; simp

/-- A piece of a line that is not ended is no line. -/
theorem dec_open (line : Nat) (row : List (List UInt8)) (field s : List UInt8) : (∀ x ∈ s, x ≠ 10) → (row ≠ [] ∨ field ≠ [] ∨ s ≠ []) → dec line row field s = .error line := by
  fun_induction dec line row field s with
  | case1 line row field h => intro _ h2; obtain ⟨rfl, rfl⟩ := h; simp at h2
  | case2 => intro _ _; rfl
  | case3 line row field r ih => intro h _; exact ih (fun x hx => h x (by simp [hx])) (.inl (by simp))
  | case4 => intro h _; exact absurd rfl (h 10 (by simp))
  | case5 => intro h _; exact absurd rfl (h 10 (by simp))
  | case6 line row field a b r x hc ih => intro h _; exact ih (fun x hx => h x (by simp [hx])) (.inr (.inl (by simp)))
  | case7 => intro _ _; rfl
  | case8 => intro _ _; rfl
  | case9 => intro _ _; rfl
  | case10 line row field c r h1 h2 h3 h4 h5 ih => intro h _; exact ih (fun x hx => h x (by simp [hx])) (.inr (.inl (by simp)))

/-- A text of rows, cut off at k: the first j rows whole, and a piece of the next one without a line feed. -/
theorem take_rows (rs : List (List (List UInt8))) : ∀ k, ∃ j p, j ≤ rs.length ∧ (encRows rs).take k = encRows (rs.take j) ++ p ∧ (∀ x ∈ p, x ≠ 10) := by
  induction rs with
  | nil => intro k; exact ⟨0, [], by simp [encRows]⟩
  | cons r t ih =>
    intro k
    rw [encRows_cons]
    by_cases h : k < (encRow r).length
    · refine ⟨0, (encRow r).take k, by simp, ?_, ?_⟩
      · rw [List.take_append_of_le_length (by omega)]; simp [encRows]
      · intro x hx
        have hlen : (encRow r).length = (body r).length + 1 := by simp [encRow]
        rw [encRow, List.take_append_of_le_length (by omega)] at hx
        exact body_no10 r x (List.mem_of_mem_take hx)
    · obtain ⟨j, p, hj, e, hp⟩ := ih (k - (encRow r).length)
      refine ⟨j + 1, p, by simp; omega, ?_, hp⟩
      rw [List.take_append, List.take_of_length_le (by omega), e, List.take_succ_cons, encRows_cons]; simp
end Go.Proofs.YtjlcmgfgbmcjpaaDoor
