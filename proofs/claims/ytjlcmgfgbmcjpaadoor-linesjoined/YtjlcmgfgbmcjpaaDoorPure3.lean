/- Proved: a text is read line by line, field by field, as it is read letter by letter. -/
import Derived.Test.YtjlcmgfgbmcjpaaDoorPure1
import Derived.Lib.Split
import Derived.Lib.IndexBytes
namespace Go.Proofs.YtjlcmgfgbmcjpaaDoor
open Go.Lib

/-- One field, read. -/
def decField : List UInt8 → Option (List UInt8)
  | [] => some []
  | 37 :: a :: b :: r => match code a b with
    | some x => (decField r).map (x :: ·)
    | none => none
  | [37] => none
  | [37, _] => none
  | c :: r => (decField r).map (c :: ·)
theorem decField_nil : decField [] = some [] := by rw [decField]
theorem decField_code (a b : UInt8) (r : List UInt8) : decField (37 :: a :: b :: r) = match code a b with
    | some x => (decField r).map (x :: ·)
    | none => none := by rw [decField]
theorem decField_short0 : decField [37] = none := by rw [decField]
theorem decField_short1 (a : UInt8) : decField [37, a] = none := by rw [decField]
theorem decField_char (c : UInt8) (r : List UInt8) (h : c ≠ 37) : decField (c :: r) = (decField r).map (c :: ·) := by
  rw [decField] <;> simp_all
theorem decField_len (s : List UInt8) : ∀ f, decField s = some f → f.length ≤ s.length := by
  fun_induction decField s with
  | case1 => intro f h; cases h; simp
  | case2 a b r x hx ih =>
    intro f h
    obtain ⟨g, hg, rfl⟩ := Option.map_eq_some_iff.1 h
    have := ih g hg
    simp; omega
  | case3 => intro f h; cases h
  | case4 => intro f h; cases h
  | case5 => intro f h; cases h
  | case6 c r _ _ _ ih =>
    intro f h
    obtain ⟨g, hg, rfl⟩ := Option.map_eq_some_iff.1 h
    have := ih g hg
    simp; omega

/-- What stands behind a field. -/
def stop (r : List UInt8) : Prop := r = [] ∨ ∃ t, r = 44 :: t ∨ r = 10 :: t
theorem code_stop (a : UInt8) {b : UInt8} (h : b = 44 ∨ b = 10) : code a b = none ∧ ∀ c, code b c = none := by
  rcases h with rfl | rfl
  · exact ⟨by simp [code], fun c => by simp [code]⟩
  · exact ⟨by simp [code], fun c => by simp [code]⟩
theorem dec_piece (line : Nat) (row : List (List UInt8)) (p r : List UInt8) (hr : stop r) : ∀ (field : List UInt8), (∀ x ∈ p, x ≠ 44 ∧ x ≠ 10) →
    dec line row field (p ++ r) = match decField p with
      | some f => dec line row (field ++ f) r
      | none => .error line := by
  fun_induction decField p with
  | case1 => intro field _; simp
  | case2 a b t x hx ih =>
    intro field h
    rw [List.cons_append, List.cons_append, List.cons_append, dec_code, hx]
    simp only
    rw [ih _ (fun y hy => h y (by simp [hy]))]
    cases decField t <;> simp
  | case3 a b t hx =>
    intro field h
    rw [List.cons_append, List.cons_append, List.cons_append, dec_code, hx]
  | case4 =>
    intro field h
    rcases hr with rfl | ⟨t, rfl | rfl⟩
    · exact dec_short0 _ _ _
    · cases t with
      | nil => exact dec_short1 _ _ _ _
      | cons y t => rw [List.cons_append, List.nil_append, dec_code, (code_stop 0 (.inl rfl)).2]
    · cases t with
      | nil => exact dec_short1 _ _ _ _
      | cons y t => rw [List.cons_append, List.nil_append, dec_code, (code_stop 0 (.inr rfl)).2]
  | case5 a =>
    intro field h
    rcases hr with rfl | ⟨t, rfl | rfl⟩
    · exact dec_short1 _ _ _ _
    · rw [List.cons_append, List.cons_append, List.nil_append, dec_code, (code_stop a (.inl rfl)).1]
    · rw [List.cons_append, List.cons_append, List.nil_append, dec_code, (code_stop a (.inr rfl)).1]
  | case6 c t h1 h2 h3 ih =>
    intro field h
    have hc := h c (by simp)
    have h37 : c ≠ 37 := by
      rintro rfl
      match t with
      | [] => exact h2 rfl rfl
      | [x] => exact h3 x rfl rfl
      | x :: y :: t => exact h1 x y t rfl rfl
    rw [List.cons_append, dec_char _ _ _ _ _ hc.1 hc.2 h37, ih _ (fun y hy => h y (by simp [hy]))]
    cases decField t <;> simp

/-- A line, cut at its commas. -/
def pieces : List UInt8 → List (List UInt8)
  | [] => [[]]
  | c :: r => if c = 44 then [] :: pieces r else match pieces r with
    | [] => [[c]]
    | p :: ps => (c :: p) :: ps
theorem pieces_ne (l : List UInt8) : pieces l ≠ [] := by
  cases l with
  | nil => simp [pieces]
  | cons c r =>
    rw [pieces]
    split
    · simp
    · split <;> simp
theorem pieces_none (l : List UInt8) (h : 44 ∉ l) : pieces l = [l] := by
  induction l with
  | nil => rfl
  | cons c r ih =>
    have h1 : c ≠ 44 := fun e => h (by simp [e])
    rw [pieces, if_neg h1, ih (fun hm => h (by simp [hm]))]
theorem pieces_comma (a b : List UInt8) (h : 44 ∉ a) : pieces (a ++ 44 :: b) = a :: pieces b := by
  induction a with
  | nil => simp [pieces]
  | cons c r ih =>
    have h1 : c ≠ 44 := fun e => h (by simp [e])
    rw [List.cons_append, pieces, if_neg h1, ih (fun hm => h (by simp [hm]))]
def decLine (l : List UInt8) : Option (List (List UInt8)) := (pieces l).mapM decField
theorem decLine_none (l : List UInt8) (h : 44 ∉ l) : decLine l = (decField l).map ([·]) := by
  rw [decLine, pieces_none l h]
  cases hd : decField l <;> simp [List.mapM_cons, hd]
theorem decLine_comma (a b : List UInt8) (h : 44 ∉ a) : decLine (a ++ 44 :: b) = match decField a with
    | some f => (decLine b).map (f :: ·)
    | none => none := by
  rw [decLine, pieces_comma a b h, List.mapM_cons, decLine]
  cases decField a with
  | none => rfl
  | some f => cases (pieces b).mapM decField <;> rfl

/-- Where a byte stands first. -/
theorem first_byte (c : UInt8) (l : List UInt8) : (c ∉ l ∧ index l [c] = -1) ∨ ∃ a b, l = a ++ c :: b ∧ c ∉ a ∧ index l [c] = a.length := by
  rw [index_one]
  induction l with
  | nil => left; exact ⟨by simp, rfl⟩
  | cons d r ih =>
    by_cases h : d = c
    · right; exact ⟨[], r, by simp [h], by simp, by simp [indexByte, h]⟩
    · have hb : (d == c) = false := by simpa using h
      rcases ih with ⟨h1, h2⟩ | ⟨a, b, rfl, h1, h2⟩
      · left
        refine ⟨by simp [h1]; exact fun e => h e.symm, ?_⟩
        rw [indexByte, hb, h2]; rfl
      · right
        refine ⟨d :: a, b, rfl, by simp [h1]; exact fun e => h e.symm, ?_⟩
        rw [indexByte, hb, h2]
        have : ((a.length : Int) == -1) = false := by
          rw [Bool.eq_false_iff]; intro e; have := beq_iff_eq.1 e; omega
        simp [this]
theorem split_pieces : ∀ (n : Nat) (l : List UInt8), l.length ≤ n → split l [44] = pieces l := by
  intro n
  induction n with
  | zero =>
    intro l h
    have : l = [] := List.length_eq_zero_iff.1 (by omega)
    subst this; rfl
  | succ n ih =>
    intro l h
    rcases first_byte 44 l with ⟨h1, h2⟩ | ⟨a, b, rfl, h1, h2⟩
    · rw [split, count_miss h2, splitK, pieces_none l h1]
    · have hd : (a ++ 44 :: b).drop (a.length + [(44 : UInt8)].length) = b := by
        rw [show a.length + [(44 : UInt8)].length = (a ++ [44]).length by simp, show a ++ 44 :: b = (a ++ [44]) ++ b by simp, List.drop_left]
      have hb : (index (a ++ 44 :: b) [44] == -1) = false := by
        rw [h2, Bool.eq_false_iff]; intro e; have := beq_iff_eq.1 e; omega
      rw [split, count_hit (by simp) h2, hd, Nat.add_comm, splitK, hb, h2, Int.toNat_natCast, hd, pieces_comma a b h1, ← ih b (by simp at h; omega), split]
      simp
theorem cut_feed (l : List UInt8) : (10 ∉ l ∧ cut l [10] = (l, [], false)) ∨ ∃ a b, l = a ++ 10 :: b ∧ 10 ∉ a ∧ cut l [10] = (a, b, true) := by
  rcases first_byte 10 l with ⟨h1, h2⟩ | ⟨a, b, rfl, h1, h2⟩
  · left; refine ⟨h1, ?_⟩
    rw [cut, h2, if_neg (by decide)]
  · right
    refine ⟨a, b, rfl, h1, ?_⟩
    have hd : (a ++ 10 :: b).drop (a.length + [(10 : UInt8)].length) = b := by
      rw [show a.length + [(10 : UInt8)].length = (a ++ [10]).length by simp, show a ++ 10 :: b = (a ++ [10]) ++ b by simp, List.drop_left]
    rw [cut, h2, if_pos (by omega), Int.toNat_natCast, hd]
    simp

/-- A LINE OF THE TEXT. -/
theorem dec_line : ∀ (n : Nat) (l : List UInt8), l.length ≤ n → ∀ (line : Nat) (row : List (List UInt8)) (rest : List UInt8), 10 ∉ l →
    dec line row [] (l ++ 10 :: rest) = match decLine l with
      | none => .error line
      | some fs => match dec (line + 1) [] [] rest with
        | .ok rows => .ok ((row ++ fs) :: rows)
        | .error m => .error m := by
  intro n
  induction n with
  | zero =>
    intro l h line row rest _
    have : l = [] := List.length_eq_zero_iff.1 (by omega)
    subst this
    rw [decLine_none [] (by simp), decField_nil, List.nil_append, dec_lf]; rfl
  | succ n ih =>
    intro l h line row rest h10
    rcases first_byte 44 l with ⟨h1, _⟩ | ⟨a, b, rfl, h1, _⟩
    · rw [dec_piece line row l (10 :: rest) (.inr ⟨rest, .inr rfl⟩) [] (fun x hx => ⟨fun e => h1 (e ▸ hx), fun e => h10 (e ▸ hx)⟩), decLine_none l h1]
      cases decField l with
      | none => rfl
      | some f =>
        simp only [Option.map_some, List.nil_append]
        rw [dec_lf]
        cases dec (line + 1) [] [] rest <;> rfl
    · have e : a ++ 44 :: b ++ 10 :: rest = a ++ (44 :: (b ++ 10 :: rest)) := by simp
      rw [e, dec_piece line row a _ (.inr ⟨_, .inl rfl⟩) [] (fun x hx => ⟨fun e => h1 (e ▸ hx), fun e => h10 (by rw [← e]; simp [hx])⟩), decLine_comma a b h1]
      cases decField a with
      | none => rfl
      | some f =>
        simp only [List.nil_append]
        rw [dec_comma, ih b (by simp at h; omega) line (row ++ [f]) rest (fun hm => h10 (by simp [hm]))]
        cases decLine b with
        | none => rfl
        | some fs => simp

/-- The first byte of what is written, and how many letters it takes; 0, if a percent sign begins none of the three. -/
def rb (s : List UInt8) : UInt8 × Nat :=
  if s.headD 0 ≠ 37 then (s.headD 0, 1) else if hasPrefix s [37, 50, 53] then (37, 3) else if hasPrefix s [37, 50, 67] then (44, 3) else if hasPrefix s [37, 48, 65] then (10, 3) else (0, 0)
theorem rb_dec (s : List UInt8) (h : s ≠ []) : ((rb s).2 = 0 ∧ decField s = none) ∨ ((rb s).2 ≠ 0 ∧ (rb s).2 ≤ s.length ∧ decField s = (decField (s.drop (rb s).2)).map ((rb s).1 :: ·)) := by
  match s, h with
  | c :: r, _ =>
    by_cases hc : c = 37
    · subst hc
      match r with
      | [] => left; exact ⟨by decide, decField_short0⟩
      | [a] => left; exact ⟨by simp [rb, hasPrefix, List.isPrefixOf], decField_short1 a⟩
      | a :: b :: t =>
        rw [decField_code, code]
        have hp : ∀ x y : UInt8, hasPrefix (37 :: a :: b :: t) [37, x, y] = decide (a = x ∧ b = y) := by
          intro x y
          simp only [hasPrefix, List.isPrefixOf, beq_self_eq_true, Bool.true_and, Bool.and_true]
          rw [Bool.eq_iff_iff]
          simp only [Bool.and_eq_true, beq_iff_eq, decide_eq_true_eq]
          exact ⟨fun ⟨h1, h2⟩ => ⟨h1.symm, h2.symm⟩, fun ⟨h1, h2⟩ => ⟨h1.symm, h2.symm⟩⟩
        have e : rb (37 :: a :: b :: t) = if a = 50 ∧ b = 53 then (37, 3) else if a = 50 ∧ b = 67 then (44, 3) else if a = 48 ∧ b = 65 then (10, 3) else (0, 0) := by
          rw [rb, if_neg (by simp), hp, hp, hp]
          simp only [decide_eq_true_eq]
        rw [e]
        by_cases h1 : a = 50 ∧ b = 53
        · rw [if_pos h1, if_pos h1]; right; exact ⟨by simp, by simp, by simp⟩
        · rw [if_neg h1, if_neg h1]
          by_cases h2 : a = 50 ∧ b = 67
          · rw [if_pos h2, if_pos h2]; right; exact ⟨by simp, by simp, by simp⟩
          · rw [if_neg h2, if_neg h2]
            by_cases h3 : a = 48 ∧ b = 65
            · rw [if_pos h3, if_pos h3]; right; exact ⟨by simp, by simp, by simp⟩
            · rw [if_neg h3, if_neg h3]; left; exact ⟨rfl, rfl⟩
    · right
      have e : rb (c :: r) = (c, 1) := by rw [rb, if_pos (by simpa using hc)]; rfl
      rw [e, decField_char c r hc]
      exact ⟨by simp, by simp, by simp⟩
end Go.Proofs.YtjlcmgfgbmcjpaaDoor
