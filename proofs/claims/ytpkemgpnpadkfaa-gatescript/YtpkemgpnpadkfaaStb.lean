/- Proved: what a stable sort in place comes to: plain facts on merging and on inserting. -/
namespace Go.Proofs.Ytpkemgpnpadkfaa.Stb
set_option linter.unusedVariables false

/-- Two lists, each parted in two: what is parted rightly is merged in parts. -/
theorem merge_split {α : Type} (le : α → α → Bool) (L2 R2 : List α) : ∀ (n : Nat) (L1 R1 : List α), L1.length + R1.length = n → (∀ x ∈ L1, ∀ y ∈ R2, le x y = true) → (∀ y ∈ R1, ∀ x ∈ L2, le x y = false) →
    List.merge (L1 ++ L2) (R1 ++ R2) le = List.merge L1 R1 le ++ List.merge L2 R2 le
  | 0, L1, R1, hn, h1, h2 => by
    obtain rfl : L1 = [] := List.length_eq_zero_iff.1 (by omega)
    obtain rfl : R1 = [] := List.length_eq_zero_iff.1 (by omega)
    simp
  | n + 1, [], [], hn, h1, h2 => by simp
  | n + 1, x :: L1, [], hn, h1, h2 => by
    have ih := merge_split le L2 R2 n L1 [] (by simp at hn; simpa using hn) (fun a ha => h1 a (List.mem_cons_of_mem _ ha)) h2
    cases R2 with
    | nil => simp
    | cons y t =>
      have hx := h1 x (by simp) y (by simp)
      simp only [List.nil_append, List.cons_append, List.merge_right] at ih ⊢
      rw [List.cons_merge_cons]
      simp only [hx, if_true]
      rw [ih]
  | n + 1, [], y :: R1, hn, h1, h2 => by
    have ih := merge_split le L2 R2 n [] R1 (by simp at hn; simpa using hn) h1 (fun a ha => h2 a (List.mem_cons_of_mem _ ha))
    cases L2 with
    | nil => simp
    | cons x t =>
      have hx := h2 y (by simp) x (by simp)
      simp only [List.nil_append, List.cons_append, List.nil_merge] at ih ⊢
      rw [List.cons_merge_cons]
      simp only [hx]
      rw [ih]
      simp
  | n + 1, x :: L1, y :: R1, hn, h1, h2 => by
    have ia := merge_split le L2 R2 n L1 (y :: R1) (by simp at hn ⊢; omega) (fun a ha => h1 a (List.mem_cons_of_mem _ ha)) h2
    have ib := merge_split le L2 R2 n (x :: L1) R1 (by simp at hn ⊢; omega) h1 (fun a ha => h2 a (List.mem_cons_of_mem _ ha))
    simp only [List.cons_append] at ia ib ⊢
    rw [List.cons_merge_cons, List.cons_merge_cons]
    by_cases h : le x y = true
    · simp only [h, if_true, List.cons_append]
      rw [ia]
    · simp only [h]
      simp only [Bool.false_eq_true, if_false, List.cons_append]
      rw [ib]
/-- x stands behind all that are not behind it. -/
def ins {α : Type} (le : α → α → Bool) : List α → α → List α
  | [], x => [x]
  | a :: r, x => if le a x = true then a :: ins le r x else x :: a :: r
def isort {α : Type} (le : α → α → Bool) (l : List α) : List α := l.foldl (ins le) []
def Srt {α : Type} (le : α → α → Bool) (l : List α) : Prop := l.Pairwise (fun a b => le a b = true)
structure Tot {α : Type} (le : α → α → Bool) : Prop where
  tr : ∀ a b c, le a b = true → le b c = true → le a c = true
  or : ∀ a b, le a b = true ∨ le b a = true
theorem ins_mem {α : Type} {le : α → α → Bool} {l : List α} {x y : α} : y ∈ ins le l x ↔ y ∈ l ∨ y = x := by
  induction l with
  | nil => simp [ins]
  | cons a r ih =>
    unfold ins
    split
    · simp only [List.mem_cons, ih, or_assoc]
    · simp only [List.mem_cons]; exact or_comm
theorem Srt.ins {α : Type} {le : α → α → Bool} (ht : Tot le) {l : List α} (h : Srt le l) (x : α) : Srt le (ins le l x) := by
  induction l with
  | nil => exact List.pairwise_singleton _ _
  | cons a r ih =>
    obtain ⟨h1, h2⟩ := List.pairwise_cons.1 h
    unfold Stb.ins
    split
    · rename_i e
      refine List.pairwise_cons.2 ⟨fun y hy => ?_, ih h2⟩
      rcases ins_mem.1 hy with g | rfl
      · exact h1 y g
      · exact e
    · rename_i e
      have hxa : le x a = true := (ht.or x a).resolve_right e
      refine List.pairwise_cons.2 ⟨fun y hy => ?_, h⟩
      rcases List.mem_cons.1 hy with rfl | g
      · exact hxa
      · exact ht.tr _ _ _ hxa (h1 y g)
theorem ins_len {α : Type} {le : α → α → Bool} (l : List α) (x : α) : (ins le l x).length = l.length + 1 := by
  induction l with
  | nil => rfl
  | cons a r ih =>
    unfold ins
    split
    · simp [ih]
    · simp
theorem isort_len {α : Type} {le : α → α → Bool} (l : List α) : (isort le l).length = l.length := by
  have : ∀ (l s : List α), (l.foldl (ins le) s).length = s.length + l.length := by
    intro l
    induction l with
    | nil => intro s; rfl
    | cons a r ih =>
      intro s
      show (r.foldl (ins le) (ins le s a)).length = _
      rw [ih, ins_len, List.length_cons]
      omega
  have h := this l []
  unfold isort
  simpa using h
theorem isort_srt {α : Type} {le : α → α → Bool} (ht : Tot le) (l : List α) : Srt le (isort le l) := by
  have : ∀ (l s : List α), Srt le s → Srt le (l.foldl (ins le) s) := by
    intro l
    induction l with
    | nil => intro s h; exact h
    | cons a r ih => intro s h; exact ih _ (h.ins ht a)
  exact this l [] List.Pairwise.nil
theorem merge_ins {α : Type} {le : α → α → Bool} (ht : Tot le) (y : α) : ∀ (s t : List α), List.merge s (ins le t y) le = ins le (List.merge s t le) y
  | [], t => by simp
  | a :: r, [] => by
    have ih := merge_ins ht y r []
    simp only [ins, List.merge_right] at ih ⊢
    rw [List.cons_merge_cons]
    by_cases h : le a y = true
    · simp only [h, if_true]
      rw [ih]
    · simp only [h]
      simp
  | a :: r, b :: q => by
    have ia := merge_ins ht y r (b :: q)
    have ib := merge_ins ht y (a :: r) q
    by_cases hab : le a b = true
    · rw [List.cons_merge_cons]
      simp only [hab, if_true]
      by_cases hby : le b y = true
      · have hay := ht.tr _ _ _ hab hby
        have e1 : ins le (b :: q) y = b :: ins le q y := by simp [ins, hby]
        rw [e1] at ia ⊢
        rw [List.cons_merge_cons]
        simp only [hab, if_true]
        rw [ia]
        simp [ins, hay]
      · have e1 : ins le (b :: q) y = y :: b :: q := by simp [ins, hby]
        rw [e1] at ia ⊢
        rw [List.cons_merge_cons]
        by_cases hay : le a y = true
        · simp only [hay, if_true]
          rw [ia]
          simp [ins, hay]
        · simp only [hay]
          simp only [Bool.false_eq_true, if_false]
          rw [List.cons_merge_cons]
          simp [ins, hay, hab]
    · rw [List.cons_merge_cons]
      simp only [hab]
      simp only [Bool.false_eq_true, if_false]
      by_cases hby : le b y = true
      · have e1 : ins le (b :: q) y = b :: ins le q y := by simp [ins, hby]
        rw [e1, List.cons_merge_cons]
        simp only [hab]
        simp only [Bool.false_eq_true, if_false]
        rw [ib]
        simp [ins, hby]
      · have hyb : le y b = true := (ht.or y b).resolve_right hby
        have hay : le a y = false := by
          cases h : le a y
          · rfl
          · exact absurd (ht.tr _ _ _ h hyb) hab
        have e1 : ins le (b :: q) y = y :: b :: q := by simp [ins, hby]
        rw [e1, List.cons_merge_cons]
        simp only [hay]
        simp only [Bool.false_eq_true, if_false]
        rw [List.cons_merge_cons]
        simp [ins, hby, hab]
theorem merge_foldl {α : Type} {le : α → α → Bool} (ht : Tot le) : ∀ (ys s t : List α), List.merge s (ys.foldl (ins le) t) le = ys.foldl (ins le) (List.merge s t le)
  | [], s, t => rfl
  | y :: ys, s, t => by
    show List.merge s (ys.foldl (ins le) (ins le t y)) le = ys.foldl (ins le) (ins le (List.merge s t le) y)
    rw [merge_foldl ht ys s (ins le t y), merge_ins ht]
/-- Two parts that are in order, merged: the whole in order. -/
theorem isort_append {α : Type} {le : α → α → Bool} (ht : Tot le) (xs ys : List α) : isort le (xs ++ ys) = List.merge (isort le xs) (isort le ys) le := by
  unfold isort
  rw [merge_foldl ht, List.foldl_append, List.merge_right]
/-- One ahead of many, many ahead of one. -/
theorem merge_one_left {α : Type} (le : α → α → Bool) (x : α) (A B : List α) (hA : ∀ y ∈ A, le x y = false) (hB : ∀ y ∈ B, le x y = true) : List.merge [x] (A ++ B) le = A ++ x :: B := by
  have h := merge_split le [x] B _ [] A rfl (fun a ha => by cases ha) (fun y hy a ha => by rw [show a = x by simpa using ha]; exact hA y hy)
  simp only [List.nil_append, List.nil_merge] at h
  rw [h]
  congr 1
  cases B with
  | nil => simp
  | cons b r => rw [List.cons_merge_cons]; simp [hB b (by simp)]
theorem merge_one_right {α : Type} (le : α → α → Bool) (y : α) (A B : List α) (hA : ∀ x ∈ A, le x y = true) (hB : ∀ x ∈ B, le x y = false) : List.merge (A ++ B) [y] le = A ++ y :: B := by
  have h := merge_split le B [y] _ A [] rfl (fun a ha z hz => by rw [show z = y by simpa using hz]; exact hA a ha) (fun z hz => by cases hz)
  simp only [List.nil_append, List.merge_right] at h
  rw [h]
  congr 1
  cases B with
  | nil => simp
  | cons b r => rw [List.cons_merge_cons]; simp [hB b (by simp)]
/-- What is in order is left so. -/
theorem isort_of_srt {α : Type} {le : α → α → Bool} {l : List α} (h : Srt le l) : isort le l = l := by
  have snoc : ∀ (s : List α) (x : α), (∀ a ∈ s, le a x = true) → ins le s x = s ++ [x] := by
    intro s
    induction s with
    | nil => intro x _; rfl
    | cons a r ih =>
      intro x hx
      simp [ins, hx a (by simp), ih x (fun b hb => hx b (List.mem_cons_of_mem _ hb))]
  have : ∀ (l s : List α), Srt le (s ++ l) → l.foldl (ins le) s = s ++ l := by
    intro l
    induction l with
    | nil => intro s _; simp
    | cons a r ih =>
      intro s hs
      have h1 := (List.pairwise_append.1 hs).2.2
      show r.foldl (ins le) (ins le s a) = _
      rw [snoc s a (fun b hb => h1 b hb a (by simp)), ih (s ++ [a]) (by simpa using hs)]
      simp
  exact this l [] h
end Go.Proofs.Ytpkemgpnpadkfaa.Stb
