/- Proved: a stable sort in place, step by step, as plain facts on arrays: exchanges, parts that change places, merging, sorting by inserting. -/
import Derived.Shelf.SlSortCmp.KitK
import Derived.Test.YtpkemgpnpadkfaaStb
namespace Go.Proofs.Ytpkemgpnpadkfaa.Stb
open Go.Sort
set_option linter.unusedVariables false

theorem arr_get {α : Type} [Inhabited α] {d : Array α} {A R : List α} {x : α} {i : Nat} (h : d.toList = A ++ x :: R) (hi : A.length = i) : d[i]! = x := by
  obtain ⟨l⟩ := d
  subst hi
  simp only at h
  subst h
  simp
theorem arr_at {α : Type} [Inhabited α] {d : Array α} {A B C : List α} {i : Nat} (h : d.toList = A ++ (B ++ C)) {a : Nat} (hA : A.length = a) (hi : i < B.length) : d[a + i]! = B[i]! := by
  have e : B = B.take i ++ B[i]! :: B.drop (i + 1) := by
    rw [getElem!_pos B i hi]
    simp
  have h2 : d.toList = (A ++ B.take i) ++ B[i]! :: (B.drop (i + 1) ++ C) := by
    rw [h]
    conv => lhs; rw [e]
    simp
  exact arr_get h2 (by simp; omega)
theorem swp_list {α : Type} [Inhabited α] {d : Array α} {A B C : List α} {x y : α} {i j : Nat} (h : d.toList = A ++ x :: (B ++ y :: C)) (hi : A.length = i) (hj : A.length + 1 + B.length = j) :
    (swp d i j).toList = A ++ y :: (B ++ x :: C) ∧ (swp d j i).toList = A ++ y :: (B ++ x :: C) := by
  have e1 : d[i]! = x := arr_get h hi
  have e2 : d[j]! = y := arr_get (A := A ++ x :: B) (R := C) (by rw [h]; simp) (by simp; omega)
  unfold swp
  rw [e1, e2]
  have s1 : ∀ (l : List α) (z u : α) (R : List α) (n : Nat), l.length = n → (l ++ z :: R).set n u = l ++ u :: R := fun l z u R n hn => by
    subst hn
    simp
  simp only [Array.toList_setIfInBounds, h]
  constructor
  · rw [s1 A x y _ i hi]
    have := s1 (A ++ y :: B) y x C j (by simp; omega)
    simpa using this
  · have := s1 (A ++ x :: B) y x C j (by simp; omega)
    simp only [List.append_assoc, List.cons_append] at this
    rw [this, s1 A x y _ i hi]
theorem drop_cons {α : Type} [Inhabited α] {l : List α} {i : Nat} (h : i < l.length) : l.drop i = l[i]! :: l.drop (i + 1) := by
  rw [getElem!_pos l i h]
  simp
theorem take_snoc {α : Type} [Inhabited α] {l : List α} {i : Nat} (h : i < l.length) : l.take (i + 1) = l.take i ++ [l[i]!] := by
  rw [getElem!_pos l i h]
  simp

/-! ### Two parts that change places -/
def swr {α : Type} (A X B Y C : List α) (i : Nat) : List α := A ++ ((Y.take i ++ X.drop i) ++ (B ++ ((X.take i ++ Y.drop i) ++ C)))
theorem swr_zero {α : Type} (A X B Y C : List α) : swr A X B Y C 0 = A ++ (X ++ (B ++ (Y ++ C))) := by simp [swr]
theorem swr_end {α : Type} (A X B Y C : List α) {n : Nat} (hX : X.length = n) (hY : Y.length = n) : swr A X B Y C n = A ++ (Y ++ (B ++ (X ++ C))) := by
  subst hX
  simp [swr, List.take_of_length_le (Nat.le_of_eq hY), List.drop_of_length_le (Nat.le_of_eq hY)]
theorem swr_step {α : Type} [Inhabited α] {A X B Y C : List α} {d : Array α} {i n a b : Nat} (hX : X.length = n) (hY : Y.length = n) (hi : i < n) (hA : A.length = a) (hb : a + n + B.length = b) (h : d.toList = swr A X B Y C i) :
    (swp d (a + i) (b + i)).toList = swr A X B Y C (i + 1) := by
  have ex := drop_cons (l := X) (i := i) (by omega)
  have ey := drop_cons (l := Y) (i := i) (by omega)
  have h2 : d.toList = (A ++ Y.take i) ++ X[i]! :: ((X.drop (i + 1) ++ B ++ X.take i) ++ Y[i]! :: (Y.drop (i + 1) ++ C)) := by
    rw [h]
    unfold swr
    rw [ex, ey]
    simp
  rw [(swp_list h2 (by simp; omega) (by simp; omega)).1]
  unfold swr
  rw [take_snoc (l := X) (by omega), take_snoc (l := Y) (by omega)]
  simp

/-! ### One that goes through many -/
theorem up_step {α : Type} [Inhabited α] {A Y C : List α} {x : α} {d : Array α} {a q : Nat} (hA : A.length = a) (hq : q < Y.length) (h : d.toList = A ++ (Y.take q ++ x :: (Y.drop q ++ C))) :
    (swp d (a + q) (a + q + 1)).toList = A ++ (Y.take (q + 1) ++ x :: (Y.drop (q + 1) ++ C)) := by
  have h2 : d.toList = (A ++ Y.take q) ++ x :: ([] ++ Y[q]! :: (Y.drop (q + 1) ++ C)) := by
    rw [h, drop_cons hq]
    simp
  rw [(swp_list h2 (by simp; omega) (by simp; omega)).1, take_snoc hq]
  simp
theorem down_step {α : Type} [Inhabited α] {A X C : List α} {y : α} {d : Array α} {a q : Nat} (hA : A.length = a) (hq : q < X.length) (h : d.toList = A ++ (X.take (q + 1) ++ y :: (X.drop (q + 1) ++ C))) :
    (swp d (a + (q + 1)) (a + q)).toList = A ++ (X.take q ++ y :: (X.drop q ++ C)) := by
  have h2 : d.toList = (A ++ X.take q) ++ X[q]! :: ([] ++ y :: (X.drop (q + 1) ++ C)) := by
    rw [h, take_snoc hq]
    simp
  rw [(swp_list h2 (by simp; omega) (by simp; omega)).2, drop_cons hq]
  simp

/-! ### Merging -/
theorem srt_at {α : Type} [Inhabited α] {le : α → α → Bool} (ht : Tot le) {l : List α} (h : Srt le l) {i j : Nat} (hij : i ≤ j) (hj : j < l.length) : le l[i]! l[j]! = true := by
  rw [getElem!_pos l i (by omega), getElem!_pos l j hj]
  rcases Nat.lt_or_ge i j with g | g
  · exact List.pairwise_iff_getElem.1 h i j (by omega) hj g
  · obtain rfl : i = j := by omega
    rcases ht.or l[i] l[i] with g | g <;> exact g
theorem mem_take_at {α : Type} [Inhabited α] {l : List α} {n : Nat} {x : α} (h : x ∈ l.take n) : ∃ i, i < n ∧ i < l.length ∧ x = l[i]! := by
  obtain ⟨i, hi, rfl⟩ := List.mem_iff_getElem.1 h
  rw [List.length_take] at hi
  refine ⟨i, by omega, by omega, ?_⟩
  rw [getElem!_pos l i (by omega)]
  simp
theorem mem_drop_at {α : Type} [Inhabited α] {l : List α} {n : Nat} {x : α} (h : x ∈ l.drop n) : ∃ i, n ≤ i ∧ i < l.length ∧ x = l[i]! := by
  obtain ⟨i, hi, rfl⟩ := List.mem_iff_getElem.1 h
  rw [List.length_drop] at hi
  refine ⟨n + i, by omega, by omega, ?_⟩
  rw [getElem!_pos l (n + i) (by omega)]
  simp
theorem merge_parts {α : Type} [Inhabited α] {le : α → α → Bool} (ht : Tot le) {X Y : List α} (hX : Srt le X) (hY : Srt le Y) {s t : Nat} (hs : s ≤ X.length) (htl : t ≤ Y.length)
    (h1 : s = 0 ∨ t = Y.length ∨ le X[s - 1]! Y[t]! = true) (h2 : s = X.length ∨ t = 0 ∨ le X[s]! Y[t - 1]! = false) :
    List.merge X Y le = List.merge (X.take s) (Y.take t) le ++ List.merge (X.drop s) (Y.drop t) le := by
  have h := merge_split le (X.drop s) (Y.drop t) _ (X.take s) (Y.take t) rfl (fun x hx y hy => by
    obtain ⟨i, hi, hi2, rfl⟩ := mem_take_at hx
    obtain ⟨j, hj, hj2, rfl⟩ := mem_drop_at hy
    rcases h1 with h1 | h1 | h1
    · omega
    · omega
    · exact ht.tr _ _ _ (srt_at ht hX (show i ≤ s - 1 by omega) (by omega)) (ht.tr _ _ _ h1 (srt_at ht hY hj hj2))) (fun y hy x hx => by
    obtain ⟨i, hi, hi2, rfl⟩ := mem_take_at hy
    obtain ⟨j, hj, hj2, rfl⟩ := mem_drop_at hx
    rcases h2 with h2 | h2 | h2
    · omega
    · omega
    · cases e : le X[j]! Y[i]!
      · rfl
      · have := ht.tr _ _ _ (ht.tr _ _ _ (srt_at ht hX hj hj2) e) (srt_at ht hY (show i ≤ t - 1 by omega) (by omega))
        rw [h2] at this
        cases this)
  rw [List.take_append_drop, List.take_append_drop] at h
  exact h
theorem merge_left {α : Type} [Inhabited α] {le : α → α → Bool} (ht : Tot le) {Y : List α} (hY : Srt le Y) (x : α) {p : Nat} (hp : p ≤ Y.length)
    (h1 : p = 0 ∨ le x Y[p - 1]! = false) (h2 : p = Y.length ∨ le x Y[p]! = true) : List.merge [x] Y le = Y.take p ++ x :: Y.drop p := by
  have h := merge_one_left le x (Y.take p) (Y.drop p) (fun y hy => by
    obtain ⟨i, hi, hi2, rfl⟩ := mem_take_at hy
    rcases h1 with h1 | h1
    · omega
    · cases e : le x Y[i]!
      · rfl
      · have := ht.tr _ _ _ e (srt_at ht hY (show i ≤ p - 1 by omega) (by omega))
        rw [h1] at this
        cases this) (fun y hy => by
    obtain ⟨j, hj, hj2, rfl⟩ := mem_drop_at hy
    rcases h2 with h2 | h2
    · omega
    · exact ht.tr _ _ _ h2 (srt_at ht hY hj hj2))
  rw [List.take_append_drop] at h
  exact h
theorem merge_right {α : Type} [Inhabited α] {le : α → α → Bool} (ht : Tot le) {X : List α} (hX : Srt le X) (y : α) {p : Nat} (hp : p ≤ X.length)
    (h1 : p = 0 ∨ le X[p - 1]! y = true) (h2 : p = X.length ∨ le X[p]! y = false) : List.merge X [y] le = X.take p ++ y :: X.drop p := by
  have h := merge_one_right le y (X.take p) (X.drop p) (fun x hx => by
    obtain ⟨i, hi, hi2, rfl⟩ := mem_take_at hx
    rcases h1 with h1 | h1
    · omega
    · exact ht.tr _ _ _ (srt_at ht hX (show i ≤ p - 1 by omega) (by omega)) h1) (fun x hx => by
    obtain ⟨j, hj, hj2, rfl⟩ := mem_drop_at hx
    rcases h2 with h2 | h2
    · omega
    · cases e : le X[j]! y
      · rfl
      · have := ht.tr _ _ _ (srt_at ht hX hj hj2) e
        rw [h2] at this
        cases this)
  rw [List.take_append_drop] at h
  exact h
theorem Srt.part {α : Type} {le : α → α → Bool} {A B : List α} (h : Srt le (A ++ B)) : Srt le A ∧ Srt le B := ⟨(List.pairwise_append.1 h).1, (List.pairwise_append.1 h).2.1⟩
theorem Srt.take {α : Type} {le : α → α → Bool} {A : List α} (h : Srt le A) (n : Nat) : Srt le (A.take n) := List.Pairwise.sublist (List.take_sublist n A) h
theorem Srt.drop {α : Type} {le : α → α → Bool} {A : List α} (h : Srt le A) (n : Nat) : Srt le (A.drop n) := List.Pairwise.sublist (List.drop_sublist n A) h

/-! ### Sorting by inserting -/
theorem ins_last {α : Type} {le : α → α → Bool} {s : List α} {x y : α} (h : le y x = false) : ins le (s ++ [y]) x = ins le s x ++ [y] := by
  induction s with
  | nil => simp [ins, h]
  | cons a r ih =>
    simp only [List.cons_append, ins]
    split
    · rw [ih]; rfl
    · rfl
theorem ins_end {α : Type} {le : α → α → Bool} : ∀ {s : List α} {x : α}, (∀ a ∈ s, le a x = true) → ins le s x = s ++ [x]
  | [], x, _ => rfl
  | a :: r, x, h => by
    simp [ins, h a (by simp), ins_end (fun b hb => h b (List.mem_cons_of_mem _ hb))]
theorem insInner_list {α : Type} [Inhabited α] {le lt : α → α → Bool} (ht : Tot le) (hlt : ∀ x y, lt x y = !le y x) {A : List α} {a : Nat} (hA : A.length = a) : ∀ (n : Nat) (S : List α) (x : α) (R : List α) (d : Array α), S.length = n → Srt le S → d.toList = A ++ (S ++ x :: R) →
    (insInner lt a (a + n) d).toList = A ++ (ins le S x ++ R)
  | 0, S, x, R, d, hn, hs, h => by
    obtain rfl : S = [] := List.length_eq_zero_iff.1 hn
    rw [insInner_stop _ _ _ _ (Or.inl (by omega)), h]
    rfl
  | n + 1, S, x, R, d, hn, hs, h => by
    obtain ⟨S', y, rfl⟩ : ∃ S' y, S = S' ++ [y] := ⟨S.dropLast, S.getLast (by intro e; simp [e] at hn), (List.dropLast_concat_getLast _).symm⟩
    have hn' : S'.length = n := by simpa using hn
    have h2 : d.toList = (A ++ S') ++ y :: ([] ++ x :: R) := by rw [h]; simp
    have e1 : d[a + (n + 1)]! = x := arr_get (A := A ++ (S' ++ [y])) (R := R) (by rw [h]; simp) (by simp; omega)
    have e2 : d[a + n]! = y := arr_get h2 (by simp; omega)
    obtain ⟨hs1, hs2⟩ := hs.part
    cases hc : le y x
    · rw [insInner_go lt a (a + (n + 1)) d (by omega) (by rw [show a + (n + 1) - 1 = a + n by omega, e1, e2, hlt, hc]; rfl), show a + (n + 1) - 1 = a + n by omega,
        insInner_list ht hlt hA n S' x (y :: R) _ hn' hs1 (by rw [(swp_list h2 (by simp; omega) (by simp; omega)).2]; simp), ins_last hc]
      simp
    · rw [insInner_stop _ _ _ _ (Or.inr (by rw [show a + (n + 1) - 1 = a + n by omega, e1, e2, hlt, hc]; rfl)), h, ins_end (fun z hz => ?_)]
      · simp
      · rcases List.mem_append.1 hz with g | g
        · exact ht.tr _ _ _ ((List.pairwise_append.1 hs).2.2 z g y (by simp)) hc
        · obtain rfl : z = y := by simpa using g
          exact hc
theorem insOuter_list {α : Type} [Inhabited α] {le lt : α → α → Bool} (ht : Tot le) (hlt : ∀ x y, lt x y = !le y x) {A : List α} {a : Nat} (hA : A.length = a) (C : List α) : ∀ (Q P : List α) (d : Array α) (i b : Nat), a + P.length = i → i + Q.length = b → d.toList = A ++ (isort le P ++ (Q ++ C)) →
    (insOuter lt a b i d).toList = A ++ (isort le (P ++ Q) ++ C)
  | [], P, d, i, b, hi, hb, h => by
    rw [insOuter_stop _ _ _ _ _ (by simp at hb; omega), h]
    simp
  | x :: Q, P, d, i, b, hi, hb, h => by
    have hl : (isort le P).length = P.length := isort_len P
    rw [insOuter_go _ _ _ _ _ (by simp at hb; omega)]
    have h1 := insInner_list ht hlt hA P.length (isort le P) x (Q ++ C) d hl (isort_srt ht P) (by rw [h]; simp)
    rw [hi] at h1
    have h2 := insOuter_list ht hlt hA C Q (P ++ [x]) (insInner lt a i d) (i + 1) b (by simp; omega) (by simp at hb; omega) (by rw [h1]; unfold isort; simp)
    rw [h2]
    simp
theorem insertionSort_list {α : Type} [Inhabited α] {le lt : α → α → Bool} (ht : Tot le) (hlt : ∀ x y, lt x y = !le y x) {A X C : List α} {a b : Nat} (hA : A.length = a) (hb : a + X.length = b) {d : Array α} (h : d.toList = A ++ (X ++ C)) :
    (insertionSort lt d a b).toList = A ++ (isort le X ++ C) := by
  unfold insertionSort
  cases X with
  | nil =>
    rw [insOuter_stop _ _ _ _ _ (by simp at hb; omega), h]
    rfl
  | cons x Q => exact insOuter_list ht hlt hA C Q [x] d (a + 1) b (by simp) (by simp at hb; omega) (by rw [h]; simp [isort, ins])

/-! ### By blocks -/
/-- The first c blocks of s each, each in order. -/
def bl {α : Type} (le : α → α → Bool) (s : Nat) : Nat → List α → List α
  | 0, l => []
  | c + 1, l => isort le (l.take s) ++ bl le s c (l.drop s)
theorem bl_nil {α : Type} (le : α → α → Bool) (s : Nat) : ∀ c, bl le s c ([] : List α) = []
  | 0 => rfl
  | c + 1 => by
    show isort le (([] : List α).take s) ++ bl le s c (([] : List α).drop s) = []
    simp [bl_nil le s c, isort]
theorem bl_snoc {α : Type} (le : α → α → Bool) (s : Nat) : ∀ (c : Nat) (l : List α), bl le s (c + 1) l = bl le s c l ++ isort le ((l.drop (s * c)).take s)
  | 0, l => by simp [bl]
  | c + 1, l => by
    show isort le (l.take s) ++ bl le s (c + 1) (l.drop s) = (isort le (l.take s) ++ bl le s c (l.drop s)) ++ _
    rw [bl_snoc le s c (l.drop s), List.append_assoc, List.drop_drop, show s + s * c = s * (c + 1) by rw [Nat.mul_add]; omega]
theorem bl_len {α : Type} (le : α → α → Bool) (s : Nat) : ∀ (c : Nat) (l : List α), s * c ≤ l.length → (bl le s c l).length = s * c
  | 0, l, h => by simp [bl]
  | c + 1, l, h => by
    have hm : s * (c + 1) = s * c + s := by rw [Nat.mul_add]; omega
    show (isort le (l.take s) ++ bl le s c (l.drop s)).length = _
    rw [List.length_append, isort_len, bl_len le s c (l.drop s) (by rw [List.length_drop]; omega), List.length_take]
    omega
theorem bl_end {α : Type} (le : α → α → Bool) (s : Nat) : ∀ (c : Nat) (l : List α), l.length ≤ s → l.length ≤ s * c → bl le s c l = isort le l
  | 0, l, h, g => by
    obtain rfl : l = [] := List.length_eq_zero_iff.1 (by omega)
    rfl
  | c + 1, l, h, g => by
    show isort le (l.take s) ++ bl le s c (l.drop s) = _
    rw [List.take_of_length_le h, List.drop_of_length_le h, bl_nil, List.append_nil]
theorem bl_two {α : Type} (le : α → α → Bool) (s c : Nat) (l : List α) (h0 : 0 < s) (h : s < l.length) (hc : l.length ≤ s * c) : ∃ c', c = c' + 2 ∧ bl le s c l = isort le (l.take s) ++ (isort le ((l.drop s).take s) ++ bl le s c' (l.drop (s + s))) := by
  match c, hc with
  | 0, hc => omega
  | 1, hc => omega
  | c' + 2, hc =>
    refine ⟨c', rfl, ?_⟩
    show isort le (l.take s) ++ (isort le ((l.drop s).take s) ++ bl le s c' ((l.drop s).drop s)) = _
    rw [List.drop_drop]
def I1 {α : Type} (le : α → α → Bool) (L : List α) (j : Nat) (D : List α) : Prop := D = bl le 20 j L ++ L.drop (20 * j)
def I2 {α : Type} (le : α → α → Bool) (L : List α) (s : Nat) (D : List α) : Prop := ∃ c, L.length ≤ s * c ∧ D = bl le s c L
def I3 {α : Type} (le : α → α → Bool) (L : List α) (s j : Nat) (D : List α) : Prop := ∃ c, L.length ≤ 2 * s * j + s * c ∧ D = bl le (2 * s) j L ++ bl le s c (L.drop (2 * s * j))
theorem I1.start {α : Type} (le : α → α → Bool) (L : List α) : I1 le L 0 L := by simp [I1, bl]
theorem I1.ins {α : Type} {le : α → α → Bool} {L D : List α} {j : Nat} (h : I1 le L j D) (hj : 20 * j + 20 ≤ L.length) : ∃ A X C, D = A ++ (X ++ C) ∧ A.length = 20 * j ∧ X.length = 20 ∧ I1 le L (j + 1) (A ++ (isort le X ++ C)) := by
  refine ⟨bl le 20 j L, (L.drop (20 * j)).take 20, L.drop (20 * j + 20), ?_, bl_len le 20 j L (by omega), by simp; omega, ?_⟩
  · rw [h, ← List.drop_drop, List.take_append_drop]
  · unfold I1
    rw [bl_snoc, List.append_assoc, show 20 * (j + 1) = 20 * j + 20 by omega]
theorem I1.last {α : Type} {le : α → α → Bool} {L D : List α} {j : Nat} (h : I1 le L j D) (hj : 20 * j ≤ L.length) (hj2 : L.length < 20 * j + 20) : ∃ A X C, D = A ++ (X ++ C) ∧ A.length = 20 * j ∧ 20 * j + X.length = L.length ∧ I2 le L 20 (A ++ (isort le X ++ C)) := by
  refine ⟨bl le 20 j L, L.drop (20 * j), [], by rw [h, List.append_nil], bl_len le 20 j L hj, by simp; omega, j + 1, by omega, ?_⟩
  rw [bl_snoc, List.append_nil, List.take_of_length_le (by simp; omega)]
theorem I2.start {α : Type} {le : α → α → Bool} {L D : List α} {s : Nat} (h : I2 le L s D) : I3 le L s 0 D := by
  obtain ⟨c, h1, rfl⟩ := h
  exact ⟨c, by simpa using h1, by simp [bl]⟩
theorem I3.mrg {α : Type} {le : α → α → Bool} (ht : Tot le) {L D : List α} {s j : Nat} (h : I3 le L s j D) (hs : 0 < s) (hj : 2 * s * j + 2 * s ≤ L.length) :
    ∃ A X Y C, D = A ++ (X ++ (Y ++ C)) ∧ A.length = 2 * s * j ∧ X.length = s ∧ Y.length = s ∧ Srt le X ∧ Srt le Y ∧ I3 le L s (j + 1) (A ++ (List.merge X Y le ++ C)) := by
  obtain ⟨c, h1, rfl⟩ := h
  have hl : (L.drop (2 * s * j)).length = L.length - 2 * s * j := by simp
  obtain ⟨c', rfl, e⟩ := bl_two le s c (L.drop (2 * s * j)) hs (by omega) (by omega)
  have hm : 2 * s * (j + 1) = 2 * s * j + (s + s) := by rw [Nat.mul_add]; omega
  refine ⟨bl le (2 * s) j L, _, _, _, by rw [e], bl_len le (2 * s) j L (by omega), by rw [isort_len]; simp; omega, by rw [isort_len]; simp; omega, isort_srt ht _, isort_srt ht _, c', ?_, ?_⟩
  · rw [hm]
    have : s * (c' + 2) = s * c' + (s + s) := by rw [Nat.mul_add]; omega
    omega
  · have e3 : (L.drop (2 * s * j)).take (2 * s) = (L.drop (2 * s * j)).take s ++ ((L.drop (2 * s * j)).drop s).take s := by
      generalize L.drop (2 * s * j) = Z
      rw [show 2 * s = s + s by omega, List.take_add]
    rw [← isort_append ht, bl_snoc, List.append_assoc, hm, e3, List.drop_drop (i := s + s)]
theorem I3.last {α : Type} {le : α → α → Bool} (ht : Tot le) {L D : List α} {s j : Nat} (h : I3 le L s j D) (hs : 0 < s) (hj : 2 * s * j + s < L.length) (hj2 : L.length < 2 * s * j + 2 * s) :
    ∃ A X Y C, D = A ++ (X ++ (Y ++ C)) ∧ A.length = 2 * s * j ∧ X.length = s ∧ 2 * s * j + s + Y.length = L.length ∧ Srt le X ∧ Srt le Y ∧ I2 le L (2 * s) (A ++ (List.merge X Y le ++ C)) := by
  obtain ⟨c, h1, rfl⟩ := h
  have hl : (L.drop (2 * s * j)).length = L.length - 2 * s * j := by simp
  obtain ⟨c', rfl, e⟩ := bl_two le s c (L.drop (2 * s * j)) hs (by omega) (by omega)
  have e2 : (L.drop (2 * s * j)).drop (s + s) = [] := List.drop_of_length_le (by omega)
  rw [e2, bl_nil] at e
  refine ⟨bl le (2 * s) j L, _, _, [], by rw [e], bl_len le (2 * s) j L (by omega), by rw [isort_len]; simp; omega, by rw [isort_len]; simp; omega, isort_srt ht _, isort_srt ht _, j + 1, ?_, ?_⟩
  · rw [Nat.mul_add]; omega
  · have e3 : (L.drop (2 * s * j)).take (2 * s) = (L.drop (2 * s * j)).take s ++ ((L.drop (2 * s * j)).drop s).take s := by
      generalize L.drop (2 * s * j) = Z
      rw [show 2 * s = s + s by omega, List.take_add]
    rw [← isort_append ht, bl_snoc, List.append_nil, e3]
theorem I3.done {α : Type} {le : α → α → Bool} {L D : List α} {s j : Nat} (h : I3 le L s j D) (hj : L.length ≤ 2 * s * j + s) (hj3 : 2 * s * j ≤ L.length) : I2 le L (2 * s) D := by
  obtain ⟨c, h1, rfl⟩ := h
  have hl : (L.drop (2 * s * j)).length = L.length - 2 * s * j := by simp
  refine ⟨j + 1, ?_, ?_⟩
  · rw [Nat.mul_add]; omega
  · rw [bl_snoc, bl_end le s c _ (by omega) (by omega), List.take_of_length_le (by omega)]
theorem I2.fin {α : Type} {le : α → α → Bool} {L D : List α} {s : Nat} (h : I2 le L s D) (hs : L.length ≤ s) : D = isort le L := by
  obtain ⟨c, h1, rfl⟩ := h
  exact bl_end le s c L hs h1
end Go.Proofs.Ytpkemgpnpadkfaa.Stb
