/- Proved: pages of a calendar as plain data: where a key stands in a sorted list, and what the pages of a sorted list have. -/
import Derived.Test.YtjkcdkoomipfkaaSpec
namespace Go.Proofs.Ytjkcdkoomipfkaa
open Go.RowKit Go.Sort
set_option linter.unusedVariables false

/-! ### Where a key stands -/
def pos : List M → K → Nat
  | [], _ => 0
  | y :: r, k => if klt y.1 k = true then pos r k + 1 else 0
theorem pos_le (l : List M) (k : K) : pos l k ≤ l.length := by
  induction l with
  | nil => simp [pos]
  | cons y r ih => simp only [pos]; split <;> simp <;> omega
theorem pos_unique : ∀ {l : List M} {k : K} {i : Nat}, i ≤ l.length → (∀ t, t < i → klt (nth l t).1 k = true) → (∀ t, i ≤ t → t < l.length → klt (nth l t).1 k = false) → pos l k = i
  | [], k, i, h, _, _ => by simp at h; simp [pos, h]
  | y :: r, k, 0, _, _, h2 => by
    have := h2 0 (Nat.le_refl _) (by simp)
    simp [nth] at this
    simp [pos, this]
  | y :: r, k, i + 1, h, h1, h2 => by
    have h0 := h1 0 (by omega)
    simp [nth] at h0
    simp only [pos, h0, if_true]
    rw [pos_unique (l := r) (k := k) (i := i) (by simpa using h) (fun t ht => by simpa [nth] using h1 (t + 1) (by omega)) (fun t ht hl => by simpa [nth] using h2 (t + 1) (by omega) (by simpa using hl))]
theorem srt_cons {y : M} {r : List M} (h : Srt (y :: r)) : (∀ x ∈ r, klt y.1 x.1 = true) ∧ Srt r := List.pairwise_cons.1 h
theorem nth_mem {l : List M} {t : Nat} (h : t < l.length) : nth l t ∈ l := by rw [nth_get l t h]; exact List.getElem_mem _
/-- What is below k stands ahead of what is not. -/
theorem srt_mono {l : List M} (h : Srt l) (k : K) {a b : Nat} (hab : a ≤ b) (hb : b < l.length) (hk : klt (nth l b).1 k = true) : klt (nth l a).1 k = true := by
  rcases Nat.lt_or_eq_of_le hab with hlt | rfl
  · have := List.pairwise_iff_getElem.1 h a b (by omega) hb hlt
    rw [nth_get l a (by omega)]
    rw [nth_get l b hb] at hk
    exact klt_trans this hk
  · exact hk
theorem pos_has : ∀ {l : List M} (h : Srt l) (k : K), (pos l k < l.length ∧ (nth l (pos l k)).1 = k) ↔ hasK l k = true
  | [], _, k => by simp [pos, hasK]
  | y :: r, h, k => by
    obtain ⟨h1, h2⟩ := srt_cons h
    simp only [pos]
    by_cases e : klt y.1 k = true
    · rw [if_pos e]
      have ih := pos_has h2 k
      have hne : y.1 ≠ k := fun c => by rw [c, klt_irrefl] at e; cases e
      have e2 : hasK (y :: r) k = hasK r k := by simp [hasK, hne]
      rw [e2, ← ih]
      simp [nth]
    · rw [if_neg e]
      by_cases hy : y.1 = k
      · simp [hasK, nth, hy]
      · have hlt : klt k y.1 = true := (klt_or hy).resolve_left e
        have : hasK (y :: r) k = false := by
          simp only [hasK, List.any_eq_false]
          intro x hx
          simp only [decide_eq_true_eq]
          intro c
          rcases List.mem_cons.1 hx with rfl | hx
          · exact hy c
          · have := klt_trans hlt (h1 x hx)
            rw [c, klt_irrefl] at this
            cases this
        rw [this]
        simp [nth, hy]
theorem ins_head {l : List M} {m : M} (h : ∀ x ∈ l, klt m.1 x.1 = true) : ins l m = m :: l := by
  cases l with
  | nil => rfl
  | cons y r => simp [ins, h y (by simp)]
theorem pos_ins : ∀ {l : List M} (h : Srt l) (m : M) (hn : hasK l m.1 = false), l.take (pos l m.1) ++ [m] ++ l.drop (pos l m.1) = ins l m
  | [], _, m, _ => rfl
  | y :: r, h, m, hn => by
    obtain ⟨h1, h2⟩ := srt_cons h
    have hn2 : y.1 ≠ m.1 ∧ hasK r m.1 = false := by
      simp only [hasK, List.any_cons, Bool.or_eq_false_iff, decide_eq_false_iff_not] at hn
      exact hn
    simp only [pos, ins]
    by_cases e : klt y.1 m.1 = true
    · rw [if_pos e, if_neg (by rw [klt_asymm e]; simp)]
      simp only [List.take_succ_cons, List.drop_succ_cons, List.cons_append]
      rw [pos_ins h2 m hn2.2]
    · rw [if_neg e, if_pos ((klt_or hn2.1).resolve_left e)]
      rfl
theorem pos_del : ∀ {l : List M} (h : Srt l) (k : K) (hn : hasK l k = true), l.take (pos l k) ++ l.drop (pos l k + 1) = del l k ∧ nth l (pos l k) = fnd l k
  | [], _, k, hn => by simp [hasK] at hn
  | y :: r, h, k, hn => by
    obtain ⟨h1, h2⟩ := srt_cons h
    simp only [pos]
    by_cases e : klt y.1 k = true
    · have hne : y.1 ≠ k := fun c => by rw [c, klt_irrefl] at e; cases e
      have hn2 : hasK r k = true := by
        have : hasK (y :: r) k = hasK r k := by simp [hasK, hne]
        rw [← this]; exact hn
      obtain ⟨i1, i2⟩ := pos_del h2 k hn2
      rw [if_pos e]
      refine ⟨?_, ?_⟩
      · simp only [List.take_succ_cons, List.drop_succ_cons, List.cons_append]
        rw [i1]
        simp [del, hne]
      · have : nth (y :: r) (pos r k + 1) = nth r (pos r k) := by simp [nth]
        rw [this, i2]
        simp [fnd, hne]
    · rw [if_neg e]
      have hy : y.1 = k := by
        have := (pos_has h k).2 hn
        simp only [pos, if_neg e] at this
        simpa [nth] using this.2
      refine ⟨?_, by simp [nth, fnd, hy]⟩
      simp only [List.take_zero, List.nil_append, Nat.zero_add, List.drop_succ_cons, List.drop_zero]
      have : ∀ x ∈ r, decide (x.1 ≠ k) = true := fun x hx => by
        have := h1 x hx
        simp only [decide_eq_true_eq]
        intro c
        rw [c, hy, klt_irrefl] at this
        cases this
      rw [show del (y :: r) k = del r k by simp [del, hy]]
      exact (List.filter_eq_self.2 this).symm

/-! ### Pages -/
def pgN (day : Nat) (t : Int) : Nat := (t.toNat / day) % 8
theorem pgN_lt (day : Nat) (t : Int) : pgN day t < 8 := Nat.mod_lt _ (by omega)
def pg (day i : Nat) (s : List M) : List M := s.filter (fun x => decide (pgN day x.1.1 = i))
theorem Srt.pg {s : List M} (h : Srt s) (day i : Nat) : Srt (pg day i s) := h.filter _
theorem pg_nil (day i : Nat) : pg day i [] = [] := rfl
theorem pg_mem {day i : Nat} {s : List M} {x : M} : x ∈ pg day i s ↔ x ∈ s ∧ pgN day x.1.1 = i := by simp [pg]
theorem pg_ins : ∀ {s : List M} (h : Srt s) (day i : Nat) (m : M), pg day i (ins s m) = if pgN day m.1.1 = i then ins (pg day i s) m else pg day i s
  | [], _, day, i, m => by
    simp only [ins, pg, List.filter_cons, List.filter_nil]
    by_cases e : pgN day m.1.1 = i <;> simp [e]
  | y :: r, h, day, i, m => by
    obtain ⟨h1, h2⟩ := srt_cons h
    have ih := pg_ins h2 day i m
    simp only [ins]
    by_cases e : klt m.1 y.1 = true
    · rw [if_pos e]
      by_cases ei : pgN day m.1.1 = i
      · rw [if_pos ei, ins_head (l := pg day i (y :: r)) (m := m) ?_]
        · simp [pg, ei]
        · intro x hx
          rcases List.mem_cons.1 (pg_mem.1 hx).1 with rfl | hx2
          · exact e
          · exact klt_trans e (h1 x hx2)
      · rw [if_neg ei]
        simp [pg, ei]
    · rw [if_neg e]
      by_cases ey : pgN day y.1.1 = i
      · rw [show pg day i (y :: ins r m) = y :: pg day i (ins r m) by simp [pg, ey], show pg day i (y :: r) = y :: pg day i r by simp [pg, ey], ih]
        by_cases ei : pgN day m.1.1 = i
        · rw [if_pos ei, if_pos ei]
          simp only [ins]
          rw [if_neg e]
        · rw [if_neg ei, if_neg ei]
      · rw [show pg day i (y :: ins r m) = pg day i (ins r m) by simp [pg, ey], show pg day i (y :: r) = pg day i r by simp [pg, ey], ih]
theorem pg_del (s : List M) (day i : Nat) (k : K) : pg day i (del s k) = del (pg day i s) k := by
  simp only [pg, del, List.filter_filter]
  congr 1
  funext x
  exact Bool.and_comm _ _
theorem pg_del_other {s : List M} {day i : Nat} {k : K} (h : pgN day k.1 ≠ i) : del (pg day i s) k = pg day i s := by
  refine List.filter_eq_self.2 ?_
  intro x hx
  have := (pg_mem.1 hx).2
  simp only [decide_eq_true_eq]
  intro c
  rw [c] at this
  exact h this
theorem hasK_pg (s : List M) (day : Nat) (k : K) : hasK (pg day (pgN day k.1) s) k = hasK s k := by
  rw [Bool.eq_iff_iff]
  simp only [hasK, List.any_eq_true, decide_eq_true_eq, pg_mem]
  constructor
  · rintro ⟨x, ⟨h1, _⟩, h2⟩
    exact ⟨x, h1, h2⟩
  · rintro ⟨x, h1, h2⟩
    exact ⟨x, ⟨h1, by rw [h2]⟩, h2⟩
theorem fnd_pg (s : List M) (day : Nat) (k : K) : fnd (pg day (pgN day k.1) s) k = fnd s k := by
  unfold fnd
  congr 1
  induction s with
  | nil => rfl
  | cons y r ih =>
    by_cases e : y.1 = k
    · have : pgN day y.1.1 = pgN day k.1 := by rw [e]
      simp [pg, e]
    · by_cases ey : pgN day y.1.1 = pgN day k.1
      · rw [show pg day (pgN day k.1) (y :: r) = y :: pg day (pgN day k.1) r by simp [pg, ey]]
        simp [e, ih]
      · rw [show pg day (pgN day k.1) (y :: r) = pg day (pgN day k.1) r by simp [pg, ey]]
        simp [e, ih]
/-- How many the first n pages have. -/
def upto (day : Nat) (s : List M) : Nat → Nat
  | 0 => 0
  | n + 1 => upto day s n + (pg day n s).length
theorem upto_cons (day : Nat) (y : M) (r : List M) (n : Nat) : upto day (y :: r) n = upto day r n + if pgN day y.1.1 < n then 1 else 0 := by
  induction n with
  | zero => simp [upto]
  | succ n ih =>
    simp only [upto, ih]
    by_cases e : pgN day y.1.1 = n
    · rw [show pg day n (y :: r) = y :: pg day n r by simp [pg, e]]
      rw [if_neg (by omega), if_pos (by omega)]
      simp; omega
    · rw [show pg day n (y :: r) = pg day n r by simp [pg, e]]
      by_cases e2 : pgN day y.1.1 < n
      · rw [if_pos e2, if_pos (by omega)]; omega
      · rw [if_neg e2, if_neg (by omega)]; omega
theorem upto_all (day : Nat) (s : List M) : upto day s 8 = s.length := by
  induction s with
  | nil => rfl
  | cons y r ih => rw [upto_cons, ih, if_pos (pgN_lt _ _)]; simp
theorem upto_le (day : Nat) (s : List M) (n : Nat) (h : n ≤ 8) : upto day s n ≤ s.length := by
  rw [← upto_all day s]
  induction n with
  | zero => simp [upto]
  | succ n ih =>
    clear ih
    have : ∀ a b, a ≤ b → upto day s a ≤ upto day s b := by
      intro a b hab
      induction b with
      | zero => obtain rfl : a = 0 := by omega
                exact Nat.le_refl _
      | succ b ihb =>
        rcases Nat.lt_or_eq_of_le hab with h1 | rfl
        · have := ihb (by omega)
          simp only [upto]; omega
        · exact Nat.le_refl _
    exact this _ _ h
theorem pg_len_le (day i : Nat) (s : List M) : (pg day i s).length ≤ s.length := List.length_filter_le _ _
/-- The first n pages, one behind the other. -/
def cat (day : Nat) (s : List M) : Nat → List M
  | 0 => []
  | n + 1 => cat day s n ++ pg day n s
theorem cat_len (day : Nat) (s : List M) (n : Nat) : (cat day s n).length = upto day s n := by
  induction n with
  | zero => rfl
  | succ n ih => simp [cat, upto, ih]
theorem cat_cons (day : Nat) (y : M) (r : List M) (n : Nat) (h : pgN day y.1.1 < n) : (cat day (y :: r) n).Perm (y :: cat day r n) := by
  have other : ∀ n, ¬ pgN day y.1.1 < n → cat day (y :: r) n = cat day r n := by
    intro n hn
    induction n with
    | zero => rfl
    | succ n ih =>
      have e : pgN day y.1.1 ≠ n := by omega
      simp only [cat]
      rw [ih (by omega), show pg day n (y :: r) = pg day n r by simp [pg, e]]
  induction n with
  | zero => omega
  | succ n ih =>
    simp only [cat]
    by_cases e : pgN day y.1.1 = n
    · rw [other n (by omega), show pg day n (y :: r) = y :: pg day n r by simp [pg, e]]
      exact List.perm_middle
    · rw [show pg day n (y :: r) = pg day n r by simp [pg, e]]
      exact (ih (by omega)).append_right _
theorem cat_perm (day : Nat) (s : List M) : (cat day s 8).Perm s := by
  induction s with
  | nil => exact List.Perm.refl _
  | cons y r ih => exact (cat_cons day y r 8 (pgN_lt _ _)).trans (ih.cons y)
/-- The page of the first of all. -/
theorem pg_first {day : Nat} {x : M} {r : List M} : pg day (pgN day x.1.1) (x :: r) = x :: pg day (pgN day x.1.1) r := by simp [pg]
theorem pg_tail {day i : Nat} {x : M} {r : List M} (h : pgN day x.1.1 ≠ i) : pg day i (x :: r) = pg day i r := by simp [pg, h]
/-- first: what the loop over the pages has found, n pages on. -/
def Best (day : Nat) (s : List M) (n : Nat) (f : Int) : Prop :=
  (f = -1 ∧ ∀ i, i < n → pg day i s = []) ∨ ∃ j : Nat, f = j ∧ j < n ∧ pg day j s ≠ [] ∧ ∀ i, i < n → i ≠ j → pg day i s ≠ [] → klt (nth (pg day j s) 0).1 (nth (pg day i s) 0).1 = true
theorem best_start (day : Nat) (s : List M) : Best day s 0 (-1) := .inl ⟨rfl, fun i h => by omega⟩
theorem best_skip {day : Nat} {s : List M} {n : Nat} {f : Int} (h : Best day s n f) (he : pg day n s = []) : Best day s (n + 1) f := by
  rcases h with ⟨h1, h2⟩ | ⟨j, h1, h2, h3, h4⟩
  · exact .inl ⟨h1, fun i hi => by
      by_cases e : i = n
      · rw [e]; exact he
      · exact h2 i (by omega)⟩
  · exact .inr ⟨j, h1, by omega, h3, fun i hi hij hne => by
      by_cases e : i = n
      · rw [e] at hne; exact absurd he hne
      · exact h4 i (by omega) hij hne⟩
theorem best_new {day : Nat} {s : List M} {n : Nat} (h : Best day s n (-1)) (he : pg day n s ≠ []) : Best day s (n + 1) n := by
  rcases h with ⟨h1, h2⟩ | ⟨j, h1, h2, h3, h4⟩
  · exact .inr ⟨n, rfl, by omega, he, fun i hi hij hne => absurd (h2 i (by omega)) hne⟩
  · omega
theorem best_better {day : Nat} {s : List M} {n j : Nat} (h : Best day s n j) (he : pg day n s ≠ []) (hk : klt (nth (pg day n s) 0).1 (nth (pg day j s) 0).1 = true) : Best day s (n + 1) n := by
  rcases h with ⟨h1, h2⟩ | ⟨j', h1, h2, h3, h4⟩
  · omega
  · obtain rfl : j = j' := by omega
    refine .inr ⟨n, rfl, by omega, he, fun i hi hij hne => ?_⟩
    by_cases e : i = j
    · rw [e]; exact hk
    · exact klt_trans hk (h4 i (by omega) e hne)
theorem head_ne {day : Nat} {s : List M} (hs : (s.map Prod.fst).Nodup) {i j : Nat} (hij : i ≠ j) (hi : pg day i s ≠ []) (hj : pg day j s ≠ []) : (nth (pg day i s) 0).1 ≠ (nth (pg day j s) 0).1 := by
  have m1 := pg_mem.1 (nth_mem (List.length_pos_iff.2 hi))
  have m2 := pg_mem.1 (nth_mem (List.length_pos_iff.2 hj))
  intro e
  apply hij
  rw [← m1.2, ← m2.2, e]
theorem best_worse {day : Nat} {s : List M} (hs : (s.map Prod.fst).Nodup) {n j : Nat} (h : Best day s n j) (he : pg day n s ≠ []) (hk : klt (nth (pg day n s) 0).1 (nth (pg day j s) 0).1 = false) : Best day s (n + 1) j := by
  rcases h with ⟨h1, h2⟩ | ⟨j', h1, h2, h3, h4⟩
  · omega
  · obtain rfl : j = j' := by omega
    refine .inr ⟨j, rfl, by omega, h3, fun i hi hij hne => ?_⟩
    by_cases e : i = n
    · subst e
      refine (klt_or (head_ne hs (Ne.symm hij) h3 hne)).resolve_right ?_
      rw [hk]; simp
    · exact h4 i (by omega) hij hne
theorem best_end {day : Nat} {s : List M} (hs : Srt s) {f : Int} (h : Best day s 8 f) : (s = [] ∧ f = -1) ∨ ∃ x r, s = x :: r ∧ f = (pgN day x.1.1 : Nat) := by
  cases s with
  | nil =>
    rcases h with ⟨h1, h2⟩ | ⟨j, h1, h2, h3, h4⟩
    · exact .inl ⟨rfl, h1⟩
    · exact absurd rfl h3
  | cons x r =>
    refine .inr ⟨x, r, rfl, ?_⟩
    rcases h with ⟨h1, h2⟩ | ⟨j, h1, h2, h3, h4⟩
    · have := h2 _ (pgN_lt day x.1.1)
      rw [pg_first] at this
      cases this
    · by_cases e : pgN day x.1.1 = j
      · rw [h1, e]
      · have hne : pg day (pgN day x.1.1) (x :: r) ≠ [] := by rw [pg_first]; simp
        have h5 := h4 _ (pgN_lt day x.1.1) e hne
        have e2 : nth (pg day (pgN day x.1.1) (x :: r)) 0 = x := by rw [pg_first]; rfl
        rw [e2] at h5
        have m := (pg_mem.1 (nth_mem (List.length_pos_iff.2 h3))).1
        rcases List.mem_cons.1 m with e3 | m
        · rw [e3, klt_irrefl] at h5; cases h5
        · have := klt_trans ((srt_cons hs).1 _ m) h5
          rw [klt_irrefl] at this; cases this
theorem low_take : ∀ {s : List M} (hs : Srt s) (t : Int) (i : Nat), i ≤ s.length → (∀ j, j < i → (nth s j).1.1 < t) → (∀ j, i ≤ j → j < s.length → t ≤ (nth s j).1.1) → low s t = s.take i
  | [], _, t, i, _, _, _ => by simp [low]
  | y :: r, hs, t, 0, _, _, h2 => by
    simp only [List.take_zero]
    refine List.filter_eq_nil_iff.2 ?_
    intro x hx
    obtain ⟨j, hj, rfl⟩ := List.getElem_of_mem hx
    have := h2 j (Nat.zero_le _) hj
    rw [nth_get _ j hj] at this
    simp; omega
  | y :: r, hs, t, i + 1, h, h1, h2 => by
    have h0 := h1 0 (by omega)
    simp [nth] at h0
    have := low_take (srt_cons hs).2 t i (by simpa using h) (fun j hj => by simpa [nth] using h1 (j + 1) (by omega)) (fun j hj hl => by simpa [nth] using h2 (j + 1) (by omega) (by simpa using hl))
    rw [List.take_succ_cons, ← this]
    simp [low, h0]
theorem srt_time {s : List M} (hs : Srt s) {a b : Nat} (hab : a ≤ b) (hb : b < s.length) : (nth s a).1.1 ≤ (nth s b).1.1 := by
  rcases Nat.lt_or_eq_of_le hab with hlt | rfl
  · have := List.pairwise_iff_getElem.1 hs a b (by omega) hb hlt
    rw [nth_get s a (by omega), nth_get s b hb]
    rw [klt_iff] at this
    omega
  · exact Int.le_refl _
end Go.Proofs.Ytjkcdkoomipfkaa
