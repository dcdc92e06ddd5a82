/- Proved: of what stands above a class, and below it, as plain data: what the statements ask. -/
import Derived.Test.YtkbldbbhcdiihaaTre
namespace Go.Proofs.Ytkbldbbhcdiihaa
set_option linter.unusedVariables false

theorem ups_mem {zs : List Int} (h : OKT zs) (n : Nat) : ∀ (a x : Int), a < zs.length → (a + 1).toNat ≤ n → x ∈ ups zs a → 0 ≤ x ∧ x ≤ a ∧ ∃ pre, ups zs a = pre ++ ups zs x ∧ ∀ y ∈ pre, x < y := by
  induction n with
  | zero =>
    intro a x hl hn hx
    rw [ups_neg zs a (by omega)] at hx
    simp at hx
  | succ n ih =>
    intro a x hl hn hx
    by_cases h0 : a < 0
    · rw [ups_neg zs a h0] at hx; simp at hx
    · have hp := h.2.2 a.toNat (by omega)
      have hst := ups_step h a (by omega) hl
      rw [hst] at hx
      rcases List.mem_cons.1 hx with e | e
      · subst e
        exact ⟨by omega, Int.le_refl _, [], by simp, by simp⟩
      · obtain ⟨g0, g1, pre, g2, g3⟩ := ih (nthI zs a.toNat) x (by omega) (by omega) e
        refine ⟨g0, by omega, a :: pre, by rw [hst, g2]; rfl, fun y hy => ?_⟩
        rcases List.mem_cons.1 hy with e | e
        · omega
        · exact g3 y e
/-- Who stands above whom: only among classes that there are. -/
theorem abv_valid {zs : List Int} {a x : Int} (h : x ∈ abv zs a) : OKT zs ∧ 0 ≤ a ∧ a < zs.length ∧ 0 ≤ x ∧ x ≤ a := by
  by_cases g : OKT zs ∧ 0 ≤ a ∧ a < zs.length
  · rw [abv_ok g.1 g.2.1 g.2.2] at h
    have := ups_mem g.1 _ a x g.2.2 (Nat.le_refl _) h
    exact ⟨g.1, g.2.1, g.2.2, this.1, this.2.1⟩
  · rw [abv_no g] at h; simp at h
theorem abv_step {zs : List Int} {a : Int} (h : OKT zs) (h0 : 0 ≤ a) (hl : a < zs.length) : abv zs a = a :: ups zs (nthI zs a.toNat) := by rw [abv_ok h h0 hl, ups_step h a h0 hl]
theorem abv_self {zs : List Int} {a : Int} (h : OKT zs) (h0 : 0 ≤ a) (hl : a < zs.length) : a ∈ abv zs a := by rw [abv_step h h0 hl]; simp
theorem abv_tail {zs : List Int} {a x : Int} (h : x ∈ abv zs a) : ∃ pre, abv zs a = pre ++ abv zs x ∧ ∀ y ∈ pre, x < y := by
  obtain ⟨ho, h0, hl, hx0, hx⟩ := abv_valid h
  rw [abv_ok ho h0 hl] at h ⊢
  obtain ⟨_, _, pre, e, g⟩ := ups_mem ho _ a x hl (Nat.le_refl _) h
  exact ⟨pre, by rw [e, abv_ok ho hx0 (by omega)], g⟩
theorem abv_trans {zs : List Int} {a b c : Int} (h : b ∈ abv zs a) (g : c ∈ abv zs b) : c ∈ abv zs a := by
  obtain ⟨pre, e, _⟩ := abv_tail h
  rw [e]
  exact List.mem_append.2 (.inr g)
theorem abv_anti {zs : List Int} {a b : Int} (h : b ∈ abv zs a) (g : a ∈ abv zs b) : a = b := by
  have h1 := abv_valid h
  have h2 := abv_valid g
  omega

/-! ### Where two meet -/
theorem meet_spec (zs : List Int) (u v : Int) : (meet zs u v = -1 ∧ ∀ x, x ∈ abv zs u → x ∉ abv zs v) ∨ (meet zs u v ∈ abv zs u ∧ meet zs u v ∈ abv zs v ∧ ∀ x, x ∈ abv zs u → x ∈ abv zs v → x ∈ abv zs (meet zs u v)) := by
  unfold meet
  cases e : (abv zs u).find? (fun x => decide (x ∈ abv zs v)) with
  | none =>
    refine .inl ⟨rfl, fun x hx => ?_⟩
    have := List.find?_eq_none.1 e x hx
    simpa using this
  | some m =>
    obtain ⟨hm, l1, l2, e1, e2⟩ := List.find?_eq_some_iff_append.1 e
    have hmv : m ∈ abv zs v := by simpa using hm
    have hmu : m ∈ abv zs u := by rw [e1]; simp
    refine .inr ⟨hmu, hmv, fun x hx hxv => ?_⟩
    show x ∈ abv zs m
    obtain ⟨pre, g1, g2⟩ := abv_tail hmu
    have hvm := abv_valid hmu
    rw [g1] at hx
    rcases List.mem_append.1 hx with g | g
    · have hxl : x ∈ l1 := by
        have ha := abv_self hvm.1 hvm.2.2.2.1 (by omega)
        have e3 : pre ++ abv zs m = l1 ++ m :: l2 := by rw [← g1, e1]
        rcases List.append_eq_append_iff.1 e3 with ⟨a', h1, h2⟩ | ⟨b', h1, h2⟩
        · rw [h1]
          exact List.mem_append.2 (.inl g)
        · rw [h1] at g
          rcases List.mem_append.1 g with k | k
          · exact k
          · exfalso
            cases b' with
            | nil => simp at k
            | cons y b' =>
              simp only [List.cons_append, List.cons.injEq] at h2
              have := g2 y (by rw [h1]; simp)
              omega
      have := e2 x hxl
      simp [hxv] at this
    · exact g
theorem meet_comm (zs : List Int) (u v : Int) : meet zs u v = meet zs v u := by
  rcases meet_spec zs u v with ⟨e, h⟩ | ⟨h1, h2, h3⟩
  · rcases meet_spec zs v u with ⟨e', _⟩ | ⟨g1, g2, _⟩
    · rw [e, e']
    · exact absurd g1 (h _ g2)
  · rcases meet_spec zs v u with ⟨_, h⟩ | ⟨g1, g2, g3⟩
    · exact absurd h1 (h _ h2)
    · exact abv_anti (g3 _ h2 h1) (h3 _ g2 g1) ▸ rfl
theorem meet_range {zs : List Int} (hl : OKT zs) (u v : Int) : -1 ≤ meet zs u v ∧ meet zs u v < zs.length := by
  rcases meet_spec zs u v with ⟨e, h⟩ | ⟨h1, h2, h3⟩
  · rw [e]; have := hl.1; omega
  · have := abv_valid h1; omega
theorem meet_none {zs : List Int} {u : Int} (h : abv zs u = []) (v : Int) : meet zs u v = -1 := by unfold meet; rw [h]; rfl

/-! ### What is below -/
theorem mem_belF {zs : List Int} {a x : Int} {n : Nat} : x ∈ belF zs a n ↔ 0 ≤ x ∧ x < n ∧ a ∈ abv zs x := by
  unfold belF
  rw [List.mem_map]
  constructor
  · rintro ⟨i, hi, rfl⟩
    obtain ⟨h1, h2⟩ := List.mem_filter.1 hi
    have h1' := List.mem_range.1 h1
    exact ⟨by simp, by simpa using h1', by simpa using h2⟩
  · rintro ⟨h0, h1, h2⟩
    obtain ⟨k, rfl⟩ := Int.eq_ofNat_of_zero_le h0
    exact ⟨k, List.mem_filter.2 ⟨List.mem_range.2 (by omega), by simpa using h2⟩, rfl⟩
theorem mem_bel {zs : List Int} {a x : Int} : x ∈ bel zs a ↔ a ∈ abv zs x := by
  unfold bel
  rw [mem_belF]
  constructor
  · exact fun h => h.2.2
  · intro h
    have := abv_valid h
    exact ⟨by omega, by omega, h⟩
theorem bel_none {zs : List Int} {a : Int} (h : ¬ (OKT zs ∧ 0 ≤ a ∧ a < zs.length)) : bel zs a = [] := by
  apply List.eq_nil_iff_forall_not_mem.2
  intro x hx
  have := abv_valid (mem_bel.1 hx)
  exact h ⟨this.1, by omega, by omega⟩
theorem belF_first {zs : List Int} {a : Nat} (h : OKT zs) (hl : a < zs.length) (k : Nat) : ∃ rest, belF zs (a : Int) (a + 1 + k) = (a : Int) :: rest := by
  induction k with
  | zero =>
    refine ⟨[], ?_⟩
    have e : belF zs (a : Int) a = [] := List.eq_nil_iff_forall_not_mem.2 (fun x hx => by
      have h1 := mem_belF.1 hx
      have := abv_valid h1.2.2
      omega)
    rw [show a + 1 + 0 = a + 1 by omega, belF_yes (abv_self h (by omega) (by omega)), e]
    rfl
  | succ k ih =>
    obtain ⟨rest, e⟩ := ih
    rw [show a + 1 + (k + 1) = a + 1 + k + 1 by omega, belF_succ, e]
    exact ⟨_, rfl⟩
theorem bel_first {zs : List Int} {a : Int} (h : OKT zs) (h0 : 0 ≤ a) (hl : a < zs.length) : ∃ rest, bel zs a = a :: rest := by
  obtain ⟨k, rfl⟩ := Int.eq_ofNat_of_zero_le h0
  have := belF_first (a := k) h (by omega) (zs.length - (k + 1))
  rw [show k + 1 + (zs.length - (k + 1)) = zs.length by omega] at this
  exact this
theorem belF_rises (zs : List Int) (a : Int) (n : Nat) : (belF zs a n).Pairwise (· < ·) := by
  induction n with
  | zero => simp [belF]
  | succ n ih =>
    rw [belF_succ]
    refine List.pairwise_append.2 ⟨ih, by split <;> simp, fun x hx y hy => ?_⟩
    have := mem_belF.1 hx
    split at hy
    · simp at hy; omega
    · simp at hy
theorem bel_rises (zs : List Int) (a : Int) (i j : Nat) (hij : i < j) (hj : j < (bel zs a).length) : nthI (bel zs a) i < nthI (bel zs a) j := by
  have := (List.pairwise_iff_getElem.1 (belF_rises zs a zs.length)) i j (by show i < (bel zs a).length; omega) hj hij
  have e1 : nthI (bel zs a) i = (bel zs a)[i]'(by omega) := by simp [nthI, show i < (bel zs a).length by omega]
  have e2 : nthI (bel zs a) j = (bel zs a)[j] := by simp [nthI, hj]
  rw [e1, e2]
  exact this
theorem nth_mem {xs : List Int} {i : Nat} (h : i < xs.length) : nthI xs i ∈ xs := by
  have e : nthI xs i = xs[i] := by simp [nthI, h]
  rw [e]
  exact List.getElem_mem h

/-! ### Up to the root -/
theorem ups_chain {zs : List Int} (h : OKT zs) (n : Nat) : ∀ (a : Int), 0 ≤ a → a < zs.length → (a + 1).toNat ≤ n →
    nthI (ups zs a) 0 = a ∧ (∀ i, i + 1 < (ups zs a).length → nthI (ups zs a) (i + 1) = nthI zs (nthI (ups zs a) i).toNat ∧ nthI (ups zs a) (i + 1) < nthI (ups zs a) i) ∧ nthI zs (nthI (ups zs a) ((ups zs a).length - 1)).toNat = -1 := by
  induction n with
  | zero => intro a h0 hl hn; omega
  | succ n ih =>
    intro a h0 hl hn
    have hp := h.2.2 a.toNat (by omega)
    have hst := ups_step h a h0 hl
    by_cases e : nthI zs a.toNat < 0
    · rw [ups_neg zs _ e] at hst
      rw [hst]
      refine ⟨rfl, fun i hi => by simp at hi, ?_⟩
      show nthI zs (a.toNat) = -1
      omega
    · obtain ⟨g1, g2, g3⟩ := ih (nthI zs a.toNat) (by omega) (by omega) (by omega)
      have hlen : 1 ≤ (ups zs (nthI zs a.toNat)).length := by rw [ups_step h _ (by omega) (by omega)]; simp
      rw [hst]
      obtain ⟨t, ht⟩ : ∃ t, ups zs (nthI zs a.toNat) = t := ⟨_, rfl⟩
      rw [ht] at g1 g2 g3 hlen ⊢
      refine ⟨rfl, fun i hi => ?_, ?_⟩
      · cases i with
        | zero =>
          show nthI t 0 = nthI zs a.toNat ∧ nthI t 0 < a
          rw [g1]
          exact ⟨rfl, by omega⟩
        | succ i => exact g2 i (by simp at hi; omega)
      · rw [show (a :: t).length - 1 = (t.length - 1) + 1 by simp; omega]
        exact g3
/-- What stands last above a class. -/
def root (zs : List Int) (a : Int) : Int := nthI (abv zs a) ((abv zs a).length - 1)
theorem root_mem {zs : List Int} {a : Int} (h : OKT zs) (h0 : 0 ≤ a) (hl : a < zs.length) : root zs a ∈ abv zs a := by
  have : 1 ≤ (abv zs a).length := by rw [abv_step h h0 hl]; simp
  exact nth_mem (by omega)
theorem root_same {zs : List Int} {a x : Int} (h : x ∈ abv zs a) : root zs x = root zs a := by
  obtain ⟨ho, h0, hl, hx0, hx⟩ := abv_valid h
  obtain ⟨pre, e, _⟩ := abv_tail h
  have : 1 ≤ (abv zs x).length := by rw [abv_step ho hx0 (by omega)]; simp
  unfold root
  rw [e]
  unfold nthI
  rw [List.getD_eq_getElem?_getD, List.getD_eq_getElem?_getD, List.length_append, List.getElem?_append_right (by omega)]
  rw [show pre.length + (abv zs x).length - 1 - pre.length = (abv zs x).length - 1 by omega]
theorem roots_meet {zs : List Int} {u v : Int} (h : OKT zs) (hu0 : 0 ≤ u) (hul : u < zs.length) (hv0 : 0 ≤ v) (hvl : v < zs.length) : root zs u = root zs v ↔ 0 ≤ meet zs u v := by
  constructor
  · intro e
    rcases meet_spec zs u v with ⟨_, g⟩ | ⟨g1, _, _⟩
    · exact absurd (e ▸ root_mem h hv0 hvl) (g _ (root_mem h hu0 hul))
    · have := abv_valid g1; omega
  · intro e
    rcases meet_spec zs u v with ⟨g, _⟩ | ⟨g1, g2, _⟩
    · omega
    · rw [← root_same g1, ← root_same g2]

/-! ### As many above as below -/
def one (b : Bool) : Nat := if b then 1 else 0
def sumN (f : Nat → Nat) : Nat → Nat
  | 0 => 0
  | n + 1 => sumN f n + f n
theorem sumN_congr {f g : Nat → Nat} (n : Nat) (h : ∀ i, i < n → f i = g i) : sumN f n = sumN g n := by
  induction n with
  | zero => rfl
  | succ n ih => simp only [sumN]; rw [ih (fun i hi => h i (by omega)), h n (by omega)]
theorem sumN_add (f g : Nat → Nat) (n : Nat) : sumN (fun i => f i + g i) n = sumN f n + sumN g n := by
  induction n with
  | zero => rfl
  | succ n ih => simp only [sumN]; omega
theorem sumN_zero (n : Nat) : sumN (fun _ => 0) n = 0 := by
  induction n with
  | zero => rfl
  | succ n ih => simp only [sumN]; omega
theorem sumN_swap (f : Nat → Nat → Nat) (n m : Nat) : sumN (fun i => sumN (f i) m) n = sumN (fun j => sumN (fun i => f i j) n) m := by
  induction n with
  | zero => simp only [sumN]; rw [sumN_zero]
  | succ n ih =>
    simp only [sumN]
    rw [ih, ← sumN_add]
theorem sumN_le {f : Nat → Nat} {c : Nat} (n : Nat) (h : ∀ i, i < n → f i ≤ c) : sumN f n ≤ n * c := by
  induction n with
  | zero => simp [sumN]
  | succ n ih =>
    simp only [sumN]
    have := ih (fun i hi => h i (by omega))
    have := h n (by omega)
    rw [Nat.succ_mul]; omega
theorem sumN_ge {f : Nat → Nat} (n : Nat) (h : ∀ i, i < n → 1 ≤ f i) : n ≤ sumN f n := by
  induction n with
  | zero => simp
  | succ n ih =>
    simp only [sumN]
    have := ih (fun i hi => h i (by omega))
    have := h n (by omega)
    omega
theorem belF_count (zs : List Int) (a : Int) (n : Nat) : (belF zs a n).length = sumN (fun i => one (decide (a ∈ abv zs (i : Int)))) n := by
  induction n with
  | zero => rfl
  | succ n ih =>
    rw [belF_succ]
    simp only [sumN, List.length_append, ih]
    by_cases e : a ∈ abv zs (n : Int) <;> simp [e, one]
/-- A falling list of numbers below n has as many members as there are numbers in it. -/
theorem count_list (n : Nat) : ∀ (l : List Int), l.Pairwise (· > ·) → (∀ x ∈ l, 0 ≤ x ∧ x < (n : Int)) → l.length = sumN (fun i => one (decide ((i : Int) ∈ l))) n := by
  induction n with
  | zero =>
    intro l _ h
    cases l with
    | nil => rfl
    | cons x l => have := h x (by simp); omega
  | succ n ih =>
    intro l hp h
    cases l with
    | nil => simp only [sumN]; rw [sumN_congr n (g := fun _ => 0) (fun i _ => by simp [one]), sumN_zero]; simp [one]
    | cons x l =>
      obtain ⟨h1, h2⟩ := List.pairwise_cons.1 hp
      have hx := h x (by simp)
      by_cases e : x = (n : Int)
      · have g := ih l h2 (fun y hy => ⟨(h y (by simp [hy])).1, by have := h1 y hy; omega⟩)
        simp only [sumN]
        rw [sumN_congr n (g := fun i => one (decide ((i : Int) ∈ l))) (fun i hi => by
          have : ¬ (i : Int) = x := by omega
          simp [this])]
        rw [List.length_cons, g]
        simp [one, e]
      · have g := ih (x :: l) hp (fun y hy => ⟨(h y hy).1, by
          rcases List.mem_cons.1 hy with k | k
          · omega
          · have := h1 y k; omega⟩)
        simp only [sumN]
        have : ¬ ((n : Int) ∈ x :: l) := fun k => by
          rcases List.mem_cons.1 k with k | k
          · omega
          · have := h1 _ k; omega
        rw [← g]
        simp [one, this]
theorem abv_falls {zs : List Int} (h : OKT zs) (n : Nat) : ∀ a : Int, a < zs.length → (a + 1).toNat ≤ n → (ups zs a).Pairwise (· > ·) := by
  induction n with
  | zero => intro a hl hn; rw [ups_neg zs a (by omega)]; simp
  | succ n ih =>
    intro a hl hn
    by_cases h0 : a < 0
    · rw [ups_neg zs a h0]; simp
    · have hp := h.2.2 a.toNat (by omega)
      rw [ups_step h a (by omega) hl]
      refine List.pairwise_cons.2 ⟨fun y hy => ?_, ih _ (by omega) (by omega)⟩
      have := ups_mem h _ _ y (by omega) (Nat.le_refl _) hy
      omega
def upS (zs : List Int) (n : Nat) : Nat := sumN (fun c => (abv zs (c : Int)).length) n
def dnS (zs : List Int) (n : Nat) : Nat := sumN (fun c => (bel zs (c : Int)).length) n
theorem up_down {zs : List Int} (h : OKT zs) : upS zs zs.length = dnS zs zs.length := by
  unfold upS dnS
  rw [sumN_congr zs.length (f := fun c => (abv zs (c : Int)).length) (g := fun c => sumN (fun i => one (decide ((i : Int) ∈ abv zs (c : Int)))) zs.length) (fun c hc => by
    refine count_list zs.length _ ?_ ?_
    · rw [abv_ok h (by omega) (by omega)]
      exact abv_falls h _ _ (by omega) (Nat.le_refl _)
    · intro x hx
      have := abv_valid hx
      omega)]
  rw [sumN_swap]
  exact sumN_congr _ (fun c hc => (belF_count zs (c : Int) zs.length).symm)
theorem upS_le (zs : List Int) (n : Nat) : upS zs n ≤ n * 16 := sumN_le n (fun i _ => abv_len zs _)
theorem dnS_le (zs : List Int) (n : Nat) : dnS zs n ≤ n * 16 := sumN_le n (fun i _ => belF_len zs _ _ (Nat.le_refl _))
theorem upS_ge {zs : List Int} (h : OKT zs) : zs.length ≤ upS zs zs.length := sumN_ge _ (fun i hi => by rw [abv_step h (by omega) (by omega)]; simp)
end Go.Proofs.Ytkbldbbhcdiihaa
