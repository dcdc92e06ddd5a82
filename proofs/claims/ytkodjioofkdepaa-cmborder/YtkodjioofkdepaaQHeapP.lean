/- Proved: plain facts on heaps: what an exchange on the way up, or down, keeps. -/
import Derived.Test.YtkodjioofkdepaaQSwap2
namespace Go.Proofs.Ytkodjioofkdepaa.Q
open Go.RowKit Go.Sort
set_option linter.unusedVariables false
set_option maxRecDepth 100000

def nth (d : List M) (i : Nat) : M := d.getD i default
def key (d : List M) (i : Nat) : K := (nth d i).1
theorem nth_get (d : List M) (i : Nat) (h : i < d.length) : nth d i = d[i] := by simp [nth, h]
theorem nth_swapL (d : List M) (i j t : Nat) (hi : i < d.length) (hj : j < d.length) : nth (swapL d i j) t = if t = j then nth d i else if t = i then nth d j else nth d t := by
  by_cases ht : t < d.length
  · rw [nth_get _ _ (by rw [swapL_len]; exact ht), swapL_get d i j t hi hj ht, nth_get _ _ hi, nth_get _ _ hj, nth_get _ _ ht]
  · rw [if_neg (by omega), if_neg (by omega)]
    simp [nth, List.getD, List.getElem?_eq_none (show d.length ≤ t by omega), List.getElem?_eq_none (show (swapL d i j).length ≤ t by rw [swapL_len]; omega)]
theorem key_swapL (d : List M) (i j t : Nat) (hi : i < d.length) (hj : j < d.length) : key (swapL d i j) t = if t = j then key d i else if t = i then key d j else key d t := by
  unfold key
  rw [nth_swapL d i j t hi hj]
  split
  · rfl
  · split <;> rfl

/-- The first n are a heap. -/
def OK (d : List M) (n : Nat) : Prop := ∀ c, 0 < c → c < n → klt (key d c) (key d ((c - 1) / 2)) = false
/-- The first n are a heap but for what stands at i. -/
def Exc (d : List M) (n i : Nat) : Prop :=
  (∀ c, 0 < c → c < n → c ≠ i → (c - 1) / 2 ≠ i → klt (key d c) (key d ((c - 1) / 2)) = false) ∧ (0 < i → ∀ c, 0 < c → c < n → (c - 1) / 2 = i → klt (key d c) (key d ((i - 1) / 2)) = false)
/-- And what stands below i is behind it. -/
def UpOk (d : List M) (n i : Nat) : Prop := Exc d n i ∧ ∀ c, 0 < c → c < n → (c - 1) / 2 = i → klt (key d c) (key d i) = false
def Upper (d : List M) (i : Nat) : Prop := 0 < i → klt (key d i) (key d ((i - 1) / 2)) = false

theorem UpOk.ok {d : List M} {n i : Nat} (h : UpOk d n i) (hu : Upper d i) : OK d n := by
  intro c h0 hn
  by_cases e : c = i
  · subst e; exact hu h0
  · by_cases e2 : (c - 1) / 2 = i
    · rw [e2]; exact h.2 c h0 hn e2
    · exact h.1.1 c h0 hn e e2

theorem up_step {d : List M} {n j : Nat} (hn : n ≤ d.length) (hj : j < n) (h0 : 0 < j) (h : UpOk d n j) (hl : klt (key d j) (key d ((j - 1) / 2)) = true) : UpOk (swapL d ((j - 1) / 2) j) n ((j - 1) / 2) := by
  obtain ⟨i, hi⟩ : ∃ i, i = (j - 1) / 2 := ⟨_, rfl⟩
  rw [← hi] at hl ⊢
  have hij : i < j := by omega
  have hid : i < d.length := by omega
  have hjd : j < d.length := by omega
  have ks := fun t => key_swapL d i j t hid hjd
  have ki : key (swapL d i j) i = key d j := by rw [ks, if_neg (by omega), if_pos rfl]
  have kj : key (swapL d i j) j = key d i := by rw [ks, if_pos rfl]
  have ko : ∀ t, t ≠ i → t ≠ j → key (swapL d i j) t = key d t := fun t a b => by rw [ks, if_neg b, if_neg a]
  obtain ⟨⟨h1, h2⟩, h3⟩ := h
  refine ⟨⟨?_, ?_⟩, ?_⟩
  · intro c c0 cn ci cp
    have cj : c ≠ j := fun e => cp (by rw [e]; exact hi.symm)
    rw [ko c ci cj]
    by_cases e : (c - 1) / 2 = j
    · rw [e, kj]
      have := h2 h0 c c0 cn e
      rwa [← hi] at this
    · rw [ko _ cp e]
      exact h1 c c0 cn cj e
  · intro i0 c c0 cn cp
    rw [ko ((i - 1) / 2) (by omega) (by omega)]
    have hg : klt (key d i) (key d ((i - 1) / 2)) = false := h1 i i0 (by omega) (by omega) (by omega)
    by_cases e : c = j
    · rw [e, kj]; exact hg
    · rw [ko c (by omega) e]
      have := h1 c c0 cn e (by omega)
      rw [cp] at this
      exact kle_trans hg this
  · intro c c0 cn cp
    rw [ki]
    by_cases e : c = j
    · rw [e, kj]; exact klt_asymm hl
    · rw [ko c (by omega) e]
      have := h1 c c0 cn e (by omega)
      rw [cp] at this
      cases e2 : klt (key d c) (key d j)
      · rfl
      · rw [klt_trans e2 hl] at this; cases this

theorem down_step {d : List M} {n i j : Nat} (hn : n ≤ d.length) (hj : j < n) (hp : (j - 1) / 2 = i) (h0 : 0 < j) (h : Exc d n i) (hs : ∀ c, 0 < c → c < n → (c - 1) / 2 = i → klt (key d c) (key d j) = false)
    (hl : klt (key d j) (key d i) = true) : Exc (swapL d i j) n j ∧ Upper (swapL d i j) j := by
  have hij : i < j := by omega
  have hid : i < d.length := by omega
  have hjd : j < d.length := by omega
  have ks := fun t => key_swapL d i j t hid hjd
  have ki : key (swapL d i j) i = key d j := by rw [ks, if_neg (by omega), if_pos rfl]
  have kj : key (swapL d i j) j = key d i := by rw [ks, if_pos rfl]
  have ko : ∀ t, t ≠ i → t ≠ j → key (swapL d i j) t = key d t := fun t a b => by rw [ks, if_neg b, if_neg a]
  obtain ⟨h1, h2⟩ := h
  refine ⟨⟨?_, ?_⟩, ?_⟩
  · intro c c0 cn cj cp
    by_cases e : c = i
    · rw [e, ki, ko ((i - 1) / 2) (by omega) (by omega)]
      exact h2 (by omega) j h0 hj hp
    · rw [ko c e cj]
      by_cases e2 : (c - 1) / 2 = i
      · rw [e2, ki]; exact hs c c0 cn e2
      · rw [ko _ e2 cp]; exact h1 c c0 cn e e2
  · intro _ c c0 cn cp
    rw [hp, ki, ko c (by omega) (by omega)]
    have := h1 c c0 cn (by omega) (by omega)
    rwa [cp] at this
  · intro _
    rw [hp, ki, kj]
    exact klt_asymm hl

/-- d2 is d1 in another order among the first n. -/
def Same (n : Nat) (d d' : List M) : Prop := d'.Perm d ∧ ∀ t, n ≤ t → nth d' t = nth d t
theorem Same.refl (n : Nat) (d : List M) : Same n d d := ⟨List.Perm.refl _, fun _ _ => rfl⟩
theorem Same.trans {n : Nat} {a b c : List M} (h : Same n a b) (g : Same n b c) : Same n a c := ⟨g.1.trans h.1, fun t ht => (g.2 t ht).trans (h.2 t ht)⟩
theorem Same.len {n : Nat} {d d' : List M} (h : Same n d d') : d'.length = d.length := h.1.length_eq
theorem same_swap {n : Nat} {d : List M} {i j : Nat} (hi : i < n) (hj : j < n) (hn : n ≤ d.length) : Same n d (swapL d i j) :=
  ⟨swapL_perm d i j (by omega) (by omega), fun t ht => by rw [nth_swapL d i j t (by omega) (by omega), if_neg (by omega), if_neg (by omega)]⟩
theorem ok_mono {d : List M} {n m : Nat} (h : OK d n) (hm : m ≤ n) : OK d m := fun c h0 hc => h c h0 (by omega)
/-- In a heap the first is never behind another. -/
theorem ok_first {d : List M} {n : Nat} (h : OK d n) : ∀ c, c < n → klt (key d c) (key d 0) = false := by
  intro c
  induction c using Nat.strongRecOn with
  | _ c ih =>
    intro hc
    by_cases e : c = 0
    · subst e; exact klt_irrefl _
    · exact kle_trans (ih ((c - 1) / 2) (by omega) (by omega)) (h c (by omega) hc)
/-- The last one put into the place i, ahead of the others: a heap but for that place. -/
theorem exc_swap {d : List M} {n i : Nat} (hn : n < d.length) (hi : i < n) (h : OK d (n + 1)) : Exc (swapL d i n) n i := by
  have ks := fun t => key_swapL d i n t (by omega) hn
  have ko : ∀ t, t ≠ i → t < n → key (swapL d i n) t = key d t := fun t a b => by rw [ks, if_neg (by omega), if_neg a]
  refine ⟨?_, ?_⟩
  · intro c c0 cn ci cp
    rw [ko c ci cn, ko _ cp (by omega)]
    exact h c c0 (by omega)
  · intro i0 c c0 cn cp
    rw [ko c (by omega) cn, ko ((i - 1) / 2) (by omega) (by omega)]
    have h1 := h c c0 (by omega)
    rw [cp] at h1
    exact kle_trans (h i i0 (by omega)) h1
theorem upok_append {d : List M} {m : M} (h : OK d d.length) : UpOk (d ++ [m]) (d ++ [m]).length d.length := by
  have ko : ∀ t, t < d.length → key (d ++ [m]) t = key d t := fun t ht => by
    unfold key
    rw [nth_get _ _ (by simp; omega), nth_get _ _ ht, List.getElem_append_left ht]
  refine ⟨⟨?_, ?_⟩, ?_⟩
  · intro c c0 cn ci cp
    simp at cn
    rw [ko c (by omega), ko _ (by omega)]
    exact h c c0 (by omega)
  · intro i0 c c0 cn cp
    simp at cn
    omega
  · intro c c0 cn cp
    simp at cn
    omega
end Go.Proofs.Ytkodjioofkdepaa.Q
