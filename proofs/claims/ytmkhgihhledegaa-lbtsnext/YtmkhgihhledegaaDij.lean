/- Proved: outputs found by making the least one final, again and again, are the greatest that fit. -/
import Derived.Test.YtmkhgihhledegaaLbp
namespace Go.Proofs.Ytmkhgihhledegaa.L
set_option linter.unusedVariables false

/-- The least of the outputs that are final, of the first k, but of i's. -/
def fth (f : Nat → Bool) (o : Nat → Int) (i : Nat) : Nat → Int
  | 0 => inf
  | k + 1 => if k ≠ i ∧ f k = true then min (fth f o i k) (o k) else fth f o i k
theorem fth_hi (f : Nat → Bool) (o : Nat → Int) (i : Nat) : ∀ k, fth f o i k ≤ inf
  | 0 => Int.le_refl _
  | k + 1 => by
    have := fth_hi f o i k
    unfold fth
    split <;> omega
theorem fth_same {f f' : Nat → Bool} {o o' : Nat → Int} {i : Nat} : ∀ {k : Nat}, (∀ j, j < k → j ≠ i → f j = f' j ∧ (f j = true → o j = o' j)) → fth f o i k = fth f' o' i k
  | 0, _ => rfl
  | k + 1, h => by
    have ih := fth_same (i := i) (k := k) (f := f) (f' := f') (o := o) (o' := o') (fun j hj => h j (by omega))
    unfold fth
    by_cases e : k = i
    · rw [if_neg (fun g => g.1 e), if_neg (fun g => g.1 e), ih]
    · obtain ⟨h1, h2⟩ := h k (by omega) e
      cases hf : f k
      · rw [if_neg (fun g => by cases g.2), if_neg (fun g => by rw [← h1, hf] at g; cases g.2), ih]
      · rw [if_pos ⟨e, rfl⟩, if_pos ⟨e, by rw [← h1, hf]⟩, ih, h2 hf]
/-- One more is final. -/
theorem fth_more {f f' : Nat → Bool} {o o' : Nat → Int} {i a : Nat} (hne : a ≠ i) (hfa : f a = false) (hfa' : f' a = true) : ∀ {k : Nat}, a < k → (∀ j, j < k → j ≠ a → f j = f' j ∧ (f j = true → o j = o' j)) → o' a = o a → fth f' o' i k = min (fth f o i k) (o a)
  | k + 1, ha, h, hoa => by
    unfold fth
    by_cases e : k = a
    · subst e
      have e1 := fth_same (i := i) (k := k) (f := f) (f' := f') (o := o) (o' := o') (fun j hj _ => h j (by omega) (by omega))
      rw [if_pos ⟨hne, hfa'⟩, if_neg (fun g => by rw [hfa] at g; cases g.2), ← e1, hoa]
    · have ih := fth_more (i := i) (k := k) hne hfa hfa' (by omega) (fun j hj => h j (by omega)) hoa
      obtain ⟨h1, h2⟩ := h k (by omega) e
      by_cases g : k ≠ i ∧ f k = true
      · rw [if_pos g, if_pos ⟨g.1, by rw [← h1]; exact g.2⟩, ih, h2 g.2]
        omega
      · rw [if_neg g, if_neg (fun g2 => g ⟨g2.1, by rw [h1]; exact g2.2⟩), ih]
/-- How many are final. -/
def cnF (f : Nat → Bool) : Nat → Nat
  | 0 => 0
  | k + 1 => cnF f k + (if f k = true then 1 else 0)
theorem cnF_le (f : Nat → Bool) : ∀ k, cnF f k ≤ k
  | 0 => Nat.le_refl _
  | k + 1 => by
    have := cnF_le f k
    unfold cnF
    split <;> omega
theorem cnF_ex {f : Nat → Bool} : ∀ {k : Nat}, cnF f k < k → ∃ j, j < k ∧ f j = false
  | k + 1, h => by
    cases hf : f k
    · exact ⟨k, by omega, hf⟩
    · unfold cnF at h
      rw [hf, if_pos rfl] at h
      obtain ⟨j, h1, h2⟩ := cnF_ex (f := f) (k := k) (by omega)
      exact ⟨j, by omega, h2⟩
theorem cnF_all {f : Nat → Bool} : ∀ {k : Nat}, cnF f k = k → ∀ j, j < k → f j = true
  | k + 1, h, j, hj => by
    have h1 := cnF_le f k
    unfold cnF at h
    cases hf : f k
    · rw [hf, if_neg (by decide)] at h; omega
    · rw [hf, if_pos rfl] at h
      by_cases e : j = k
      · subst e; exact hf
      · exact cnF_all (f := f) (k := k) (by omega) j (by omega)
theorem cnF_none (k : Nat) : cnF (fun _ => false) k = 0 := by
  induction k with
  | zero => rfl
  | succ k ih => simp [cnF, ih]
theorem cnF_same {f g : Nat → Bool} : ∀ {k : Nat}, (∀ j, j < k → f j = g j) → cnF f k = cnF g k
  | 0, _ => rfl
  | k + 1, h => by
    unfold cnF
    rw [cnF_same (k := k) (fun j hj => h j (by omega)), h k (by omega)]
theorem cnF_set {f : Nat → Bool} {a : Nat} (h : f a = false) : ∀ {k : Nat}, a < k → cnF (fun j => if j = a then true else f j) k = cnF f k + 1
  | k + 1, ha => by
    unfold cnF
    by_cases e : k = a
    · subst e
      rw [if_pos rfl, if_pos rfl, h, if_neg (by decide), cnF_same (k := k) (g := f) (fun j hj => by rw [if_neg (by omega)])]
    · rw [if_neg e, cnF_set h (k := k) (by omega)]
      omega
/-- What holds while outputs are made final. -/
structure Dj (l : List Mb) (f : Nat → Bool) (o : Nat → Int) : Prop where
  up : ∀ x : Nat → Int, (∀ i, i < l.length → x i ≤ outF l x i) → ∀ i, i < l.length → x i ≤ o i
  eq : ∀ i, i < l.length → o i = outM (nth l i) (fth f o i l.length)
  le : ∀ i j, i < l.length → j < l.length → f i = true → f j = false → o i ≤ o j
  fi : ∀ i, i < l.length → f i = true → o i < inf
theorem Dj.start (l : List Mb) : Dj l (fun _ => false) (fun i => outM (nth l i) inf) := by
  refine ⟨fun x hx i hi => Int.le_trans (hx i hi) (outM_mono _ (oth_hi _ _ _ _)), fun i hi => ?_, fun i j _ _ h => (by cases h), fun i _ h => (by cases h)⟩
  have e : ∀ k, fth (fun _ => false) (fun i => outM (nth l i) inf) i k = inf := fun k => by
    induction k with
    | zero => rfl
    | succ k ih => unfold fth; rw [if_neg (fun g => by cases g.2)]; exact ih
  rw [e]
theorem Dj.same {l : List Mb} {f g : Nat → Bool} {o p : Nat → Int} (h : Dj l f o) (e1 : ∀ i, i < l.length → f i = g i) (e2 : ∀ i, i < l.length → o i = p i) : Dj l g p := by
  refine ⟨fun x hx i hi => by rw [← e2 i hi]; exact h.up x hx i hi, fun i hi => ?_, fun i j hi hj h1 h2 => ?_, fun i hi h1 => ?_⟩
  · rw [← e2 i hi, ← fth_same (i := i) (k := l.length) (f := f) (o := o) (fun j hj _ => ⟨e1 j hj, fun _ => e2 j hj⟩)]
    exact h.eq i hi
  · rw [← e2 i hi, ← e2 j hj]
    exact h.le i j hi hj (by rw [e1 i hi]; exact h1) (by rw [e1 j hj]; exact h2)
  · rw [← e2 i hi]
    exact h.fi i hi (by rw [e1 i hi]; exact h1)
theorem outM_re {m : Mb} {b : Int} (h : outM m b < inf) : m.re = true := by
  unfold outM at h
  split at h
  · assumption
  · exact absurd h (Int.lt_irrefl _)
/-- The outputs behind one that is made final. -/
def low (l : List Mb) (f : Nat → Bool) (o : Nat → Int) (b : Int) (i : Nat) : Int := if f i = true then o i else min (o i) (outM (nth l i) b)
theorem Dj.next {l : List Mb} {f : Nat → Bool} {o : Nat → Int} (h : Dj l f o) {a : Nat} (ha : a < l.length) (hf : f a = false) (hlt : o a < inf) (hm : ∀ j, j < l.length → f j = false → o a ≤ o j) {f' : Nat → Bool} (hf' : ∀ j, j < l.length → f' j = if j = a then true else f j) {o' : Nat → Int} (ho' : ∀ j, j < l.length → o' j = low l f' o (o a) j) : Dj l f' o' := by
  have fa : f' a = true := by rw [hf' a ha, if_pos rfl]
  have oa : o' a = o a := by rw [ho' a ha]; unfold low; rw [if_pos fa]
  have of : ∀ j, j < l.length → f j = true → o' j = o j := fun j hj hfj => by
    rw [ho' j hj]; unfold low
    rw [if_pos]
    rw [hf' j hj]; split
    · rfl
    · exact hfj
  have fo : ∀ j, j < l.length → j ≠ a → f j = f' j := fun j hj hne => by rw [hf' j hj, if_neg hne]
  have re : (nth l a).re = true := outM_re (b := fth f o a l.length) (by rw [← h.eq a ha]; exact hlt)
  have fm : ∀ i, i ≠ a → fth f' o' i l.length = min (fth f o i l.length) (o a) := fun i hne =>
    fth_more (a := a) (fun e => hne e.symm) hf fa ha (fun j hj hja => ⟨fo j hj hja, fun g => (of j hj g).symm⟩) oa
  have key : ∀ i, i < l.length → i ≠ a → o' i = outM (nth l i) (min (fth f o i l.length) (o a)) := fun i hi hne => by
    have e := h.eq i hi
    cases hfi : f i
    · have : f' i = false := by rw [← fo i hi hne]; exact hfi
      have e2 : o' i = min (o i) (outM (nth l i) (o a)) := by
        rw [ho' i hi]; unfold low; rw [if_neg (by rw [this]; decide)]
      rw [e2, e]
      by_cases g : fth f o i l.length ≤ o a
      · have := outM_mono (nth l i) g
        rw [show min (fth f o i l.length) (o a) = fth f o i l.length by omega]
        omega
      · have := outM_mono (nth l i) (show o a ≤ fth f o i l.length by omega)
        rw [show min (fth f o i l.length) (o a) = o a by omega]
        omega
    · rw [of i hi hfi, e]
      have h1 := h.le i a hi ha hfi hf
      have h2 := outM_min (nth l i) (b := fth f o i l.length) (y := o a) (by omega)
      have h3 := outM_mono (nth l i) (show min (fth f o i l.length) (o a) ≤ fth f o i l.length by omega)
      omega
  refine ⟨fun x hx i hi => ?_, fun i hi => ?_, fun i j hi hj h1 h2 => ?_, fun i hi h1 => ?_⟩
  · have hxo := h.up x hx
    by_cases g : f' i = true
    · have e : o' i = o i := by rw [ho' i hi]; unfold low; rw [if_pos g]
      rw [e]; exact hxo i hi
    · have hia : i ≠ a := fun e => g (by rw [e]; exact fa)
      have e : o' i = min (o i) (outM (nth l i) (o a)) := by rw [ho' i hi]; unfold low; rw [if_neg g]
      have h3 : lbt l x i ≤ x a := oth_le ha (by omega) re
      have h4 := outM_mono (nth l i) (show lbt l x i ≤ o a from Int.le_trans h3 (hxo a ha))
      have h5 : x i ≤ outM (nth l i) (lbt l x i) := hx i hi
      have h6 := hxo i hi
      omega
  · by_cases e : i = a
    · subst e
      rw [oa, fth_same (i := i) (k := l.length) (f := f') (f' := f) (o := o') (o' := o) (fun j hj hji => ⟨(fo j hj hji).symm, fun g => of j hj (by rw [fo j hj hji]; exact g)⟩)]
      exact h.eq i hi
    · rw [fm i e]
      exact key i hi e
  · have hja : j ≠ a := fun e => by rw [e, fa] at h2; cases h2
    have hfj : f j = false := by rw [fo j hj hja]; exact h2
    have h3 : o a ≤ o' j := by
      rw [key j hj hja]
      have h4 := outM_min (nth l j) (b := fth f o j l.length) (y := o a) (by omega)
      rw [← h.eq j hj] at h4
      have := hm j hj hfj
      omega
    by_cases e : i = a
    · rw [e, oa]; exact h3
    · have hfi : f i = true := by rw [fo i hi e]; exact h1
      rw [of i hi hfi]
      have := h.le i a hi ha hfi hf
      omega
  · by_cases e : i = a
    · rw [e, oa]; exact hlt
    · have hfi : f i = true := by rw [fo i hi e]; exact h1
      rw [of i hi hfi]
      exact h.fi i hi hfi
/-- All that are not final are Inf: these are the greatest that fit. -/
theorem Dj.fin {l : List Mb} {f : Nat → Bool} {o : Nat → Int} (h : Dj l f o) (hi : ∀ j, j < l.length → f j = false → o j = inf) : IsG l o := by
  have e : ∀ i, ∀ k, k ≤ l.length → fth f o i k = oth l o i k := fun i k => by
    induction k with
    | zero => intro _; rfl
    | succ k ih =>
      intro hk
      have ih := ih (by omega)
      unfold fth oth
      by_cases g : k = i
      · rw [if_neg (fun q => q.1 g), if_neg (fun q => q.1 (by omega)), ih]
      · cases hf : f k
        · rw [if_neg (fun q => by cases q.2), ih]
          split
          · rw [hi k (by omega) hf]
            have := oth_hi l o i k
            omega
          · rfl
        · have hr : (nth l k).re = true := outM_re (b := fth f o k l.length) (by rw [← h.eq k (by omega)]; exact h.fi k (by omega) hf)
          rw [if_pos ⟨g, rfl⟩, if_pos ⟨by omega, hr⟩, ih]
  exact ⟨fun i hi' => by
    have := h.eq i hi'
    rw [e i l.length (Nat.le_refl _)] at this
    exact this, h.up⟩
end Go.Proofs.Ytmkhgihhledegaa.L
