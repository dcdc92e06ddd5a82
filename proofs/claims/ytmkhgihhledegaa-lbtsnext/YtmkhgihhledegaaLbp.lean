/- Proved: members' outputs as plain data: the greatest that fit to one another; they are found by going on from the end of times; what follows of later members, of fewer, of another order. -/
import Derived.Test.YtmkhgihhledegaaProg
namespace Go.Proofs.Ytmkhgihhledegaa.L
set_option linter.unusedVariables false

abbrev inf : Int := 1125899906842624
def cnt (t : Int) : Int := if t > 1099511627776 then inf else if t < 0 then 0 else t
theorem cnt_lo (t : Int) : 0 ≤ cnt t := by unfold cnt inf; split <;> (try split) <;> omega
theorem cnt_hi (t : Int) : cnt t ≤ inf := by unfold cnt inf; split <;> (try split) <;> omega
theorem cnt_mono {a b : Int} (h : a ≤ b) : cnt a ≤ cnt b := by unfold cnt inf; split <;> split <;> (try split) <;> (try split) <;> omega
theorem cnt_cnt (a : Int) : cnt (cnt a) = cnt a := by
  unfold cnt inf
  split
  · simp
  · split
    · simp
    · rfl
theorem cnt_mid {t : Int} (h0 : 0 ≤ t) (h : t ≤ 1099511627776) : cnt t = t := by unfold cnt; rw [if_neg (by omega), if_neg (by omega)]
theorem cnt_inf : cnt inf = inf := by decide
def vadd (t d : Int) : Int := cnt (cnt t + cnt d)
theorem vadd_mono {a b c d : Int} (h1 : a ≤ b) (h2 : c ≤ d) : vadd a c ≤ vadd b d := by
  have := cnt_mono h1
  have := cnt_mono h2
  exact cnt_mono (by omega)
/-- A member. -/
structure Mb where
  re : Bool
  co : Bool
  ti : Int
  lo : Int
  ki : Int
  ak : Int
  fi : Int
def mb0 : Mb := ⟨false, false, 0, 0, 0, 0, 0⟩
def nth (l : List Mb) (i : Nat) : Mb := l.getD i mb0
def look (m : Mb) : Int := max 1 (min m.lo 1048576)
/-- The least of the outputs of the first k members, but of i's. -/
def oth (l : List Mb) (o : Nat → Int) (i : Int) : Nat → Int
  | 0 => inf
  | k + 1 => if (k : Int) ≠ i ∧ (nth l k).re = true then min (oth l o i k) (o k) else oth l o i k
def lbt (l : List Mb) (o : Nat → Int) (i : Int) : Int := oth l o i l.length
def base (m : Mb) (b : Int) : Int := if m.ki = 1 ∨ (m.ki = 2 ∨ m.ki = 3) ∧ m.co = false then cnt m.ak else if m.ki = 2 ∨ m.ki = 3 then max (cnt m.ti) (min (min (cnt m.ak) (cnt m.fi)) b) else cnt m.ti
def outM (m : Mb) (b : Int) : Int := if m.re = true then vadd (look m) (base m b) else inf
def outF (l : List Mb) (o : Nat → Int) (i : Nat) : Int := outM (nth l i) (lbt l o i)
theorem oth_hi (l : List Mb) (o : Nat → Int) (i : Int) : ∀ k, oth l o i k ≤ inf
  | 0 => Int.le_refl _
  | k + 1 => by
    have := oth_hi l o i k
    unfold oth
    split <;> omega
theorem oth_lo {l : List Mb} {o : Nat → Int} {i : Int} : ∀ {k : Nat}, (∀ j, j < k → 0 ≤ o j) → 0 ≤ oth l o i k
  | 0, _ => by simp [oth]
  | k + 1, h => by
    have h1 := oth_lo (l := l) (o := o) (i := i) (k := k) (fun j hj => h j (by omega))
    have h2 := h k (by omega)
    unfold oth
    split <;> omega
theorem oth_mono {l : List Mb} {o o' : Nat → Int} {i : Int} : ∀ {k : Nat}, (∀ j, j < k → o j ≤ o' j) → oth l o i k ≤ oth l o' i k
  | 0, _ => Int.le_refl _
  | k + 1, h => by
    have h1 := oth_mono (l := l) (i := i) (k := k) (fun j hj => h j (by omega))
    have h2 := h k (by omega)
    unfold oth
    split <;> omega
theorem oth_le {l : List Mb} {o : Nat → Int} {i : Int} : ∀ {k j : Nat}, j < k → (j : Int) ≠ i → (nth l j).re = true → oth l o i k ≤ o j
  | k + 1, j, hj, h1, h2 => by
    unfold oth
    by_cases e : j = k
    · subst e
      rw [if_pos ⟨h1, h2⟩]
      omega
    · have := oth_le (l := l) (o := o) (i := i) (k := k) (j := j) (by omega) h1 h2
      split <;> omega
theorem oth_is (l : List Mb) (o : Nat → Int) (i : Int) : ∀ k, oth l o i k = inf ∨ ∃ j, j < k ∧ (j : Int) ≠ i ∧ (nth l j).re = true ∧ oth l o i k = o j
  | 0 => .inl rfl
  | k + 1 => by
    have ih := oth_is l o i k
    unfold oth
    split
    · rename_i g
      by_cases e : oth l o i k ≤ o k
      · rw [show min (oth l o i k) (o k) = oth l o i k by omega]
        rcases ih with h | ⟨j, h1, h2, h3, h4⟩
        · exact .inl h
        · exact .inr ⟨j, by omega, h2, h3, h4⟩
      · exact .inr ⟨k, by omega, g.1, g.2, by omega⟩
    · rcases ih with h | ⟨j, h1, h2, h3, h4⟩
      · exact .inl h
      · exact .inr ⟨j, by omega, h2, h3, h4⟩
/-- What bounds it from below is below it. -/
theorem le_oth {l : List Mb} {o : Nat → Int} {i : Int} {k : Nat} {x : Int} (hi : x ≤ inf) (h : ∀ j, j < k → (j : Int) ≠ i → (nth l j).re = true → x ≤ o j) : x ≤ oth l o i k := by
  rcases oth_is l o i k with e | ⟨j, h1, h2, h3, e⟩
  · omega
  · have := h j h1 h2 h3; omega
theorem base_mono (m : Mb) {a b : Int} (h : a ≤ b) : base m a ≤ base m b := by
  unfold base
  split
  · omega
  · split <;> omega
theorem outM_mono (m : Mb) {a b : Int} (h : a ≤ b) : outM m a ≤ outM m b := by
  unfold outM
  split
  · exact vadd_mono (Int.le_refl _) (base_mono m h)
  · omega
theorem outM_lo (m : Mb) (b : Int) : 0 ≤ outM m b := by
  unfold outM
  split
  · exact cnt_lo _
  · simp [inf]
theorem outM_hi (m : Mb) (b : Int) : outM m b ≤ inf := by
  unfold outM
  split
  · exact cnt_hi _
  · omega
theorem outF_mono {l : List Mb} {o o' : Nat → Int} (h : ∀ j, j < l.length → o j ≤ o' j) (i : Nat) : outF l o i ≤ outF l o' i := outM_mono _ (oth_mono h)
/-- The greatest outputs that fit to one another. -/
structure IsG (l : List Mb) (o : Nat → Int) : Prop where
  fx : ∀ i, i < l.length → o i = outF l o i
  gr : ∀ x : Nat → Int, (∀ i, i < l.length → x i ≤ outF l x i) → ∀ i, i < l.length → x i ≤ o i
theorem outF_same {l : List Mb} {o o' : Nat → Int} (h : ∀ j, j < l.length → o j = o' j) (i : Nat) : outF l o i = outF l o' i :=
  Int.le_antisymm (outF_mono (fun j hj => by rw [h j hj]; exact Int.le_refl _) i) (outF_mono (fun j hj => by rw [h j hj]; exact Int.le_refl _) i)
theorem lbt_same {l : List Mb} {o o' : Nat → Int} (h : ∀ j, j < l.length → o j = o' j) (i : Int) : lbt l o i = lbt l o' i :=
  Int.le_antisymm (oth_mono (fun j hj => by rw [h j hj]; exact Int.le_refl _)) (oth_mono (fun j hj => by rw [h j hj]; exact Int.le_refl _))
theorem IsG.one {l : List Mb} {o o' : Nat → Int} (h : IsG l o) (h' : IsG l o') {i : Nat} (hi : i < l.length) : o i = o' i :=
  Int.le_antisymm (h'.gr o (fun j hj => by rw [← h.fx j hj]; exact Int.le_refl _) i hi) (h.gr o' (fun j hj => by rw [← h'.fx j hj]; exact Int.le_refl _) i hi)
theorem IsG.hi {l : List Mb} {o : Nat → Int} (h : IsG l o) {i : Nat} (hi : i < l.length) : 0 ≤ o i ∧ o i ≤ inf := by
  rw [h.fx i hi]
  exact ⟨outM_lo _ _, outM_hi _ _⟩
/-- Any that fit and are not below them are they. -/
theorem IsG.no {l : List Mb} {o u : Nat → Int} (h : IsG l o) (hu : ∀ i, i < l.length → u i = outF l u i) (hle : ∀ i, i < l.length → o i ≤ u i) {i : Nat} (hi : i < l.length) : u i = o i :=
  Int.le_antisymm (h.gr u (fun j hj => by rw [← hu j hj]; exact Int.le_refl _) i hi) (hle i hi)
/-! ### They are found by going on from the end of times -/
structure Dn (l : List Mb) (o : Nat → Int) : Prop where
  dn : ∀ i, i < l.length → outF l o i ≤ o i
  up : ∀ x : Nat → Int, (∀ i, i < l.length → x i ≤ outF l x i) → ∀ i, i < l.length → x i ≤ o i
  lo : ∀ i, i < l.length → 0 ≤ o i ∧ o i ≤ inf
theorem Dn.start (l : List Mb) : Dn l (fun _ => inf) := ⟨fun i hi => outM_hi _ _, fun x hx i hi => Int.le_trans (hx i hi) (outM_hi _ _), fun i hi => ⟨by simp [inf], Int.le_refl _⟩⟩
theorem Dn.next {l : List Mb} {o : Nat → Int} (h : Dn l o) : Dn l (outF l o) :=
  ⟨fun i hi => outF_mono h.dn i, fun x hx i hi => Int.le_trans (hx i hi) (outF_mono (h.up x hx) i), fun i hi => ⟨outM_lo _ _, outM_hi _ _⟩⟩
theorem Dn.same {l : List Mb} {o o' : Nat → Int} (h : Dn l o) (e : ∀ i, i < l.length → o i = o' i) : Dn l o' :=
  ⟨fun i hi => by rw [← outF_same e i, ← e i hi]; exact h.dn i hi, fun x hx i hi => by rw [← e i hi]; exact h.up x hx i hi, fun i hi => by rw [← e i hi]; exact h.lo i hi⟩
theorem Dn.fin {l : List Mb} {o : Nat → Int} (h : Dn l o) (e : ∀ i, i < l.length → o i = outF l o i) : IsG l o := ⟨e, h.up⟩
/-- What goes down. -/
def sum (o : Nat → Int) : Nat → Nat
  | 0 => 0
  | k + 1 => sum o k + (o k).toNat
theorem sum_le {o o' : Nat → Int} : ∀ {k : Nat}, (∀ i, i < k → o i ≤ o' i) → sum o k ≤ sum o' k
  | 0, _ => Nat.le_refl _
  | k + 1, h => by
    have h1 := sum_le (k := k) (fun i hi => h i (by omega))
    have h2 := h k (by omega)
    unfold sum
    omega
theorem sum_lt {o o' : Nat → Int} : ∀ {k : Nat}, (∀ i, i < k → 0 ≤ o i ∧ o i ≤ o' i) → ∀ {i : Nat}, i < k → o i ≠ o' i → sum o k < sum o' k
  | k + 1, h, i, hi, hne => by
    have h2 := h k (by omega)
    unfold sum
    by_cases e : i = k
    · subst e
      have h1 := sum_le (k := i) (fun j hj => (h j (by omega)).2)
      omega
    · have h1 := sum_lt (k := k) (fun j hj => h j (by omega)) (i := i) (by omega) hne
      omega
theorem Dn.less {l : List Mb} {o : Nat → Int} (h : Dn l o) {i : Nat} (hi : i < l.length) (hne : outF l o i ≠ o i) : sum (outF l o) l.length < sum o l.length :=
  sum_lt (fun j hj => ⟨outM_lo _ _, h.dn j hj⟩) hi hne
/-! ### Later members, and fewer -/
theorem IsG.later {l m : List Mb} {o o' : Nat → Int} (h : IsG l o) (h' : IsG m o') (hl : l.length = m.length) (hle : ∀ (x : Nat → Int) i, i < l.length → outF l x i ≤ outF m x i) {i : Nat} (hi : i < l.length) : o i ≤ o' i :=
  h'.gr o (fun j hj => by rw [← hl] at hj; exact Int.le_trans (Int.le_of_eq (h.fx j hj)) (hle o j hj)) i (by rw [← hl]; exact hi)
/-- A member that is later: whatever bounds it. -/
structure Lat (a b : Mb) : Prop where
  re : b.re = true → a.re = true
  ob : ∀ x y, x ≤ y → outM a x ≤ outM b y
theorem lbt_later {l m : List Mb} {o o' : Nat → Int} (hl : l.length = m.length) (hr : ∀ j, j < l.length → (nth m j).re = true → (nth l j).re = true) (ho : ∀ j, j < l.length → o j ≤ o' j) (i : Int) : lbt l o i ≤ lbt m o' i := by
  unfold lbt
  refine le_oth (oth_hi _ _ _ _) (fun j hj hji hjr => ?_)
  rw [← hl] at hj
  exact Int.le_trans (oth_le hj hji (hr j hj hjr)) (ho j hj)
theorem IsG.lats {l m : List Mb} {o o' : Nat → Int} (h : IsG l o) (h' : IsG m o') (hl : l.length = m.length) (hm : ∀ j, j < l.length → Lat (nth l j) (nth m j)) : (∀ i, i < l.length → o i ≤ o' i) ∧ ∀ i, lbt l o i ≤ lbt m o' i := by
  have hle : ∀ i, i < l.length → o i ≤ o' i := fun i hi => h.later h' hl (fun x j hj => (hm j hj).ob _ _ (lbt_later hl (fun q hq => (hm q hq).re) (fun _ _ => Int.le_refl _) j)) hi
  exact ⟨hle, fun i => lbt_later hl (fun q hq => (hm q hq).re) hle i⟩
theorem Lat.refl (a : Mb) : Lat a a := ⟨fun h => h, fun x y h => outM_mono a h⟩
theorem Lat.off (a : Mb) {b : Mb} (h : b.re = false) : Lat a b := ⟨fun g => (by rw [h] at g; cases g), fun x y _ => by
  have : outM b y = inf := by unfold outM; rw [if_neg (by rw [h]; decide)]
  rw [this]
  exact outM_hi _ _⟩
theorem Lat.of {a b : Mb} (hr : b.re = a.re) (hc : b.co = a.co) (hk : b.ki = a.ki) (ht : cnt a.ti ≤ cnt b.ti) (hq : cnt a.ak ≤ cnt b.ak) (hf : cnt a.fi ≤ cnt b.fi) (hl : look a ≤ look b) : Lat a b := by
  refine ⟨fun g => by rw [← hr]; exact g, fun x y hxy => ?_⟩
  unfold outM
  rw [hr]
  split
  · refine vadd_mono hl ?_
    unfold base
    rw [hc, hk]
    split
    · exact hq
    · split
      · omega
      · exact ht
  · exact Int.le_refl _
/-! ### Another order -/
/-- The least in another order. -/
theorem lbt_turn {l m : List Mb} {o o' : Nat → Int} (t : Nat → Nat) (u : Nat → Nat) (hl : l.length = m.length) (ht : ∀ i, i < l.length → t i < l.length ∧ u (t i) = i) (hu : ∀ i, i < l.length → u i < l.length ∧ t (u i) = i) (hm : ∀ i, i < l.length → nth m i = nth l (t i)) (ho : ∀ i, i < l.length → o' i = o (t i)) {i : Nat} (hi : i < l.length) : lbt m o' i = lbt l o (t i) := by
  unfold lbt
  refine Int.le_antisymm ?_ ?_
  · refine le_oth (oth_hi _ _ _ _) (fun j hj hji hjr => ?_)
    have h1 := hu j hj
    have hne : u j ≠ i := fun e => hji (by rw [← e, h1.2])
    have := oth_le (l := m) (o := o') (i := (i : Int)) (k := m.length) (j := u j) (by rw [← hl]; exact h1.1) (by omega) (by rw [hm _ h1.1, h1.2]; exact hjr)
    rw [ho _ h1.1, h1.2] at this
    exact this
  · refine le_oth (oth_hi _ _ _ _) (fun j hj hji hjr => ?_)
    rw [← hl] at hj
    have h1 := ht j hj
    have hne : t j ≠ t i := fun e => hji (by have := (ht i hi).2; rw [← e, h1.2] at this; omega)
    have := oth_le (l := l) (o := o) (i := ((t i : Nat) : Int)) (k := l.length) (j := t j) h1.1 (by omega) (by rw [← hm j hj]; exact hjr)
    rw [← ho j hj] at this
    exact this
theorem IsG.turn {l m : List Mb} {o o' : Nat → Int} (h : IsG l o) (h' : IsG m o') (t : Nat → Nat) (u : Nat → Nat) (hl : l.length = m.length) (ht : ∀ i, i < l.length → t i < l.length ∧ u (t i) = i) (hu : ∀ i, i < l.length → u i < l.length ∧ t (u i) = i) (hm : ∀ i, i < l.length → nth m i = nth l (t i)) {i : Nat} (hi : i < l.length) : o' i = o (t i) := by
  have hG : IsG m (fun i => o (t i)) := by
    refine ⟨fun j hj => ?_, fun x hx j hj => ?_⟩
    · rw [← hl] at hj
      show o (t j) = outM (nth m j) (lbt m (fun i => o (t i)) j)
      rw [lbt_turn t u hl ht hu hm (fun _ _ => rfl) hj, hm j hj]
      exact h.fx _ (ht j hj).1
    · rw [← hl] at hj
      have hq := h.gr (fun i => x (u i)) (fun q hq => ?_) (t j) (ht j hj).1
      · have e : x (u (t j)) = x j := by rw [(ht j hj).2]
        rw [← e]
        exact hq
      · have g := hu q hq
        have hx1 := hx (u q) (by rw [← hl]; exact g.1)
        have e := lbt_turn (o := fun i => x (u i)) (o' := x) t u hl ht hu hm (fun i hi => by show x i = x (u (t i)); rw [(ht i hi).2]) g.1
        unfold outF at hx1 ⊢
        rw [e, hm _ g.1, g.2] at hx1
        exact hx1
  exact h'.one hG (by rw [← hl]; exact hi)
/-! ### All that ask for their next message; none that asks -/
/-- Where nobody's base is below x, nobody's bound is at x or below. -/
theorem IsG.gt {l : List Mb} {o : Nat → Int} (h : IsG l o) {x : Int} (h0 : 0 ≤ x) (h1 : x < 1099511627776) (hb : ∀ j, j < l.length → ∀ b, x ≤ b → x ≤ base (nth l j) b) : (∀ j, j < l.length → x < o j) ∧ ∀ i, x < lbt l o i := by
  have hx : ∀ i, i < l.length → x + 1 ≤ o i := h.gr (fun _ => x + 1) (fun i hi => by
    have hl : x + 1 ≤ lbt l (fun _ => x + 1) i := le_oth (by unfold inf; omega) (fun _ _ _ _ => Int.le_refl _)
    have hq := hb i hi (lbt l (fun _ => x + 1) i) (by omega)
    unfold outF outM
    split
    · have hlk : 1 ≤ look (nth l i) ∧ look (nth l i) ≤ 1048576 := by unfold look; omega
      have e1 : cnt (look (nth l i)) = look (nth l i) := cnt_mid (by omega) (by omega)
      have e2 := cnt_mono hq
      rw [cnt_mid h0 (by omega)] at e2
      unfold vadd
      rw [e1]
      have e3 := cnt_mono (show x + 1 ≤ look (nth l i) + cnt (base (nth l i) (lbt l (fun _ => x + 1) i)) by omega)
      rw [cnt_mid (by omega) (by omega)] at e3
      exact e3
    · show x + 1 ≤ inf
      unfold inf
      omega)
  refine ⟨fun j hj => by have := hx j hj; omega, fun i => ?_⟩
  have : x + 1 ≤ lbt l o i := le_oth (by unfold inf; omega) (fun j hj _ _ => hx j hj)
  omega
/-- Who has asked for nothing. -/
theorem outM_idle {m : Mb} (h1 : m.ki ≠ 1) (h2 : m.ki ≠ 2) (h3 : m.ki ≠ 3) (b : Int) : outM m b = if m.re = true then vadd (look m) (cnt m.ti) else inf := by
  unfold outM base
  rw [if_neg (show ¬ (m.ki = 1 ∨ (m.ki = 2 ∨ m.ki = 3) ∧ m.co = false) by omega), if_neg (show ¬ (m.ki = 2 ∨ m.ki = 3) by omega)]
theorem IsG.idle {l : List Mb} {o : Nat → Int} (h : IsG l o) (hk : ∀ j, j < l.length → (nth l j).ki = 0) {j : Nat} (hj : j < l.length) : o j = if (nth l j).re = true then vadd (look (nth l j)) (cnt (nth l j).ti) else inf := by
  have e := hk j hj
  rw [h.fx j hj]
  exact outM_idle (by omega) (by omega) (by omega) _
/-! ### One member changes -/
theorem nth_set {l : List Mb} {k : Nat} (hk : k < l.length) (m : Mb) (i : Nat) : nth (l.set k m) i = if i = k then m else nth l i := by
  unfold nth
  by_cases e : i = k
  · subst e
    simp [hk]
  · rw [if_neg e]
    simp [List.getElem?_set_ne (fun g => e g.symm)]
/-- One that is, where all stands, not earlier, and regulates no more than it did: nobody's output, nobody's bound is earlier. -/
theorem IsG.set {l : List Mb} {o o' : Nat → Int} (h : IsG l o) {k : Nat} (hk : k < l.length) {m : Mb} (h' : IsG (l.set k m) o') (hre : m.re = true → (nth l k).re = true) (hb : o k ≤ outM m (lbt l o k)) : (∀ i, i < l.length → o i ≤ o' i) ∧ ∀ i, lbt l o i ≤ lbt (l.set k m) o' i := by
  have hl : l.length = (l.set k m).length := by rw [List.length_set]
  have hr : ∀ j, j < l.length → (nth (l.set k m) j).re = true → (nth l j).re = true := fun j hj g => by
    rw [nth_set hk] at g
    by_cases e : j = k
    · subst e; rw [if_pos rfl] at g; exact hre g
    · rw [if_neg e] at g; exact g
  have hle : ∀ i, i < l.length → o i ≤ o' i := fun i hi => h'.gr o (fun j hj => by
    rw [← hl] at hj
    have h1 := lbt_later (o := o) (o' := o) hl hr (fun _ _ => Int.le_refl _) j
    unfold outF
    rw [nth_set hk]
    by_cases e : j = k
    · subst e
      rw [if_pos rfl]
      exact Int.le_trans hb (outM_mono m h1)
    · rw [if_neg e]
      exact Int.le_trans (Int.le_of_eq (h.fx j hj)) (outM_mono _ h1)) i (by rw [← hl]; exact hi)
  exact ⟨hle, fun i => lbt_later hl hr hle i⟩
theorem cnt_ge {y : Int} (h : y ≤ inf) : y ≤ cnt y := by unfold cnt; unfold inf at *; split <;> (try split) <;> omega
theorem outM_min (m : Mb) {b y : Int} (hy : y ≤ inf) : min (outM m b) y ≤ outM m (min b y) := by
  unfold outM
  split
  · have h1 : min (base m b) y ≤ base m (min b y) := by
      unfold base
      split
      · omega
      · split <;> omega
    have h2 := vadd_mono (Int.le_refl (look m)) h1
    have h3 : y ≤ vadd (look m) y := by
      unfold vadd
      have e1 := cnt_lo (look m)
      have e2 := cnt_mono (show cnt y ≤ cnt (look m) + cnt y by omega)
      rw [cnt_cnt] at e2
      have := cnt_ge hy
      omega
    by_cases g : base m b ≤ y
    · rw [show min (base m b) y = base m b by omega] at h2
      omega
    · rw [show min (base m b) y = y by omega] at h2
      omega
  · omega
/-- One that begins to regulate above x: nobody's bound falls to x. -/
theorem IsG.regul {l : List Mb} {o o' : Nat → Int} (h : IsG l o) {k : Nat} (hk : k < l.length) {m : Mb} (h' : IsG (l.set k m) o') {x : Int} (hx : x < inf) (hb : ∀ b, x < outM m b) (i : Int) : min (lbt l o i) (x + 1) ≤ lbt (l.set k m) o' i := by
  have hl : l.length = (l.set k m).length := by rw [List.length_set]
  have hy : ∀ j, j < l.length → (if j = k then x + 1 else min (o j) (x + 1)) ≤ o' j := fun j hj => h'.gr (fun j => if j = k then x + 1 else min (o j) (x + 1)) (fun j hj => by
    rw [← hl] at hj
    show (if j = k then x + 1 else min (o j) (x + 1)) ≤ outM (nth (l.set k m) j) _
    rw [nth_set hk]
    by_cases e : j = k
    · rw [if_pos e, if_pos e]
      have := hb (lbt (l.set k m) (fun j => if j = k then x + 1 else min (o j) (x + 1)) j)
      omega
    · rw [if_neg e, if_neg e]
      have hz : min (lbt l o j) (x + 1) ≤ lbt (l.set k m) (fun j => if j = k then x + 1 else min (o j) (x + 1)) j := le_oth (by omega) (fun q hq hqj hqr => by
        show _ ≤ if q = k then x + 1 else min (o q) (x + 1)
        by_cases e2 : q = k
        · rw [if_pos e2]; omega
        · rw [if_neg e2]
          rw [nth_set hk, if_neg e2] at hqr
          have := oth_le (l := l) (o := o) (i := (j : Int)) (k := l.length) (j := q) (by rw [hl]; exact hq) hqj hqr
          unfold lbt
          omega)
      have h1 := outM_mono (nth l j) hz
      have h2 := outM_min (nth l j) (b := lbt l o j) (y := x + 1) (by omega)
      have h3 : o j = outM (nth l j) (lbt l o j) := h.fx j hj
      omega) j (by rw [← hl]; exact hj)
  unfold lbt
  refine le_oth (by have := oth_hi l o i l.length; omega) (fun q hq hqi hqr => ?_)
  rw [← hl] at hq
  have h1 := hy q hq
  by_cases e : q = k
  · rw [if_pos e] at h1; omega
  · rw [if_neg e] at h1
    rw [nth_set hk, if_neg e] at hqr
    have := oth_le (l := l) (o := o) (i := i) (k := l.length) (j := q) hq hqi hqr
    omega
/-- There are such outputs. -/
theorem G_from {l : List Mb} : ∀ (s : Nat) (o : Nat → Int), Dn l o → sum o l.length = s → ∃ o, IsG l o := by
  intro s
  induction s using Nat.strongRecOn with
  | ind s ih =>
    intro o h hs
    by_cases g : ∀ i, i < l.length → o i = outF l o i
    · exact ⟨o, h.fin g⟩
    · obtain ⟨i, hi⟩ := Classical.not_forall.1 g
      obtain ⟨hi, hne⟩ := Classical.not_imp.1 hi
      have hl := h.less hi (fun e => hne e.symm)
      exact ih _ (by omega) (outF l o) h.next rfl
theorem G_ex (l : List Mb) : ∃ o, IsG l o := G_from _ _ (Dn.start l) rfl
end Go.Proofs.Ytmkhgihhledegaa.L
