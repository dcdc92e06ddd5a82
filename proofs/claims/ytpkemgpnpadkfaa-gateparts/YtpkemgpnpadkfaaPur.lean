/- Proved: what is sorted in parts; what is sorted stays in the order in which it came; plain facts on what a gate opens. -/
import Derived.Test.YtpkemgpnpadkfaaTim
namespace Go.Proofs.Ytpkemgpnpadkfaa.Stb
set_option linter.unusedVariables false

theorem ins_left {α : Type} {le : α → α → Bool} {S1 S2 : List α} {x : α} (h : ∀ b ∈ S2, le b x = false) : ins le (S1 ++ S2) x = ins le S1 x ++ S2 := by
  induction S1 with
  | nil =>
    cases S2 with
    | nil => rfl
    | cons b r => simp [ins, h b (by simp)]
  | cons a r ih =>
    simp only [List.cons_append, ins]
    split
    · rw [ih]; rfl
    · rfl
theorem ins_right {α : Type} {le : α → α → Bool} {S1 S2 : List α} {x : α} (h : ∀ a ∈ S1, le a x = true) : ins le (S1 ++ S2) x = S1 ++ ins le S2 x := by
  induction S1 with
  | nil => rfl
  | cons a r ih =>
    simp only [List.cons_append, ins, h a (by simp), if_true]
    rw [ih (fun b hb => h b (List.mem_cons_of_mem _ hb))]
theorem ins_perm {α : Type} {le : α → α → Bool} (s : List α) (x : α) : (ins le s x).Perm (x :: s) := by
  induction s with
  | nil => exact List.Perm.refl _
  | cons a r ih =>
    unfold ins
    split
    · exact (ih.cons a).trans (List.Perm.swap x a r)
    · exact List.Perm.refl _
theorem isort_snoc {α : Type} (le : α → α → Bool) (l : List α) (x : α) : isort le (l ++ [x]) = ins le (isort le l) x := by
  unfold isort
  rw [List.foldl_append]
  rfl
theorem snoc_ind {α : Type} {P : List α → Prop} (h0 : P []) (h1 : ∀ l x, P l → P (l ++ [x])) (l : List α) : P l := by
  have : ∀ n (l : List α), l.length = n → P l := by
    intro n
    induction n with
    | zero => intro l hl; rw [List.length_eq_zero_iff.1 hl]; exact h0
    | succ n ih =>
      intro l hl
      have hne : l ≠ [] := by intro e; simp [e] at hl
      rw [← List.dropLast_concat_getLast hne]
      exact h1 _ _ (ih _ (by simp; omega))
  exact this _ l rfl
theorem isort_perm {α : Type} {le : α → α → Bool} (l : List α) : (isort le l).Perm l := by
  induction l using snoc_ind with
  | h0 => exact List.Perm.refl _
  | h1 l x ih =>
    rw [isort_snoc]
    exact (ins_perm _ x).trans ((ih.cons x).trans (List.perm_append_singleton x l).symm)
/-- Two parts, of which one stands ahead of the other. -/
theorem isort_parts {α : Type} {le : α → α → Bool} {p : α → Bool} (l : List α) (h : ∀ a ∈ l, ∀ b ∈ l, p a = true → p b = false → le a b = true ∧ le b a = false) : isort le l = isort le (l.filter p) ++ isort le (l.filter (fun x => !p x)) := by
  induction l using snoc_ind with
  | h0 => rfl
  | h1 l x ih =>
    have ih' := ih (fun a ha b hb => h a (List.mem_append_left _ ha) b (List.mem_append_left _ hb))
    have m1 : ∀ q : α → Bool, ∀ a ∈ isort le (l.filter q), a ∈ l ∧ q a = true := fun q a ha => by
      have := (isort_perm (le := le) (l.filter q)).mem_iff.1 ha
      exact List.mem_filter.1 this
    rw [isort_snoc, ih', List.filter_append, List.filter_append]
    cases hp : p x
    · rw [show [x].filter p = [] by simp [hp], show [x].filter (fun x => !p x) = [x] by simp [hp], List.append_nil, isort_snoc]
      exact ins_right fun a ha => (h a (List.mem_append_left _ (m1 p a ha).1) x (by simp) (m1 p a ha).2 hp).1
    · rw [show [x].filter p = [x] by simp [hp], show [x].filter (fun x => !p x) = [] by simp [hp], List.append_nil, isort_snoc]
      refine ins_left fun b hb => ?_
      have hb' := m1 (fun x => !p x) b hb
      exact (h x (by simp) b (List.mem_append_left _ hb'.1) hp (by simpa using hb'.2)).2
theorem ins_congr {α : Type} {le le' : α → α → Bool} {s : List α} {x : α} (h : ∀ a ∈ s, le a x = le' a x) : ins le s x = ins le' s x := by
  induction s with
  | nil => rfl
  | cons a r ih =>
    unfold ins
    rw [h a (by simp), ih (fun b hb => h b (List.mem_cons_of_mem _ hb))]
/-- Two orders that tell the same of what came ahead of what. -/
theorem isort_congr {α : Type} {le le' : α → α → Bool} (l : List α) (h : l.Pairwise (fun a b => le a b = le' a b)) : isort le l = isort le' l := by
  induction l using snoc_ind with
  | h0 => rfl
  | h1 l x ih =>
    obtain ⟨h1, _, h3⟩ := List.pairwise_append.1 h
    rw [isort_snoc, isort_snoc, ih h1]
    exact ins_congr fun a ha => h3 a ((isort_perm l).mem_iff.1 ha) x (by simp)
end Go.Proofs.Ytpkemgpnpadkfaa.Stb
namespace Go.Proofs.Ytpkemgpnpadkfaa
open Go.RowKit Go.Shelf Go.Sort
set_option linter.unusedVariables false

/-- Opened in two parts. -/
theorem open_parts (L : List H) {m n : Int} (h : m ≤ n) : openG n L = openG m L ++ openG n (L.filter (fun x => !low m x)) ∧ (L.filter (fun x => !low m x)).filter (fun x => !low n x) = L.filter (fun x => !low n x) := by
  have mono : ∀ x, low m x = true → low n x = true := fun x hx => by unfold low at *; simp at *; omega
  constructor
  · unfold openG
    rw [Stb.isort_parts (le := leH) (p := low m) (L.filter (low n)) (fun a _ b _ ha hb => by
      unfold low at ha hb
      simp at ha hb
      have hk : klt a.1 b.1 = true := by rw [klt_iff]; omega
      unfold leH
      rw [klt_asymm hk, hk]
      exact ⟨rfl, rfl⟩)]
    unfold msgs
    rw [List.map_append]
    congr 2
    · congr 1
      rw [List.filter_filter]
      apply List.filter_congr
      intro x _
      cases h1 : low m x
      · rfl
      · simp [mono x h1]
    · congr 1
      rw [List.filter_filter, List.filter_filter]
      apply List.filter_congr
      intro x _
      exact Bool.and_comm _ _
  · rw [List.filter_filter]
    apply List.filter_congr
    intro x _
    cases h1 : low m x
    · simp
    · simp [mono x h1]
/-- Messages that bear their causes' times, and their numbers. -/
def fO (z : List Int) (j : Nat) : M := ((nthI z j, 0, (j : Int)), 0, 0, 0)
def leK (x y : H) : Bool := !klt y.2.1 x.2.1
theorem leK_tot : Stb.Tot leK := ⟨fun a b c h g => by unfold leK at *; simp only [Bool.not_eq_true'] at *; exact kle_trans h g, fun a b => by
  unfold leK
  cases h : klt b.2.1 a.2.1
  · exact Or.inl rfl
  · exact Or.inr (by rw [klt_asymm h]; rfl)⟩
theorem opens_rise (z : List Int) (n : Nat) (t : Int) : (openG t (gls (fO z) z n)).Pairwise (fun a b => klt a.1 b.1 = true) ∧ (∀ m ∈ openG t (gls (fO z) z n), m.1.1 < t) ∧ (openG t (gls (fO z) z n)).length = (ixs (fun x => decide (x < t)) z n).length := by
  have e : (gls (fO z) z n).filter (low t) = (ixs (fun x => decide (x < t)) z n).map (gh (fO z) z) := gls_filter (fO z) z n (fun j => low_gh (fO z) z t j)
  have hlt : (ixs (fun x => decide (x < t)) z n).Pairwise (fun a b => a < b) := List.Pairwise.filter _ List.pairwise_lt_range
  have c1 : Stb.isort leH ((gls (fO z) z n).filter (low t)) = Stb.isort leK ((gls (fO z) z n).filter (low t)) := by
    apply Stb.isort_congr
    rw [e, List.pairwise_map]
    refine hlt.imp fun {a b} hab => ?_
    unfold leH leK gh fO
    congr 1
    rw [Bool.eq_iff_iff, klt_iff, klt_iff]
    dsimp only
    omega
  have hne : ((gls (fO z) z n).filter (low t)).Pairwise (fun a b => a.2.1 ≠ b.2.1) := by
    rw [e, List.pairwise_map]
    refine hlt.imp fun {a b} hab => ?_
    unfold gh fO
    dsimp only
    intro h
    simp at h
    omega
  unfold openG
  rw [c1]
  have hp := Stb.isort_perm (le := leK) ((gls (fO z) z n).filter (low t))
  have hs := Stb.isort_srt leK_tot ((gls (fO z) z n).filter (low t))
  have hn2 := (hp.pairwise_iff (fun {a b} h => Ne.symm h)).2 hne
  refine ⟨?_, fun m hm => ?_, ?_⟩
  · unfold msgs
    rw [List.pairwise_map]
    refine (List.pairwise_and_iff.2 ⟨hs, hn2⟩).imp fun {a b} hab => ?_
    have h1 : klt b.2.1 a.2.1 = false := by have := hab.1; unfold leK at this; simpa using this
    rcases klt_or hab.2 with g | g
    · exact g
    · rw [h1] at g; cases g
  · obtain ⟨x, hx, rfl⟩ := List.mem_map.1 hm
    have hx2 := hp.mem_iff.1 hx
    rw [e] at hx2
    obtain ⟨j, hj, rfl⟩ := List.mem_map.1 hx2
    exact of_decide_eq_true (mem_ixs hj).2
  · rw [msgs_len, hp.length_eq, e, List.length_map]
end Go.Proofs.Ytpkemgpnpadkfaa
