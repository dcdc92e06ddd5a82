/- Proved: where a list in order is cut by what stands ahead of something: plain facts. -/
import Derived.Test.YtgifanioeeacdaaEnt
namespace Go.Proofs.Ytgifanioeeacdaa
set_option linter.unusedVariables false

/-- How many of l are such that f: where f holds ahead of a place alone, that place. -/
def cut (f : P → Bool) (L : List P) : Nat := (L.filter f).length
theorem cut_take {f : P → Bool} {L : List P} {i : Nat} (hi : i ≤ L.length) (h1 : ∀ t, t < i → f (nthP L t) = true) (h2 : ∀ t, i ≤ t → t < L.length → f (nthP L t) = false) : L.filter f = L.take i ∧ L.filter (fun x => !f x) = L.drop i := by
  have e1 : (L.take i).filter f = L.take i := List.filter_eq_self.2 fun x hx => by
    obtain ⟨j, hj, rfl⟩ := List.mem_iff_getElem.1 hx
    rw [List.length_take] at hj
    have := h1 j (by omega)
    unfold nthP at this
    simpa [show j < L.length by omega] using this
  have e2 : (L.drop i).filter f = [] := List.filter_eq_nil_iff.2 fun x hx => by
    obtain ⟨j, hj, rfl⟩ := List.mem_iff_getElem.1 hx
    rw [List.length_drop] at hj
    have := h2 (i + j) (by omega) (by omega)
    unfold nthP at this
    simpa [show i + j < L.length by omega] using this
  have e3 : (L.take i).filter (fun x => !f x) = [] := List.filter_eq_nil_iff.2 fun x hx => by
    have := (List.filter_eq_self.1 e1) x hx
    simp [this]
  have e4 : (L.drop i).filter (fun x => !f x) = L.drop i := List.filter_eq_self.2 fun x hx => by
    have := (List.filter_eq_nil_iff.1 e2) x hx
    simpa using this
  constructor
  · conv => lhs; rw [← List.take_append_drop i L]
    rw [List.filter_append, e1, e2, List.append_nil]
  · conv => lhs; rw [← List.take_append_drop i L]
    rw [List.filter_append, e3, e4, List.nil_append]
theorem cut_unique {f : P → Bool} {L : List P} {i : Nat} (hi : i ≤ L.length) (h1 : ∀ t, t < i → f (nthP L t) = true) (h2 : ∀ t, i ≤ t → t < L.length → f (nthP L t) = false) : cut f L = i := by
  unfold cut
  rw [(cut_take hi h1 h2).1, List.length_take]
  omega
theorem cutE_unique {f : P → Bool} {l : List E} (i : Nat) (hi : i ≤ l.length) (h1 : ∀ t, t < i → f (nth cE l t).p = true) (h2 : ∀ t, i ≤ t → t < l.length → f (nth cE l t).p = false) : cut f (l.map E.p) = i :=
  cut_unique (by simpa using hi) (fun t ht => by rw [nthP_map]; exact h1 t ht) (fun t ht hl => by rw [nthP_map]; exact h2 t ht (by simpa using hl))
/-- What holds of a later one holds of an earlier one. -/
def Cls (f : P → Bool) (L : List P) : Prop := ∀ a b, a ≤ b → b < L.length → f (nthP L b) = true → f (nthP L a) = true
theorem srt_lt {L : List P} (hs : SrtP L) {a b : Nat} (h : a < b) (hb : b < L.length) : klt (nthP L a).m.1 (nthP L b).m.1 = true := by
  have := List.pairwise_iff_getElem.1 hs a b (by omega) hb h
  simpa [nthP, show a < L.length by omega, hb] using this
theorem cls_bef {L : List P} (hs : SrtP L) (k : K) : Cls (bef k) L := fun a b h1 h2 h3 => by
  rcases Nat.lt_or_ge a b with g | g
  · exact klt_trans (srt_lt hs g h2) h3
  · obtain rfl : a = b := by omega
    exact h3
theorem klt_T {a b : K} (h : klt a b = true) : a.1 ≤ b.1 := by rw [klt_iff] at h; omega
theorem cls_low {L : List P} (hs : SrtP L) (t : Int) : Cls (low t) L := fun a b h1 h2 h3 => by
  rcases Nat.lt_or_ge a b with g | g
  · have := klt_T (srt_lt hs g h2)
    unfold low at *
    simp at *
    omega
  · obtain rfl : a = b := by omega
    exact h3
theorem bef_mono {l : List E} {k : K} (hs : SrtP (l.map E.p)) {a b : Nat} (h1 : a ≤ b) (h2 : b < l.length) (h3 : bef k (nth cE l b).p = true) : bef k (nth cE l a).p = true := by
  rw [← nthP_map] at *
  exact cls_bef hs k a b h1 (by simpa using h2) h3
theorem low_mono {l : List E} {t : Int} (hs : SrtP (l.map E.p)) {a b : Nat} (h1 : a ≤ b) (h2 : b < l.length) (h3 : low t (nth cE l b).p = true) : low t (nth cE l a).p = true := by
  rw [← nthP_map] at *
  exact cls_low hs t a b h1 (by simpa using h2) h3
theorem bef_dec (x : P) (k : K) (r : Int) (h : kcmp x.m.1 k = r) : bef k x = decide (r < 0) := by rw [← h]; rfl
theorem low_dec (x : P) (t r : Int) (h : cmpI x.m.1.1 t = r) : low t x = decide (r < 0) := by
  rw [← h]
  unfold low cmpI
  by_cases g : x.m.1.1 < t
  · simp [g]
  · by_cases g2 : t < x.m.1.1
    · simp [g, g2]
    · simp [g, g2]
/-- Where a list is cut: what is kept, what is not. -/
theorem cls_cut {f : P → Bool} {L : List P} (h : Cls f L) : L.filter f = L.take (cut f L) ∧ L.filter (fun x => !f x) = L.drop (cut f L) := by
  have hle : cut f L ≤ L.length := List.length_filter_le _ _
  obtain ⟨i, hi, h1, h2⟩ : ∃ i, i ≤ L.length ∧ (∀ t, t < i → f (nthP L t) = true) ∧ (∀ t, i ≤ t → t < L.length → f (nthP L t) = false) := by
    clear hle
    by_cases hall : ∀ t, t < L.length → f (nthP L t) = true
    · exact ⟨L.length, Nat.le_refl _, hall, fun t a b => by omega⟩
    · have hex : ∃ t, t < L.length ∧ f (nthP L t) = false := Classical.byContradiction fun g => hall fun t ht => by
        cases e : f (nthP L t)
        · exact absurd ⟨t, ht, e⟩ g
        · rfl
      obtain ⟨t, ht, hmin⟩ : ∃ t, (t < L.length ∧ f (nthP L t) = false) ∧ ∀ s, s < t → ¬ (s < L.length ∧ f (nthP L s) = false) := by
        obtain ⟨t0, h0⟩ := hex
        induction t0 using Nat.strongRecOn with
        | _ n ih =>
          by_cases g : ∃ s, s < n ∧ (s < L.length ∧ f (nthP L s) = false)
          · obtain ⟨s, hs, hss⟩ := g
            exact ih s hs hss
          · exact ⟨n, h0, fun s hs hc => g ⟨s, hs, hc⟩⟩
      refine ⟨t, by omega, fun s hs => ?_, fun s hs hl => ?_⟩
      · have := hmin s hs
        cases e : f (nthP L s)
        · exact absurd ⟨by omega, e⟩ this
        · rfl
      · cases e : f (nthP L s)
        · rfl
        · have := h t s hs hl e
          rw [ht.2] at this
          cases this
  rw [cut_unique hi h1 h2]
  exact cut_take hi h1 h2
theorem cut_le (f : P → Bool) (L : List P) : cut f L ≤ L.length := List.length_filter_le _ _
theorem SrtP.filter {L : List P} (h : SrtP L) (f : P → Bool) : SrtP (L.filter f) := List.Pairwise.filter _ h
end Go.Proofs.Ytgifanioeeacdaa
