/- Proved: the contract of taken: entries from one place up to another go out. -/
import Derived.Test.YtgifanioeeacdaaPa0
import Derived.Test.YtgifanioeeacdaaDel
namespace Go.Proofs.Ytgifanioeeacdaa
open Go.RowKit Go.Shelf Go.Sort
set_option linter.unusedVariables false

set_option maxRecDepth 100000 in
set_option maxHeartbeats 1000000 in
theorem sdel_same {w : World} {a : Option Addr} {n cap i : Nat} (ha : a = none → n = 0 ∧ cap = 0) (hn : n ≤ cap) (hm : cap ≤ maxLen) (hi : i ≤ n) :
    Calls Try.prog 37 #[.slice a n cap, .int .i64 i, .int .i64 i] w fun e w' => e = .returned (.slice a n cap) ∧ w' = w := by
  unfold maxLen at hm
  cases a with
  | none =>
    obtain ⟨rfl, rfl⟩ := ha rfl
    obtain rfl : i = 0 := by omega
    clear ha hn hm hi
    go_enter Try.func37, Try.ntmps37
    go_wp2
    go_ret
    exact ⟨rfl, rfl⟩
  | some ad =>
    have h1 : (i : Int) ≤ (n : Int) := by omega
    have h2 : (n : Int) ≤ (cap : Int) := by omega
    have h3 : i ≤ cap := by omega
    clear ha
    go_enter Try.func37, Try.ntmps37
    go_wp2
    all_goals
      go_ret
      exact ⟨rfl, rfl⟩
/-- slices.Delete, whatever is taken out. -/
theorem sdel_any {w : World} {a : Option Addr} {n c i j : Nat} {l : List E} (h : OwR cE 34 w (.slice a n c) l) (hlen : l.length ≤ 1000) (hij : i ≤ j) (hj : j ≤ l.length) :
    Calls Try.prog 37 #[.slice a n c, .int .i64 i, .int .i64 j] w fun e w' => ∃ m, e = .returned (.slice a m c) ∧ OwR cE 34 w' (.slice a m c) (l.take i ++ l.drop j) ∧ Fr (fun k => (Value.slice a n c).ownBlock = some k) w w' := by
  by_cases e : i = j
  · subst e
    have h0 := h
    rcases h.2 with ⟨e, hn⟩ | ⟨g, cap, cur, e, _, hg, h1, h2, _⟩
    · simp at e
      obtain ⟨rfl, rfl, rfl⟩ := e
      refine (sdel_same (fun _ => ⟨rfl, rfl⟩) (Nat.le_refl _) (Nat.zero_le _) (by omega)).mono fun e w' ⟨he, hw⟩ => ⟨0, he, ?_, by rw [hw]; exact Fr.refl _ _⟩
      rw [hw, List.take_append_drop]
      exact h0
    · simp at e
      obtain ⟨rfl, rfl, rfl⟩ := e
      refine (sdel_same (fun e => by cases e) h1 h2 hj).mono fun e w' ⟨he, hw⟩ => ⟨l.length, he, ?_, by rw [hw]; exact Fr.refl _ _⟩
      rw [hw, List.take_append_drop]
      exact h0
  · have hl0 : l ≠ [] := by intro e; subst e; simp at hj; omega
    rcases h.2 with ⟨e, hn⟩ | ⟨g, cap, cur, e, _⟩
    · exact absurd (List.length_eq_zero_iff.1 hn) hl0
    · simp at e
      obtain ⟨rfl, rfl, rfl⟩ := e
      exact (sdel_some h hlen (by omega) hj).mono fun e w' ⟨he, ho, hf⟩ => ⟨_, he, ho, hf.wide (fun k e => by subst e; rfl)⟩
/-- Others' blocks, and the block of a row. -/
def XG (X : Nat → Prop) (v : Value) (k : Nat) : Prop := X k ∨ v.ownBlock = some k
/-- What taken leaves behind. -/
def TakenP (X : Nat → Prop) (w : World) (fl : Int) (l : List E) (b : Nat) (v : Value) (i j : Nat) (e : Ending) (w' : World) : Prop :=
  ∃ a c v', e = .returned (.slice a (j - i) c) ∧ OwR cE 34 w' (.slice a (j - i) c) ((l.drop i).take (j - i)) ∧ (∀ k, (Value.slice a (j - i) c).ownBlock = some k → w.heap.size ≤ k) ∧ PQ (XG X (.slice a (j - i) c)) w' fl (l.take i ++ l.drop j) b v' ∧ Mw (D b v) (D b v') w w' ∧ ∀ x ∈ (l.drop i).take (j - i), Out (fun k => ¬ XG X (.slice a (j - i) c) k ∧ ¬ D b v' k) w' x
theorem taken_fin0 {X : Nat → Prop} {w w1 w2 : World} {fl : Int} {l : List E} {b i j m : Nat} {a ga : Option Addr} {n c gc : Nat} (h : PQ X w fl l b (.slice a n c)) (hij : i ≤ j) (hj : j ≤ l.length)
    (hg : OwR cE 34 w1 (.slice ga (j - i) gc) ((l.drop i).take (j - i))) (hn : ∀ k, (Value.slice ga (j - i) gc).ownBlock = some k → w.heap.size ≤ k) (hb : Below w.heap.size w w1)
    (ho : OwR cE 34 w2 (.slice a m c) (l.take i ++ l.drop j)) (hf : Fr (fun k => (Value.slice a n c).ownBlock = some k) w1 w2) :
    TakenP X w fl l b (.slice a n c) i j (.returned (.slice ga (j - i) gc)) (w2.setCell ⟨b, 0, none⟩ (.slice a m c)) := by
  have own : ∀ k, (Value.slice a m c).ownBlock = some k ↔ (Value.slice a n c).ownBlock = some k := fun k => by cases a <;> simp [Value.ownBlock]
  have h1 : PQ (XG X (.slice ga (j - i) gc)) w1 fl l b (.slice a n c) := h.keep (Fr.of_below (S := fun _ => False) hb) (fun _ e => e.elim) (fun k hk e => by
      rcases e with e | e
      · exact e
      · have := hn k e; omega) (fun k e => by
      rcases e with e | e
      · exact Nat.lt_of_lt_of_le (h.xl k e) hb.size
      · exact hg.lt e)
  have hm : Mw (fun k => (Value.slice a n c).ownBlock = some k) (fun k => (Value.slice a m c).ownBlock = some k) w1 w2 := ⟨hf, fun k _ e => (own k).1 e⟩
  have hmem : ∀ x ∈ l.take i ++ l.drop j, x ∈ l := fun x hx => by
    rcases List.mem_append.1 hx with g | g
    · exact List.mem_of_mem_take g
    · exact List.mem_of_mem_drop g
  obtain ⟨hp, hM⟩ := h1.put hm ho (fun x hx => (h1.outs x (hmem x hx)).move hm) (by have := h.cap; simp; omega)
  have hM2 : Mw (D b (.slice a n c)) (D b (.slice a m c)) w (w2.setCell ⟨b, 0, none⟩ (.slice a m c)) := (Mw.below hb).trans hM
  have f1 : Fr (fun k => k = b) w2 (w2.setCell ⟨b, 0, none⟩ (.slice a m c)) := (Fr.refl _ _).setCell _ _ (Or.inl rfl)
  have nd : ∀ k, (Value.slice ga (j - i) gc).ownBlock = some k → ¬ D b (.slice a m c) k := fun k e d => by
    have h2 := hn k e
    have := h.dlt (k := k) (by rcases d with d | d; exact Or.inl d; exact Or.inr ((own k).1 d))
    omega
  refine ⟨ga, gc, _, rfl, ?_, hn, hp, hM2, fun x hx => ?_⟩
  · exact (hg.keep hf (fun g e s => nd g e (Or.inr ((own g).2 s)))).keep f1 (fun g e s => nd g e (Or.inl s))
  · exact ((h1.outs x (List.mem_of_mem_drop (List.mem_of_mem_take hx))).move hm).keep f1 (fun k _ g => ⟨fun e => g.2 (Or.inl e), g⟩)
theorem taken_fin {X : Nat → Prop} {w w1 w2 : World} {fl : Int} {l : List E} {b i j m d : Nat} {a ga : Option Addr} {n c gc : Nat} (h : PQ X w fl l b (.slice a n c)) (hd : j - i = d) (hij : i ≤ j) (hj : j ≤ l.length)
    (hg : OwR cE 34 w1 (.slice ga d gc) ((l.drop i).take d)) (hn : ∀ k, (Value.slice ga d gc).ownBlock = some k → w.heap.size ≤ k) (hb : Below w.heap.size w w1)
    (ho : OwR cE 34 w2 (.slice a m c) (l.take i ++ l.drop j)) (hf : Fr (fun k => (Value.slice a n c).ownBlock = some k) w1 w2) :
    TakenP X w fl l b (.slice a n c) i j (.returned (.slice ga d gc)) (w2.setCell ⟨b, 0, none⟩ (.slice a m c)) := by
  subst hd
  exact taken_fin0 h hij hj hg hn hb ho hf
set_option maxRecDepth 100000 in
set_option maxHeartbeats 2000000 in
theorem taken_any {X : Nat → Prop} {w : World} {fl : Int} {l : List E} {b : Nat} {v : Value} (h : PQ X w fl l b v) {i j : Nat} (hij : i ≤ j) (hj : j ≤ l.length) :
    Calls Try.prog 30 #[.pointer (some ⟨b, 0, none⟩), .int .i64 i, .int .i64 j] w (TakenP X w fl l b v i j) := by
  have c0 := h.c0
  have hb := h.lt
  have hrow := h.row
  have hcap := h.cap
  have hgl : ((l.drop i).take (j - i)).length = j - i := by simp; omega
  obtain ⟨a, c, rfl, hrd⟩ := hrow.rd (N := fun _ => True) (fun _ _ => trivial)
  obtain ⟨d, hd⟩ : ∃ d, j - i = d := ⟨_, rfl⟩
  rw [hd] at hgl
  obtain ⟨G, hG⟩ : ∃ G, (l.drop i).take d = G := ⟨_, rfl⟩
  obtain ⟨R, hR⟩ : ∃ R, l.take i ++ l.drop j = R := ⟨_, rfl⟩
  obtain ⟨n, hn⟩ : ∃ n, l.length = n := ⟨_, rfl⟩
  have CL : ∀ A cc m, m = d → RdN cE (fun _ => True) w A G → Calls Try.prog 36 #[.slice A m cc] w fun e w' => ∃ a' c', e = .returned (.slice a' d c') ∧ OwR cE 34 w' (.slice a' d c') G ∧ (∀ k, (Value.slice a' d c').ownBlock = some k → w.heap.size ≤ k) ∧ Below w.heap.size w w' := fun A cc m hm hA => by
    subst hm
    have hA2 := hA
    rw [← hG] at hA2 ⊢
    have := cloneE_any w A cc _ hA2 (by omega)
    rwa [hgl] at this
  have HDL : Hid (∀ w1, Below w.heap.size w w1 → Calls Try.prog 37 #[.slice a n c, .int .i64 i, .int .i64 j] w1 fun e w' => ∃ m, e = .returned (.slice a m c) ∧ OwR cE 34 w' (.slice a m c) R ∧ Fr (fun k => (Value.slice a n c).ownBlock = some k) w1 w') := fun w1 hb1 => by
    rw [← hR, ← hn]
    exact sdel_any (hrow.below hb1) (by omega) hij hj
  have HFIN : Hid (∀ {w1 w2 : World} {ga : Option Addr} {gc m : Nat}, OwR cE 34 w1 (.slice ga d gc) G → (∀ k, (Value.slice ga d gc).ownBlock = some k → w.heap.size ≤ k) → Below w.heap.size w w1 → OwR cE 34 w2 (.slice a m c) R → Fr (fun k => (Value.slice a n c).ownBlock = some k) w1 w2 → TakenP X w fl l b (.slice a n c) i j (.returned (.slice ga d gc)) (w2.setCell ⟨b, 0, none⟩ (.slice a m c))) := by
    intro w1 w2 ga gc m h1 h2 h3 h4 h5
    rw [← hG] at h1
    rw [← hR] at h4
    rw [← hn] at h5 ⊢
    exact taken_fin h hd hij hj h1 h2 h3 h4 h5
  have hi2 : (i : Int) ≤ (j : Int) := by omega
  have hj2 : (j : Int) ≤ (n : Int) := by omega
  have HP : Hid (PQ X w fl l b (.slice a n c)) := by rw [← hn]; exact h
  rw [hn] at c0 ⊢
  rcases hrow.2 with ⟨e, hn0⟩ | ⟨g, cap, cur, e, _, hg, h1, h2, _⟩
  · simp at e
    obtain ⟨rfl, e0, rfl⟩ := e
    obtain rfl : n = 0 := by rw [← hn]; exact hn0
    obtain rfl : j = 0 := by omega
    obtain rfl : i = 0 := by omega
    have C0 := CL none 0 0 (by omega) (by rw [← hG, ← hd]; exact RdN.nil _ _ _ _)
    clear CL hrow hrd hgl h hi2 hj2 hij hj hcap hd hG hR hn hn0 e0
    go_enter Try.func30, Try.ntmps30
    go_wp2_with (first | (go_at_call 36; refine C0.mono ?_; rintro e w1 ⟨ga, gc, rfl, hg, hn, hb1⟩; have d0 := (hb1.cell (p := ⟨b, 0, none⟩) hb).trans c0; have d1 := (HP.out.below hb1).froz 0; have HG : Hid (OwR cE 34 w1 (.slice ga d gc) G) := hg; have HN : Hid (∀ k, (Value.slice ga d gc).ownBlock = some k → w.heap.size ≤ k) := hn; have HB : Hid (Below w.heap.size w w1) := hb1; clear hg hn hb1 C0) | (go_at_call 37; refine (HDL.out _ (Hid.out HB)).mono ?_; rintro e w2 ⟨m, rfl, ho, hf⟩; have d0 := ((hf.cell (p := ⟨b, 0, none⟩) (Nat.lt_of_lt_of_le hb (Hid.out HB).size) HP.out.nb).trans d0); have d1 := ((hf.frozen (p := ⟨b, 0, none⟩) (Nat.lt_of_lt_of_le hb (Hid.out HB).size) HP.out.nb).trans d1); have HO : Hid (OwR cE 34 w2 (.slice none m 0) R) := ho; have HF : Hid (Fr (fun k => (Value.slice none 0 0).ownBlock = some k) w1 w2) := hf; clear ho hf))
    go_ret
    exact HFIN.out HG.out HN.out HB.out HO.out HF.out
  · simp at e
    obtain ⟨rfl, rfl⟩ := e
    unfold maxLen at h2
    rw [hn] at h1 hj hcap
    have hcc : (n : Int) ≤ (c : Int) := by omega
    have hic : i ≤ c := by omega
    have hjc : j ≤ c := by omega
    have hcap' : c ≤ 9223372036854775807 := by omega
    by_cases hci : c = i
    · obtain rfl : j = i := by omega
      obtain rfl : n = j := by omega
      obtain rfl : c = n := by omega
      have C0 := CL (some ⟨g, 0, none⟩) 0 0 (by omega) (by rw [← hG, ← hd, Nat.sub_self]; exact RdN.nil _ _ _ _)
      clear CL hrow hrd hgl h hd hG hR hn hg h1 hci hi2 hj2 hij hj hcc hic hjc h2
      go_enter Try.func30, Try.ntmps30
      go_wp2_with (first | (go_at_call 36; refine C0.mono ?_; rintro e w1 ⟨ga, gc, rfl, hg, hn, hb1⟩; have d0 := (hb1.cell (p := ⟨b, 0, none⟩) hb).trans c0; have d1 := (HP.out.below hb1).froz 0; have HG : Hid (OwR cE 34 w1 (.slice ga d gc) G) := hg; have HN : Hid (∀ k, (Value.slice ga d gc).ownBlock = some k → w.heap.size ≤ k) := hn; have HB : Hid (Below w.heap.size w w1) := hb1; clear hg hn hb1 C0) | (go_at_call 37; refine (HDL.out _ (Hid.out HB)).mono ?_; rintro e w2 ⟨m, rfl, ho, hf⟩; have d0 := ((hf.cell (p := ⟨b, 0, none⟩) (Nat.lt_of_lt_of_le hb (Hid.out HB).size) HP.out.nb).trans d0); have d1 := ((hf.frozen (p := ⟨b, 0, none⟩) (Nat.lt_of_lt_of_le hb (Hid.out HB).size) HP.out.nb).trans d1); have HO : Hid (OwR cE 34 w2 (.slice (some ⟨g, 0, none⟩) m c) R) := ho; have HF : Hid (Fr (fun k => (Value.slice (some ⟨g, 0, none⟩) c c).ownBlock = some k) w1 w2) := hf; clear ho hf))
      go_ret
      exact HFIN.out HG.out HN.out HB.out HO.out HF.out
    · have C0 := CL (some ⟨g, i * 10, none⟩) (c - i) (j - i) hd (by have := hrd.part i d; rw [hG] at this; simpa [cE] using this)
      clear CL hrow hrd hgl h hd hG hR hn hg h1 h2
      go_enter Try.func30, Try.ntmps30
      go_wp2_with (first | (go_at_call 36; refine C0.mono ?_; rintro e w1 ⟨ga, gc, rfl, hg, hn, hb1⟩; have d0 := (hb1.cell (p := ⟨b, 0, none⟩) hb).trans c0; have d1 := (HP.out.below hb1).froz 0; have HG : Hid (OwR cE 34 w1 (.slice ga d gc) G) := hg; have HN : Hid (∀ k, (Value.slice ga d gc).ownBlock = some k → w.heap.size ≤ k) := hn; have HB : Hid (Below w.heap.size w w1) := hb1; clear hg hn hb1 C0) | (go_at_call 37; refine (HDL.out _ (Hid.out HB)).mono ?_; rintro e w2 ⟨m, rfl, ho, hf⟩; have d0 := ((hf.cell (p := ⟨b, 0, none⟩) (Nat.lt_of_lt_of_le hb (Hid.out HB).size) HP.out.nb).trans d0); have d1 := ((hf.frozen (p := ⟨b, 0, none⟩) (Nat.lt_of_lt_of_le hb (Hid.out HB).size) HP.out.nb).trans d1); have HO : Hid (OwR cE 34 w2 (.slice (some ⟨g, 0, none⟩) m c) R) := ho; have HF : Hid (Fr (fun k => (Value.slice (some ⟨g, 0, none⟩) n c).ownBlock = some k) w1 w2) := hf; clear ho hf))
      go_ret
      exact HFIN.out HG.out HN.out HB.out HO.out HF.out
end Go.Proofs.Ytgifanioeeacdaa
