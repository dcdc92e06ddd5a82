/- Proved: plain facts on messages in order: what a queue says is told by the list of its messages in the order of their keys. -/
import Derived.Test.YtkodjioofkdepaaQHeapP
namespace Go.Proofs.Ytkodjioofkdepaa.Q
open Go.RowKit Go.Sort
set_option linter.unusedVariables false
set_option maxRecDepth 100000

def Srt (s : List M) : Prop := s.Pairwise (fun a b => klt a.1 b.1 = true)
def ins : List M → M → List M
  | [], m => [m]
  | x :: r, m => if klt m.1 x.1 = true then m :: x :: r else x :: ins r m
def del (s : List M) (k : K) : List M := s.filter (fun x => decide (x.1 ≠ k))
def low (s : List M) (t : Int) : List M := s.filter (fun x => decide (x.1.1 < t))
abbrev zeroM : M := ((0, 0, 0), 0, 0, 0)
def hasK (s : List M) (k : K) : Bool := s.any (fun x => decide (x.1 = k))
def fnd (s : List M) (k : K) : M := (s.find? (fun x => decide (x.1 = k))).getD zeroM

theorem hasK_iff (s : List M) (k : K) : hasK s k = true ↔ k ∈ s.map Prod.fst := by
  unfold hasK
  simp [List.any_eq_true]
theorem Srt.nodup {s : List M} (h : Srt s) : (s.map Prod.fst).Nodup := by
  unfold List.Nodup
  rw [List.pairwise_map]
  exact h.imp fun {a b} hab e => by rw [e, klt_irrefl] at hab; cases hab
theorem ins_perm (s : List M) (m : M) : (ins s m).Perm (s ++ [m]) := by
  induction s with
  | nil => exact List.Perm.refl _
  | cons x r ih =>
    unfold ins
    split
    · exact (List.perm_append_singleton m (x :: r)).symm
    · exact ih.cons x
theorem ins_mem {s : List M} {m y : M} : y ∈ ins s m ↔ y ∈ s ∨ y = m := by
  rw [(ins_perm s m).mem_iff]; simp
theorem ins_len (s : List M) (m : M) : (ins s m).length = s.length + 1 := by
  rw [(ins_perm s m).length_eq]; simp
theorem Srt.ins {s : List M} {m : M} (h : Srt s) (hn : m.1 ∉ s.map Prod.fst) : Srt (ins s m) := by
  induction s with
  | nil => exact List.pairwise_singleton _ _
  | cons x r ih =>
    obtain ⟨h1, h2⟩ := List.pairwise_cons.1 h
    simp only [List.map_cons, List.mem_cons, not_or] at hn
    unfold Ytkodjioofkdepaa.Q.ins
    split
    · rename_i hlt
      refine List.pairwise_cons.2 ⟨?_, h⟩
      intro y hy
      rcases List.mem_cons.1 hy with rfl | hy
      · exact hlt
      · exact klt_trans hlt (h1 y hy)
    · rename_i hlt
      refine List.pairwise_cons.2 ⟨?_, ih h2 hn.2⟩
      intro y hy
      rcases ins_mem.1 hy with hy | rfl
      · exact h1 y hy
      · rcases klt_or hn.1 with g | g
        · exact absurd g hlt
        · exact g
theorem Srt.del {s : List M} (h : Srt s) (k : K) : Srt (del s k) := h.filter _
theorem Srt.low {s : List M} (h : Srt s) (t : Int) : Srt (low s t) := h.filter _
/-- Lists in order that have the same messages are one. -/
theorem srt_unique : ∀ {a b : List M}, Srt a → Srt b → a.Perm b → a = b
  | [], b, _, _, hp => by rw [List.nil_perm.1 hp]
  | x :: r, [], _, _, hp => by simp at hp
  | x :: r, y :: t, ha, hb, hp => by
    obtain ⟨a1, a2⟩ := List.pairwise_cons.1 ha
    obtain ⟨b1, b2⟩ := List.pairwise_cons.1 hb
    have hx : x ∈ y :: t := hp.mem_iff.1 (List.mem_cons_self ..)
    have hy : y ∈ x :: r := hp.mem_iff.2 (List.mem_cons_self ..)
    have e : x = y := by
      rcases List.mem_cons.1 hx with e | hx
      · exact e
      · rcases List.mem_cons.1 hy with e | hy
        · exact e.symm
        · have h1 := b1 x hx
          have h2 := a1 y hy
          rw [klt_asymm h1] at h2; cases h2
    subst e
    rw [srt_unique a2 b2 (List.Perm.cons_inv hp)]
/-- The first of a heap is the first in order. -/
theorem heap_first {d s : List M} {x : M} (hp : d.Perm (x :: s)) (ho : OK d d.length) (hs : Srt (x :: s)) : nth d 0 = x := by
  have hl : d.length = s.length + 1 := by rw [hp.length_eq]; simp
  have h0 : nth d 0 ∈ x :: s := by rw [nth_get d 0 (by omega)]; exact hp.mem_iff.1 (List.getElem_mem _)
  rcases List.mem_cons.1 h0 with e | h0
  · exact e
  · have h1 := (List.pairwise_cons.1 hs).1 _ h0
    have hx : x ∈ d := hp.mem_iff.2 (List.mem_cons_self ..)
    obtain ⟨c, hc, e⟩ := List.getElem_of_mem hx
    have h2 := ok_first ho c hc
    unfold key at h2
    rw [nth_get d c hc, e, h1] at h2
    cases h2
theorem perm_pop {d' d s : List M} {x : M} (h : (d' ++ [x]).Perm d) (hp : d.Perm (x :: s)) : d'.Perm s := by
  have h1 : (x :: d').Perm (x :: s) := ((List.perm_append_singleton x d').symm.trans h).trans hp
  exact List.Perm.cons_inv h1
theorem del_perm {s : List M} {x : M} (hs : (s.map Prod.fst).Nodup) (hx : x ∈ s) : s.Perm (x :: del s x.1) := by
  induction s with
  | nil => simp at hx
  | cons y r ih =>
    simp only [List.map_cons, List.nodup_cons] at hs
    rcases List.mem_cons.1 hx with rfl | hx
    · have : del r x.1 = r := by
        unfold del
        rw [List.filter_eq_self]
        intro z hz
        simp only [ne_eq, decide_eq_true_eq]
        exact fun e => hs.1 (by rw [← e]; exact List.mem_map.2 ⟨z, hz, rfl⟩)
      rw [show del (x :: r) x.1 = del r x.1 by simp [del], this]
    · have hne : y.1 ≠ x.1 := fun e => hs.1 (by rw [e]; exact List.mem_map.2 ⟨x, hx, rfl⟩)
      rw [show del (y :: r) x.1 = y :: del r x.1 by simp [del, hne]]
      exact ((ih hs.2 hx).cons y).trans (List.Perm.swap x y _)
theorem fnd_of {s : List M} {x : M} (hs : (s.map Prod.fst).Nodup) (hx : x ∈ s) : fnd s x.1 = x := by
  unfold fnd
  induction s with
  | nil => simp at hx
  | cons y r ih =>
    simp only [List.map_cons, List.nodup_cons] at hs
    rcases List.mem_cons.1 hx with rfl | hx
    · simp
    · have hne : y.1 ≠ x.1 := fun e => hs.1 (by rw [e]; exact List.mem_map.2 ⟨x, hx, rfl⟩)
      rw [List.find?_cons_of_neg (by simp [hne])]
      exact ih hs.2 hx
theorem perm_remove {d' d s : List M} {x : M} (h : (d' ++ [x]).Perm d) (hp : d.Perm s) (hs : Srt s) : d'.Perm (del s x.1) ∧ fnd s x.1 = x := by
  have hx : x ∈ s := (h.trans hp).mem_iff.1 (by simp)
  refine ⟨perm_pop h (hp.trans (del_perm hs.nodup hx)), fnd_of hs.nodup hx⟩
theorem hasK_perm {d s : List M} (h : d.Perm s) (k : K) : k ∈ d.map Prod.fst ↔ hasK s k = true := by
  rw [hasK_iff]; exact (h.map Prod.fst).mem_iff
theorem del_len_lt {s : List M} {x : M} (hs : (s.map Prod.fst).Nodup) (hx : x ∈ s) : (del s x.1).length + 1 = s.length := by
  rw [(del_perm hs hx).length_eq]; simp
theorem fnd_none {s : List M} {k : K} (h : hasK s k = false) : fnd s k = zeroM := by
  unfold fnd
  have : s.find? (fun x => decide (x.1 = k)) = none := by
    rw [List.find?_eq_none]
    intro x hx e
    have : hasK s k = true := List.any_eq_true.2 ⟨x, hx, e⟩
    rw [h] at this; cases this
  rw [this]; rfl
theorem del_none {s : List M} {k : K} (h : hasK s k = false) : del s k = s := by
  unfold del
  rw [List.filter_eq_self]
  intro x hx
  simp only [ne_eq, decide_eq_true_eq]
  intro e
  have : hasK s k = true := List.any_eq_true.2 ⟨x, hx, by simpa using e⟩
  rw [h] at this; cases this
/-- What comes out of a sort by keys that are all unlike is in order. -/
theorem srt_of_sorted {l : List M} (hn : (l.map Prod.fst).Nodup) (h : l.Pairwise (fun a b => klt b.1 a.1 = false)) : Srt l := by
  have h2 : l.Pairwise (fun a b => a.1 ≠ b.1) := by
    have := hn
    unfold List.Nodup at this
    rwa [List.pairwise_map] at this
  exact (h.and h2).imp fun {a b} ⟨x, y⟩ => (klt_or y).elim id (fun g => by rw [x] at g; cases g)
end Go.Proofs.Ytkodjioofkdepaa.Q
