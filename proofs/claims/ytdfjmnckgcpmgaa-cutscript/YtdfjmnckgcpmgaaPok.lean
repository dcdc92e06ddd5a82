/- Proved: what always holds of a cut stays so behind each call; no condition. -/
import Derived.Test.YtdfjmnckgcpmgaaPcu
namespace Go.Proofs.Ytdfjmnckgcpmgaa
open Go.RowKit Go.Shelf
open K
set_option linter.unusedVariables false

theorem OK.wide {B B' : Nat} {c : Cu} (h : OK B c) (hB : B ≤ B') : OK B' c := { h with h0 := by have := h.h0; omega, h1 := by have := h.h1; omega, r1 := by have := h.r1; omega }
theorem OK.new (n : Nat) (h1 : 1 ≤ n) (h8 : n ≤ 8) : OK 0 (K.new n) where
  n1 := by simp [K.new]; omega
  n8 := by simp [K.new]; omega
  lt := by simp [K.new]
  lr := by simp [K.new]
  od := .inl rfl
  p0 := Int.le_refl _
  p1 := Int.le_refl _
  h0 := Int.le_refl _
  h1 := Int.le_refl _
  r0 := Int.le_refl _
  r1 := Int.le_refl _
  idle := fun _ => ⟨0, .inl rfl, fun x hx => List.eq_of_mem_replicate hx⟩
  run := fun h => (by cases h)
theorem rep_getD (n i : Nat) : (List.replicate n false).getD i false = false := by
  by_cases h : i < n
  · simp [h]
  · simp [Nat.le_of_not_lt h]
theorem OK.col0 {B : Nat} {c : Cu} (h : OK B c) (hi : c.is = false) : ∀ x ∈ c.co, x = K.col c 0 := by
  obtain ⟨k, hk, h1⟩ := h.idle hi
  intro x hx
  have : K.col c 0 = k := h1 _ (mem_getD (by have := h.n1; omega))
  rw [this]
  exact h1 x hx
theorem OK.beg {B : Nat} {c : Cu} (h : OK B c) : OK B (begC c) := by
  unfold begC
  cases hi : c.is
  · rw [if_neg (by simp)]
    obtain ⟨k, hk, h1⟩ := h.idle hi
    have e0 : K.col c 0 = k := h1 _ (mem_getD (by have := h.n1; omega))
    refine { h with lt := by simp, lr := by simp, od := by show K.col c 0 = 0 ∨ K.col c 0 = 1; rw [e0]; exact hk, idle := fun g => (by cases g), run := fun _ i hin => ?_ }
    show c.co.getD i 0 = if (List.replicate c.co.length false).getD i false = true then 1 - K.col c 0 else K.col c 0
    rw [rep_getD, if_neg (by simp)]
    exact h.col0 hi _ (mem_getD hin)
  · rw [if_pos rfl]; exact h
theorem OK.add {B : Nat} {c : Cu} (h : OK B c) {k d : Int} {B' : Nat} (hB : B ≤ B') (g0 : k = 0 → 0 ≤ c.o0 + d ∧ c.o0 + d ≤ B') (g1 : k ≠ 0 → 0 ≤ c.o1 + d ∧ c.o1 + d ≤ B') : OK B' (addOn c k d) := by
  have q0 := h.h0
  have q1 := h.h1
  have q2 := h.r1
  unfold addOn
  split
  · rename_i e
    exact { h.wide hB with p0 := (g0 e).1, h0 := (g0 e).2 }
  · rename_i e
    exact { h.wide hB with p1 := (g1 e).1, h1 := (g1 e).2 }
theorem OK.less {B : Nat} {c : Cu} (h : OK B c) (le : Int) : OK B { c with le := le } := ⟨h.n1, h.n8, h.lt, h.lr, h.od, h.p0, h.p1, h.h0, h.h1, h.r0, h.r1, h.idle, h.run⟩
theorem OK.sen {B : Nat} {c : Cu} (h : OK B c) (i t : Int) : OK (B + 1) (senC c i t) := by
  have q0 := h.h0
  have q1 := h.h1
  have p0 := h.p0
  have p1 := h.p1
  unfold senC
  split
  · have : OK (B + 1) (addOn c (K.col c i) 1) := h.add (Nat.le_succ _) (fun _ => by omega) (fun _ => by omega)
    dsimp only
    split
    · exact this.less _
    · exact this
  · exact h.wide (Nat.le_succ _)
theorem OK.got {B : Nat} {c : Cu} (h : OK B c) (i k : Int) : OK B (gotC c i k) := by
  unfold gotC
  split
  · rename_i e
    have q0 := h.h0
    have q1 := h.h1
    have p0 := h.p0
    have p1 := h.p1
    unfold gotE at e
    split at e
    · rename_i g
      obtain ⟨_, gk, g0⟩ := g
      unfold on at g0
      refine h.add (Nat.le_refl _) (fun e => ?_) (fun e => ?_)
      · rw [if_pos e] at g0; omega
      · rw [if_neg e] at g0; omega
    · cases e
  · exact h
theorem tur_yes {c : Cu} {k : Nat} (h : turE c k = 0) : k < c.co.length ∧ c.is = true ∧ c.tu.getD k false = false := by
  unfold turE at h
  split at h
  · cases h
  · rename_i hp
    have hp' : isP c k = true := by cases e : isP c k <;> simp_all
    obtain ⟨k', e, hk⟩ := isP_yes hp'
    split at h
    · cases h
    · rename_i g
      refine ⟨by omega, ?_, ?_⟩
      · cases e : c.is
        · exact absurd (.inl e) g
        · rfl
      · cases e : tud c k
        · simpa [tud] using e
        · exact absurd (.inr e) g
theorem OK.tur {B : Nat} {c : Cu} (h : OK B c) {k : Nat} : OK B (turC c k) := by
  unfold turC
  split
  case isFalse => exact h
  case isTrue e =>
    obtain ⟨hk, hi, ht⟩ := tur_yes e
    have hkt : k < c.tu.length := by rw [h.lt]; exact hk
    rw [Int.toNat_natCast]
    refine { h with n1 := by show 1 ≤ (c.co.set _ _).length; rw [List.length_set]; exact h.n1, n8 := by show (c.co.set _ _).length ≤ 8; rw [List.length_set]; exact h.n8, lt := by show (c.tu.set _ _).length = (c.co.set _ _).length; rw [List.length_set, List.length_set]; exact h.lt, lr := by show c.re.length = (c.co.set _ _).length; rw [List.length_set]; exact h.lr, idle := fun g => ?_, run := fun _ i hin => ?_ }
    · have g' : c.is = false := g
      rw [hi] at g'
      cases g'
    · show (c.co.set k (1 - c.old)).getD i 0 = if (c.tu.set k true).getD i false = true then 1 - c.old else c.old
      have hin' : i < c.co.length := by have : i < (c.co.set k (1 - c.old)).length := hin; rwa [List.length_set] at this
      rw [set_getD c.co 0 _ k i hk, set_getD c.tu false _ k i hkt]
      by_cases e : i = k
      · rw [if_pos e, if_pos e, if_pos rfl]
      · rw [if_neg e, if_neg e]
        exact h.run hi i hin'
theorem turE_no {c : Cu} {i : Int} (h : isP c i = false) : turE c i = 1 ∧ turC c i = c := by
  have e : turE c i = 1 := by unfold turE; rw [if_pos h]
  exact ⟨e, by unfold turC; rw [if_neg (by rw [e]; decide)]⟩
theorem OK.tur' {B : Nat} {c : Cu} (h : OK B c) (i : Int) : OK B (turC c i) := by
  cases hp : isP c i
  · rw [(turE_no hp).2]; exact h
  · obtain ⟨k, rfl, _⟩ := isP_yes hp
    exact h.tur
theorem rep_yes {c : Cu} {i t : Int} (h : repE c i t = 0) : isP c i = true ∧ okT t = true ∧ c.is = true ∧ allB c.tu = true ∧ red c i = false ∧ ¬ 0 < on c c.old := by
  unfold repE at h
  split at h
  · cases h
  · rename_i g0
    have g0' : isP c i = true ∧ okT t = true := by
      rcases Classical.em (isP c i = true ∧ okT t = true) with g | g
      · exact g
      · exact absurd g g0
    split at h
    · cases h
    · rename_i g1
      split at h
      · cases h
      · rename_i g2
        refine ⟨g0'.1, g0'.2, ?_, ?_, ?_, g2⟩
        · cases e : c.is
          · exact absurd (.inl e) g1
          · rfl
        · cases e : allB c.tu
          · exact absurd (.inr (.inl e)) g1
          · rfl
        · cases e : red c i
          · rfl
          · exact absurd (.inr (.inr e)) g1
theorem OK.allCo {B : Nat} {c : Cu} (h : OK B c) (hi : c.is = true) (ht : allB c.tu = true) {i : Nat} (hk : i < c.co.length) : c.co.getD i 0 = 1 - c.old := by
  rw [h.run hi i hk, if_pos (allB_iff.1 ht i (by rw [h.lt]; exact hk))]
theorem OK.rep {B : Nat} {c : Cu} (h : OK B c) (i t : Int) : OK (B + 1) (repC c i t) := by
  have q0 := h.h0
  have q1 := h.h1
  have q2 := h.r1
  have q3 := h.r0
  unfold repC
  split
  case isFalse => exact h.wide (Nat.le_succ _)
  case isTrue e =>
    obtain ⟨_, _, hi, ht, _, _⟩ := rep_yes e
    dsimp only
    split
    · refine { h.wide (Nat.le_succ _) with lr := by show (c.re.set _ _).length = c.co.length; rw [List.length_set]; exact h.lr, r0 := by show 0 ≤ c.r + 1; omega, r1 := by show c.r + 1 ≤ ((B + 1 : Nat) : Int); omega, idle := fun _ => ⟨1 - c.old, by have := h.od; omega, fun x hx => ?_⟩, run := fun g => (by cases g) }
      have hx' : x ∈ c.co := hx
      obtain ⟨j, hj, rfl⟩ := List.mem_iff_getElem.1 hx'
      have := h.allCo hi ht hj
      simpa [hj] using this
    · exact { h.wide (Nat.le_succ _) with lr := by show (c.re.set _ _).length = c.co.length; rw [List.length_set]; exact h.lr }
end Go.Proofs.Ytdfjmnckgcpmgaa
