/- Proved: what is undone of entries in order, and what stands where: plain facts. -/
import Derived.Test.YtgifanioeeacdaaTim
namespace Go.Proofs.Ytgifanioeeacdaa
open Go.RowKit Go.Shelf Go.Sort
set_option linter.unusedVariables false

def num (i : Nat) : Int := (i : Int)
def als (z : List Int) (n : Nat) : List E := (List.range n).map (fun i => ⟨pe num z i, none, 0⟩)
theorem als_succ (z : List Int) (n : Nat) : als z (n + 1) = als z n ++ [⟨pe num z n, none, 0⟩] := by unfold als; rw [List.range_succ]; simp
theorem als_len (z : List Int) (n : Nat) : (als z n).length = n := by simp [als]
theorem als_nth (z : List Int) {n i : Nat} (h : i < n) : nth cE (als z n) i = ⟨pe num z i, none, 0⟩ := by
  rw [nth_get (by rw [als_len]; exact h)]
  simp [als]
theorem als_map (z : List Int) (n : Nat) : (als z n).map E.p = pls num z n := by simp [als, pls]
theorem pls_take (f : Nat → Int) (z : List Int) {c n : Nat} (h : c ≤ n) : (pls f z n).take c = pls f z c := by
  unfold pls
  rw [← List.map_take, List.take_range, Nat.min_eq_left h]
/-- Where the entries are cut by a key. -/
theorem back_facts {f : Nat → Int} {z : List Int} (h : ∀ i, i < z.length → 0 ≤ nthI z i ∧ nthI z i ≤ 255) (k : K) : ∃ c, c ≤ z.length ∧ (pls f z z.length).filter (bef k) = pls f z c ∧ (gonK k (pls f z z.length)).length = z.length - c ∧
    (∀ j, j < z.length - c → nthP (gonK k (pls f z z.length)) j = pe f z (z.length - 1 - j)) ∧ (∀ i, i < c → kcmp (pe f z i).m.1 k < 0) ∧ (∀ i, c ≤ i → i < z.length → ¬ kcmp (pe f z i).m.1 k < 0) := by
  have hs := pls_srt (f := f) h (Nat.le_refl _)
  obtain ⟨e1, e2⟩ := cls_cut (cls_bef hs k)
  have hc := cut_le (bef k) (pls f z z.length)
  rw [pls_len] at hc
  obtain ⟨c, hcc⟩ : ∃ c, cut (bef k) (pls f z z.length) = c := ⟨_, rfl⟩
  rw [hcc] at e1 e2 hc
  have hlen : (gonK k (pls f z z.length)).length = z.length - c := by unfold gonK; rw [e2]; simp [pls_len]
  refine ⟨c, hc, by rw [e1, pls_take f z hc], hlen, fun j hj => ?_, fun i hi => ?_, fun i hi hl => ?_⟩
  · have e3 : nthP (pls f z z.length) (z.length - 1 - j) = pe f z (z.length - 1 - j) := pls_nth f z (by omega)
    rw [← e3]
    unfold gonK nthP
    rw [e2]
    have hl : j < ((pls f z z.length).drop c).length := by simp [pls_len]; omega
    rw [List.getD_eq_getElem?_getD, List.getElem?_reverse hl, List.getElem?_drop, List.getD_eq_getElem?_getD]
    congr 2
    simp [pls_len]
    omega
  · have : pe f z i ∈ (pls f z z.length).filter (bef k) := by
      rw [e1, pls_take f z hc]
      exact List.mem_map.2 ⟨i, List.mem_range.2 hi, rfl⟩
    have := (List.mem_filter.1 this).2
    rwa [bef, klt, decide_eq_true_iff] at this
  · have : pe f z i ∈ (pls f z z.length).filter (fun x => !bef k x) := by
      rw [e2]
      rw [List.mem_iff_getElem]
      refine ⟨i - c, by simp [pls_len]; omega, ?_⟩
      simp [pls]
      congr 1
      omega
    have := (List.mem_filter.1 this).2
    simp [bef, klt] at this
    omega
theorem settle_all {f : Nat → Int} {z : List Int} (h : ∀ i, i < z.length → 0 ≤ nthI z i ∧ nthI z i ≤ 255) (hz : z.length ≤ 60) : gonT 1099511627776 (pls f z z.length) = pls f z z.length := by
  unfold gonT
  refine List.filter_eq_self.2 fun x hx => ?_
  obtain ⟨i, hi, rfl⟩ := List.mem_map.1 hx
  have h1 := List.mem_range.1 hi
  have := (tsum_bd h (n := i + 1) (by omega)).2
  show decide (tsum z (i + 1) < 1099511627776) = true
  simp
  omega
end Go.Proofs.Ytgifanioeeacdaa
