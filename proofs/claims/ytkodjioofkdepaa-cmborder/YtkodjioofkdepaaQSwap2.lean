/- Proved: the contract of the pile's Swap: the two messages stand in each other's places, and so says the map. -/
import Derived.Test.YtkodjioofkdepaaQSwap
namespace Go.Proofs.Ytkodjioofkdepaa.Q
open Go.RowKit Go.Sort
set_option linter.unusedVariables false
set_option maxRecDepth 100000

theorem zero3 (w : World) : (zeroValue 3).run Try.prog w = .ok (.int .i64 0) w := by kernel_rfl
theorem swapL_perm (d : List M) (i j : Nat) (hi : i < d.length) (hj : j < d.length) : (swapL d i j).Perm d := by
  have e : swapL d i j = (d.set i d[j]).set j d[i] := by
    simp [swapL, swp, hi, hj]
  rw [e]
  exact perm_set_set d i j hi hj
theorem swapL_mem (d : List M) (i j : Nat) (hi : i < d.length) (hj : j < d.length) : ∀ m, m ∈ swapL d i j ↔ m ∈ d := fun m => (swapL_perm d i j hi hj).mem_iff

theorem nodup_key {d : List M} (h : (d.map Prod.fst).Nodup) {i j : Nat} (hi : i < d.length) (hj : j < d.length) (he : d[i].1 = d[j].1) : i = j := by
  exact (List.getElem_inj (xs := d.map Prod.fst) (h₀ := by simpa using hi) (h₁ := by simpa using hj) h).1 (by simpa using he)

set_option maxRecDepth 10000 in
theorem MapIs.swapped {W1 : World} {mb : Nat} {d : List M} (h : MapIs W1 mb d) (hwf : ∀ m ∈ d, mwf m) (hnd : (d.map Prod.fst).Nodup) (hlen : d.length ≤ 64) (i j : Nat) (hi : i < d.length) (hj : j < d.length) :
    ∃ W2 W3, (Instr.mapUpdate 94 (.map (some mb)) (kv d[j].1) (.int .i64 i)).run Try.prog W1.drew = .ok () W2 ∧ (Instr.mapUpdate 94 (.map (some mb)) (kv d[i].1) (.int .i64 j)).run Try.prog W2.drew = .ok () W3 ∧
      Fr (fun k => k = mb) W1 W2 ∧ Fr (fun k => k = mb) W2 W3 ∧ MapIs W3 mb (swapL d i j) := by
  obtain ⟨D, hown, hhas, hat⟩ := h
  have wi := (hwf _ (List.getElem_mem hi)).1
  have wj := (hwf _ (List.getElem_mem hj)).1
  have t0 := hown.tidy keyed28
  obtain ⟨W2, r1, o1, m1⟩ := World.ownsMap.store (w := W1.drew) (H := Unit) hown keyed28 Try.underlying94 (by unfold maxLen; omega) (kl_some wj) (plainElem_int (H := Unit) Try.underlying3 (a := (i : Int)) (WalkArith.wf_i64 (by omega)))
  have t1 := o1.tidy keyed28
  obtain ⟨W3, r2, o2, m2⟩ := World.ownsMap.store (w := W2.drew) (H := Unit) o1 keyed28 Try.underlying94 (by unfold maxLen; omega) (kl_some wi) (plainElem_int (H := Unit) Try.underlying3 (a := (j : Int)) (WalkArith.wf_i64 (by omega)))
  have hi0 : Maps.has D (klP Try.prog d[i].1) = true := (hhas _ wi).2 (List.mem_map.2 ⟨_, List.getElem_mem hi, rfl⟩)
  have hj0 : Maps.has D (klP Try.prog d[j].1) = true := (hhas _ wj).2 (List.mem_map.2 ⟨_, List.getElem_mem hj, rfl⟩)
  have hput : ∀ (D' : DataW Unit) (a b : K) (z : DataW Unit), Maps.IsMap D' → kwf a → kwf b → Maps.has (D'.put (klP Try.prog a) z) (klP Try.prog b) = if b = a then true else Maps.has D' (klP Try.prog b) := fun D' a b z hD ha hb => by
    by_cases e : b = a
    · subst e; rw [if_pos rfl]; exact Maps.has_put_same hD (kl_lit ha) _
    · rw [if_neg e]; exact Maps.has_put_other (fun h => e (kl_inj hb ha h)) _
  have hi1 : Maps.has (D.put (klP Try.prog d[j].1) (num i)) (klP Try.prog d[i].1) = true := by
    rw [hput D _ _ _ t0.isMap wj wi]; split
    · rfl
    · exact hi0
  refine ⟨W2, W3, r1, r2, ?_, ?_, ⟨_, ownsMap_size o2 ?_, ?_, ?_⟩⟩
  · have := (Fr.of_grown (a := W1.drew) m1.grown).wide (S' := fun k => k = mb) (fun k hk => by simpa using hk.symm)
    exact ⟨this.os, this.tape, this.output, this.size, this.block⟩
  · have := (Fr.of_grown (a := W2.drew) m2.grown).wide (S' := fun k => k = mb) (fun k hk => by simpa using hk.symm)
    exact ⟨this.os, this.tape, this.output, this.size, this.block⟩
  · rw [put_size t1 hi1, put_size t0 hj0, swapL_len]; exact hown.size_le
  · intro k hk
    rw [hput _ _ _ _ t1.isMap wi hk, hput _ _ _ _ t0.isMap wj hk]
    have hm : k ∈ (swapL d i j).map Prod.fst ↔ k ∈ d.map Prod.fst := ((swapL_perm d i j hi hj).map Prod.fst).mem_iff
    rw [hm]
    split
    · rename_i e; subst e; simp only [true_iff]; exact List.mem_map.2 ⟨_, List.getElem_mem hi, rfl⟩
    · split
      · rename_i e; subst e; simp only [true_iff]; exact List.mem_map.2 ⟨_, List.getElem_mem hj, rfl⟩
      · exact hhas k hk
  · intro t ht0
    have ht : t < d.length := by rw [swapL_len] at ht0; exact ht0
    have ht' := (hwf _ (List.getElem_mem ht)).1
    rw [swapL_get d i j t hi hj ht]
    by_cases e1 : t = j
    · subst e1
      rw [if_pos rfl]
      exact Maps.atKey_put_same t1.isMap (kl_lit wi) _ _
    · rw [if_neg e1]
      by_cases e2 : t = i
      · subst e2
        rw [if_pos rfl, Maps.atKey_put_other (fun e => e1 (nodup_key hnd ht hj (kl_inj wj wi e).symm)) _ _]
        exact Maps.atKey_put_same t0.isMap (kl_lit wj) _ _
      · rw [if_neg e2, Maps.atKey_put_other (fun e => e2 (nodup_key hnd ht hi (kl_inj ht' wi e))) _ _, Maps.atKey_put_other (fun e => e1 (nodup_key hnd ht hj (kl_inj ht' wj e))) _ _]
        exact hat t ht
end Go.Proofs.Ytkodjioofkdepaa.Q
