/- Proved: the contract of slices.Delete of entries. -/
import Derived.Test.YtgifanioeeacdaaEnt
namespace Go.Proofs.Ytgifanioeeacdaa
open Go.RowKit Go.Shelf Go.Sort Go.Lib
set_option linter.unusedVariables false

theorem run_clearK {P : Program} {sz : Nat} (w : World) (t e : TypeId) (z : Value) (ht : P.underlying t = some (.slice e)) (hv : ∀ w, (zeroValue e).run P w = .ok z w) (hz : z.cells.size = sz) (hs0 : 0 < sz) (h1 : ∀ v ∈ z.cells, v.oneCell' = true) (g o n : Nat) (hn : 0 < n)
    (cur : Array Value) (tt : TypeId) (hg : w.heap[g]? = some (.cells cur tt (0, 0))) (hfit : o + n * sz ≤ cur.size) :
    ∃ row : Array Value, row.size = cur.size ∧ (∀ k, k ≤ o → row.toList.take k = cur.toList.take k) ∧ ∀ ty c, (Builtin.clear_ #[t] ty #[.slice (some ⟨g, o, none⟩) n c]).run P w = .ok (.tuple #[]) (w.setRow g row) := by
  obtain ⟨m, rfl⟩ : ∃ m, n = m + 1 := ⟨n - 1, by omega⟩
  have hlen : (Builtin.zeroCells z.cells (m + 1)).toList.length = (m + 1) * sz := by simp [Builtin.zeroCells, hz]
  have hone : ∀ v ∈ (Builtin.zeroCells z.cells (m + 1)).toList, v.oneCell' = true := by
    intro v hv
    simp only [Builtin.zeroCells, Array.toList_map, List.mem_map, Array.mem_toList_iff, Array.mem_range] at hv
    obtain ⟨j, hj, rfl⟩ := hv
    have hj6 : j % z.cells.size < z.cells.size := Nat.mod_lt _ (by omega)
    rw [getElem!_pos z.cells _ hj6]
    exact h1 _ (Array.getElem_mem _)
  have hst := run_storeCells_at P g o tt (Builtin.zeroCells z.cells (m + 1)).toList 0 cur w hg (by rw [hlen]; omega) hone
  simp only [Nat.add_zero] at hst
  refine ⟨_, ?_, ?_, fun ty c => by simp [Builtin.clear_, run_underlying ht, hv, hst]; rfl⟩
  · simp only [List.size_toArray, List.length_append, List.length_take, List.length_drop, Array.length_toList]
    rw [Array.length_toList] at hlen
    omega
  · intro k hk
    rw [List.take_append_of_le_length (by simp; omega), List.take_take, Nat.min_eq_left hk]
theorem zeroE (w : World) : (zeroValue 34).run Try.prog w = .ok (ev e0) w := by kernel_rfl
theorem cells_cut {w : World} {g cap n j : Nat} {l : List E} (h : OwR cE 34 w (.slice (some ⟨g, 0, none⟩) n cap) l) (hj : j ≤ l.length) : ∃ A : Addr, (if cap = j then some (⟨g, 0, none⟩ : Addr) else some ⟨g, j * 10, none⟩) = some A ∧ ∀ i u, (flat cE (l.drop j))[i]? = some u → w.cell? (A.add i) = some u := by
  obtain ⟨hk, cur, hg, hc1, hc2, hc3, hc4⟩ := h.block
  by_cases e : cap = j
  · refine ⟨⟨g, 0, none⟩, by simp [e], fun i u hi => ?_⟩
    rw [List.drop_of_length_le (by omega)] at hi
    simp [flat] at hi
  · refine ⟨⟨g, j * 10, none⟩, by simp [e], fun i u hi => ?_⟩
    rw [Addr.add_lit]
    rw [flat_drop, List.getElem?_drop] at hi
    have hlt : j * 10 + i < l.length * 10 := by
      have := (List.getElem?_eq_some_iff.1 hi).1
      rwa [flat_len] at this
    subst hk
    exact (World.ownsRow.cellAt h _ hlt).trans hi

set_option maxRecDepth 100000 in
set_option maxHeartbeats 2000000 in
theorem sdel_some {w : World} {g n cap i j : Nat} {l : List E} (h : OwR cE 34 w (.slice (some ⟨g, 0, none⟩) n cap) l) (hlen : l.length ≤ 1000) (hij : i < j) (hj : j ≤ l.length) :
    Calls Try.prog 37 #[.slice (some ⟨g, 0, none⟩) n cap, .int .i64 i, .int .i64 j] w fun e w' =>
      e = .returned (.slice (some ⟨g, 0, none⟩) (i + (n - j)) cap) ∧ OwR cE 34 w' (.slice (some ⟨g, 0, none⟩) (i + (n - j)) cap) (l.take i ++ l.drop j) ∧ Fr (fun k => k = g) w w' := by
  have mixed : Try.prog.follows .mixedOrders = true := by kernel_rfl
  obtain ⟨hk, cur, hg, hc1, hc2, hc3, hc4⟩ := h.block
  have hc3' : cur.size = cap * 10 := hc3
  have hc4' : cur.toList.take (l.length * 10) = flat cE l := hc4
  obtain ⟨A, hA, hsrc⟩ := cells_cut h hj
  obtain ⟨i0, hi0, hz0, hzs, hzb⟩ := info_parts tyE.hi
  have hzs' : i0.size = 10 := hzs
  have hd : (flat cE (l.drop j)).length = (n - j) * 10 := by rw [flat_len, List.length_drop, ← hk]; rfl
  obtain ⟨row1, hr1⟩ : ∃ row1, row1 = (cur.toList.take (i * 10) ++ (flat cE (l.drop j) ++ cur.toList.drop (i * 10 + (flat cE (l.drop j)).length))).toArray := ⟨_, rfl⟩
  have hs1 : row1.size = cap * 10 := by
    rw [hr1]
    simp only [List.size_toArray, List.length_append, List.length_take, List.length_drop, Array.length_toList, hd]
    omega
  have hrun : ∀ ty c, (Builtin.append_ #[42, 42] ty #[.slice (some ⟨g, 0, none⟩) i cap, .slice (some A) (n - j) c]).run Try.prog w.drew = .ok (.slice (some ⟨g, 0, none⟩) (i + (n - j)) cap) (w.drew.setRow g row1) := fun ty c => by
    have h := run_append_room (P := Try.prog) w.drew 42 ty 34 i0 Try.underlying42 hi0 g i cap cur hg A (n - j) c (flat cE (l.drop j)) (by rw [hzs']; exact hd) hsrc (flat_one cE _) (by omega) (by rw [hzs', hd]; omega)
    rw [hzs'] at h
    rw [h, hr1, List.append_assoc]
  obtain ⟨W1, hW1⟩ : ∃ W1, W1 = w.drew.setRow g row1 := ⟨_, rfl⟩
  have hg1 : W1.heap[g]? = some (.cells row1 34 (0, 0)) := by rw [hW1]; exact setRow_heap w.drew g cur _ 34 _ hg
  have f1 : Fr (fun k => k = g) w W1 := by rw [hW1]; exact (Fr.refl _ w).drew.then (fr_setRow _ _ _)
  obtain ⟨k, hkk⟩ : ∃ k, i + (n - j) = k := ⟨_, rfl⟩
  obtain ⟨row2, hs2, ht2, hcl⟩ := run_clearK (P := Try.prog) (sz := 10) W1 42 34 (ev e0) Try.underlying42 zeroE rfl (by decide) (by intro v hv; simp [Value.cells] at hv; rcases hv with rfl | rfl | rfl | rfl | rfl | rfl | rfl | rfl | rfl | rfl <;> rfl) g (k * 10) (n - k) (by omega) row1 34 hg1 (by rw [hs1]; omega)
  have hg2 : (W1.setRow g row2).heap[g]? = some (.cells row2 34 (0, 0)) := setRow_heap W1 g row1 _ 34 _ hg1
  have f2 : Fr (fun k => k = g) w (W1.setRow g row2) := f1.then (fr_setRow _ _ _)
  have hl2 : (l.take i ++ l.drop j).length = k := by simp; omega
  have hF : OwR cE 34 (W1.setRow g row2) (.slice (some ⟨g, 0, none⟩) k cap) (l.take i ++ l.drop j) := by
    have := own_of_block (C := cE) (W := W1.setRow g row2) (g := g) (cap := cap) (l := l.take i ++ l.drop j) hg2 (by omega) hc2 (by rw [hs2, hs1]; rfl) ?_
    · rwa [hl2] at this
    · have e1 : cur.toList.take (i * 10) = flat cE (l.take i) := by rw [flat_take, ← hc4', List.take_take]; show _ = List.take (min (i * 10) _) _; congr 1; omega
      have e2 : (flat cE (l.take i)).length = i * 10 := by rw [flat_len, List.length_take, Nat.min_eq_left (by omega)]; rfl
      rw [hl2]
      show row2.toList.take (k * 10) = _
      rw [ht2 _ (Nat.le_refl _), hr1, flat_append]
      rw [e1, ← List.append_assoc]
      rw [List.take_append_of_le_length (by rw [List.length_append, e2, hd]; omega)]
      rw [List.take_of_length_le (by rw [List.length_append, e2, hd]; omega)]
  obtain ⟨W2, hW2⟩ : ∃ W2, W2 = W1.setRow g row2 := ⟨_, rfl⟩
  rw [← hW2] at hcl hF f2
  rw [← hW1] at hrun
  rw [hkk] at hrun ⊢
  have HF : Aside _ := hF
  have Hf : Aside _ := f2
  unfold maxLen at hc2
  rw [← hk] at hj hc1 hlen
  have hcap : n ≤ cap := hc1
  have hkn : k < n := by omega
  clear hF f2 hW2 hg2 hs2 ht2 f1 hg1 hW1 hr1 hs1 hd hsrc hg hc1 hc3 hc4 hc3' hc4' h hk hl2 hzs hzs'
  have h9 : i ≤ cap := by omega
  have h10 : j ≤ cap := by omega
  have h1 : (i : Int) ≤ (j : Int) := by omega
  have h2 : (j : Int) ≤ (n : Int) := by omega
  have h3 : (n : Int) ≤ (cap : Int) := by omega
  have h4 : ¬ ((i : Int) = (j : Int)) := by omega
  have h4' : ((i : Int) == (j : Int)) = false := by simp; omega
  have h6 : (k : Int) ≤ (n : Int) := by omega
  have h8 : ¬ (cap = k) := by omega
  by_cases hci : cap = j
  · rw [if_pos hci] at hA
    obtain rfl : A = ⟨g, 0, none⟩ := by simpa using hA.symm
    subst hci
    obtain rfl : n = cap := by omega
    have hz : n - n = 0 := by omega
    rw [hz] at hrun
    clear hA
    go_enter Try.func37, Try.ntmps37
    go_wp2_with fail
    go_region_law (refine step_append_run rfl (.tmp 22) (.tmp 25) 42 rfl (by simp [Act.eval, Act.put]) (by simp [Act.eval, Act.put]) (hrun _ 0) ?_)
    go_wp2
    go_ret
    exact ⟨rfl, HF.out, Hf.out⟩
  · rw [if_neg hci] at hA
    obtain rfl : A = ⟨g, j * 10, none⟩ := by simpa using hA.symm
    clear hA
    go_enter Try.func37, Try.ntmps37
    go_wp2_with fail
    go_region_law (refine step_append_run rfl (.tmp 22) (.tmp 25) 42 rfl (by simp [Act.eval, Act.put]) (by simp [Act.eval, Act.put]) (hrun _ (cap - j)) ?_)
    go_wp2
    go_ret
    exact ⟨rfl, HF.out, Hf.out⟩
end Go.Proofs.Ytgifanioeeacdaa
