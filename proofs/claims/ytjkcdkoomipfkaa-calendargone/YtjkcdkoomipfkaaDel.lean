/- Proved: the contract of slices.Delete at messages, one of them taken out. -/
import Derived.Test.YtjkcdkoomipfkaaIns
import Derived.Test.YtjkcdkoomipfkaaPush
namespace Go.Proofs.Ytjkcdkoomipfkaa
open Go.RowKit Go.Sort Go.Lib
set_option linter.unusedVariables false

theorem zero32 (w : World) : (zeroValue 32).run Try.prog w = .ok (mv ((0, 0, 0), 0, 0, 0)) w := by kernel_rfl
theorem cells_cut {w : World} {g cap i k : Nat} {l : List M} (h : Own w (.slice (some ⟨g, 0, none⟩) (k + 1) cap) l) (hi : i < l.length) : ∃ A : Addr, (if cap = i + 1 then some (⟨g, 0, none⟩ : Addr) else some ⟨g, (i + 1) * 6, none⟩) = some A ∧ ∀ j u, (flat (l.drop (i + 1)))[j]? = some u → w.cell? (A.add j) = some u := by
  obtain ⟨hk, cur, hg, hc1, hc2, hc3, hc4⟩ := h.block
  by_cases e : cap = i + 1
  · refine ⟨⟨g, 0, none⟩, by simp [e], fun j u hj => ?_⟩
    rw [List.drop_of_length_le (by omega)] at hj
    simp [flat] at hj
  · refine ⟨⟨g, (i + 1) * 6, none⟩, by simp [e], fun j u hj => ?_⟩
    rw [Addr.add_lit]
    exact h.cellsFrom (i + 1) j u hj

set_option maxRecDepth 100000 in
set_option maxHeartbeats 2000000 in
theorem sdel_any {w : World} {g k cap i : Nat} {l : List M} (h : Own w (.slice (some ⟨g, 0, none⟩) (k + 1) cap) l) (hlen : l.length ≤ 1000) (hi : i < l.length) :
    Calls Try.prog 62 #[.slice (some ⟨g, 0, none⟩) (k + 1) cap, .int .i64 i, .int .i64 ((i : Int) + 1)] w fun e w' =>
      e = .returned (.slice (some ⟨g, 0, none⟩) k cap) ∧ Own w' (.slice (some ⟨g, 0, none⟩) k cap) (l.take i ++ l.drop (i + 1)) ∧ Fr (fun k => k = g) w w' := by
  have mixed : Try.prog.follows .mixedOrders = true := by kernel_rfl
  obtain ⟨hk, cur, hg, hc1, hc2, hc3, hc4⟩ := h.block
  obtain ⟨A, hA, hsrc⟩ := cells_cut h hi
  obtain ⟨i0, hi0, hz0, hzs, hzb⟩ := info_parts info30
  have hd : (flat (l.drop (i + 1))).length = (k - i) * 6 := by rw [flat_len, List.length_drop]; congr 1; omega
  obtain ⟨row1, hr1⟩ : ∃ row1, row1 = (cur.toList.take (i * 6) ++ (flat (l.drop (i + 1)) ++ cur.toList.drop (i * 6 + (flat (l.drop (i + 1))).length))).toArray := ⟨_, rfl⟩
  have hs1 : row1.size = cap * 6 := by
    rw [hr1]
    simp only [List.size_toArray, List.length_append, List.length_take, List.length_drop, Array.length_toList, hd]
    omega
  have hrun : ∀ ty c, (Builtin.append_ #[44, 44] ty #[.slice (some ⟨g, 0, none⟩) i cap, .slice (some A) (k - i) c]).run Try.prog w.drew = .ok (.slice (some ⟨g, 0, none⟩) k cap) (w.drew.setRow g row1) := fun ty c => by
    have h := run_append_room (P := Try.prog) w.drew 44 ty 32 i0 Try.underlying44 hi0 g i cap cur hg A (k - i) c (flat (l.drop (i + 1))) (by rw [hzs]; exact hd) hsrc (flat_one_cell _) (by omega) (by rw [hzs, hd]; omega)
    rw [hzs, show i + (k - i) = k by omega] at h
    rw [h, hr1, List.append_assoc]
  obtain ⟨W1, hW1⟩ : ∃ W1, W1 = w.drew.setRow g row1 := ⟨_, rfl⟩
  have hg1 : W1.heap[g]? = some (.cells row1 32 (0, 0)) := by rw [hW1]; exact setRow_heap w.drew g cur _ 32 _ hg
  have f1 : Fr (fun k => k = g) w W1 := by rw [hW1]; exact (Fr.refl _ w).drew.then (fr_setRow _ _ _)
  obtain ⟨row2, hs2, ht2, hcl⟩ := run_clear6 (P := Try.prog) W1 44 32 (mv ((0, 0, 0), 0, 0, 0)) Try.underlying44 zero32 rfl (by intro v hv; simp [Value.cells] at hv; rcases hv with rfl | rfl | rfl | rfl | rfl | rfl <;> rfl) g (k * 6) 1 (by omega) row1 32 hg1 (by rw [hs1]; omega)
  have hg2 : (W1.setRow g row2).heap[g]? = some (.cells row2 32 (0, 0)) := setRow_heap W1 g row1 _ 32 _ hg1
  have f2 : Fr (fun k => k = g) w (W1.setRow g row2) := f1.then (fr_setRow _ _ _)
  have hl2 : (l.take i ++ l.drop (i + 1)).length = k := by simp; omega
  have hF : Own (W1.setRow g row2) (.slice (some ⟨g, 0, none⟩) k cap) (l.take i ++ l.drop (i + 1)) := by
    have := own_of_block (w := W1.setRow g row2) (g := g) (cap := cap) (l := l.take i ++ l.drop (i + 1)) hg2 (by omega) hc2 (by rw [hs2, hs1]) ?_
    · rwa [hl2] at this
    · have e1 : cur.toList.take (i * 6) = flat (l.take i) := by rw [flat_take, ← hc4, List.take_take]; congr 1; omega
      have e2 : (flat (l.take i)).length = i * 6 := by rw [flat_len, List.length_take, Nat.min_eq_left (by omega)]
      rw [hl2, ht2 _ (Nat.le_refl _), hr1, flat_append]
      rw [e1, ← List.append_assoc]
      rw [List.take_append_of_le_length (by rw [List.length_append, e2, hd]; omega)]
      rw [List.take_of_length_le (by rw [List.length_append, e2, hd]; omega)]
  obtain ⟨W2, hW2⟩ : ∃ W2, W2 = W1.setRow g row2 := ⟨_, rfl⟩
  rw [← hW2] at hcl hF f2
  rw [← hW1] at hrun
  have HF : Aside _ := hF
  have Hf : Aside _ := f2
  unfold maxLen at hc2
  have hcap : k + 1 ≤ cap := by omega
  clear hF f2 hW2 hg2 hs2 ht2 f1 hg1 hW1 hr1 hs1 hd hsrc hg hc1 hc3 hc4 h hlen
  rw [← hk] at hi
  clear hk
  have h9 : i ≤ cap := by omega
  have h10 : (0 : Int) ≤ (i : Int) + 1 := by omega
  have h1 : (i : Int) ≤ (i : Int) + 1 := by omega
  have h2 : (i : Int) + 1 ≤ (k : Int) + 1 := by omega
  have h3 : (k : Int) + 1 ≤ (cap : Int) := by omega
  have h4 : ¬ ((i : Int) = (i : Int) + 1) := by omega
  have h5 : ((i : Int) + 1).toNat = i + 1 := by omega
  have h6 : (k : Int) ≤ (k : Int) + 1 := by omega
  have h7 : ((k : Int) + 1).toNat = k + 1 := by omega
  have h8 : ¬ (cap = k) := by omega
  by_cases hci : cap = i + 1
  · rw [if_pos hci] at hA
    obtain rfl : A = ⟨g, 0, none⟩ := by simpa using hA.symm
    subst hci
    obtain rfl : i = k := by omega
    rw [Nat.sub_self] at hrun
    clear hA
    go_enter Try.func62, Try.ntmps62
    go_wp2_with fail
    go_region_law (refine step_append_run rfl (.tmp 22) (.tmp 25) 44 rfl (by simp [Act.eval, Act.put]) (by simp [Act.eval, Act.put]) (hrun _ 0) ?_)
    go_wp2
    go_ret
    exact ⟨rfl, HF.out, Hf.out⟩
  · rw [if_neg hci] at hA
    obtain rfl : A = ⟨g, (i + 1) * 6, none⟩ := by simpa using hA.symm
    clear hA
    go_enter Try.func62, Try.ntmps62
    go_wp2_with fail
    go_region_law (refine step_append_run rfl (.tmp 22) (.tmp 25) 44 rfl (by simp [Act.eval, Act.put]) (by simp [Act.eval, Act.put]) (hrun _ (cap - (i + 1))) ?_)
    go_wp2
    go_ret
    exact ⟨rfl, HF.out, Hf.out⟩
end Go.Proofs.Ytjkcdkoomipfkaa
