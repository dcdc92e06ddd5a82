/- Proved: the contract of copied: the entry, with what it sent in memory of its own. -/
import Derived.Test.YtgifanioeeacdaaSid
namespace Go.Proofs.Ytgifanioeeacdaa
open Go.RowKit Go.Shelf Go.Sort
set_option linter.unusedVariables false

theorem newB (W : World) (o : Obj) : (W.alloc o).heap[W.heap.size]? = some o := (MapKept.heap_alloc W _).1
theorem frozB {W : World} {b : Nat} {cs : Array Value} {t : TypeId} (h : W.heap[b]? = some (.cells cs t (0, 0))) (i : Nat) : W.frozen? ⟨b, i, none⟩ = false := by simp [World.frozen?, h]
theorem set10 {W : World} {b : Nat} {t : TypeId} {u0 u1 u2 u3 u4 u5 u6 u7 u8 u9 : Value} (v0 v1 v2 v3 v4 v5 v6 v7 v8 v9 : Value) (h : W.heap[b]? = some (.cells #[u0, u1, u2, u3, u4, u5, u6, u7, u8, u9] t (0, 0))) :
    ((((((((((W.setCell ⟨b, 0, none⟩ v0).setCell ⟨b, 1, none⟩ v1).setCell ⟨b, 2, none⟩ v2).setCell ⟨b, 3, none⟩ v3).setCell ⟨b, 4, none⟩ v4).setCell ⟨b, 5, none⟩ v5).setCell ⟨b, 6, none⟩ v6).setCell ⟨b, 7, none⟩ v7).setCell ⟨b, 8, none⟩ v8).setCell ⟨b, 9, none⟩ v9).heap[b]? = some (.cells #[v0, v1, v2, v3, v4, v5, v6, v7, v8, v9] t (0, 0)) := by
  have h0 : (W.setCell ⟨b, 0, none⟩ v0).heap[b]? = some (.cells #[v0, u1, u2, u3, u4, u5, u6, u7, u8, u9] t (0, 0)) := heap_setCell_same _ b 0 _ _ v0 h
  have h1 : ((W.setCell ⟨b, 0, none⟩ v0).setCell ⟨b, 1, none⟩ v1).heap[b]? = some (.cells #[v0, v1, u2, u3, u4, u5, u6, u7, u8, u9] t (0, 0)) := heap_setCell_same _ b 1 _ _ v1 h0
  have h2 : (((W.setCell ⟨b, 0, none⟩ v0).setCell ⟨b, 1, none⟩ v1).setCell ⟨b, 2, none⟩ v2).heap[b]? = some (.cells #[v0, v1, v2, u3, u4, u5, u6, u7, u8, u9] t (0, 0)) := heap_setCell_same _ b 2 _ _ v2 h1
  have h3 : ((((W.setCell ⟨b, 0, none⟩ v0).setCell ⟨b, 1, none⟩ v1).setCell ⟨b, 2, none⟩ v2).setCell ⟨b, 3, none⟩ v3).heap[b]? = some (.cells #[v0, v1, v2, v3, u4, u5, u6, u7, u8, u9] t (0, 0)) := heap_setCell_same _ b 3 _ _ v3 h2
  have h4 : (((((W.setCell ⟨b, 0, none⟩ v0).setCell ⟨b, 1, none⟩ v1).setCell ⟨b, 2, none⟩ v2).setCell ⟨b, 3, none⟩ v3).setCell ⟨b, 4, none⟩ v4).heap[b]? = some (.cells #[v0, v1, v2, v3, v4, u5, u6, u7, u8, u9] t (0, 0)) := heap_setCell_same _ b 4 _ _ v4 h3
  have h5 : ((((((W.setCell ⟨b, 0, none⟩ v0).setCell ⟨b, 1, none⟩ v1).setCell ⟨b, 2, none⟩ v2).setCell ⟨b, 3, none⟩ v3).setCell ⟨b, 4, none⟩ v4).setCell ⟨b, 5, none⟩ v5).heap[b]? = some (.cells #[v0, v1, v2, v3, v4, v5, u6, u7, u8, u9] t (0, 0)) := heap_setCell_same _ b 5 _ _ v5 h4
  have h6 : (((((((W.setCell ⟨b, 0, none⟩ v0).setCell ⟨b, 1, none⟩ v1).setCell ⟨b, 2, none⟩ v2).setCell ⟨b, 3, none⟩ v3).setCell ⟨b, 4, none⟩ v4).setCell ⟨b, 5, none⟩ v5).setCell ⟨b, 6, none⟩ v6).heap[b]? = some (.cells #[v0, v1, v2, v3, v4, v5, v6, u7, u8, u9] t (0, 0)) := heap_setCell_same _ b 6 _ _ v6 h5
  have h7 : ((((((((W.setCell ⟨b, 0, none⟩ v0).setCell ⟨b, 1, none⟩ v1).setCell ⟨b, 2, none⟩ v2).setCell ⟨b, 3, none⟩ v3).setCell ⟨b, 4, none⟩ v4).setCell ⟨b, 5, none⟩ v5).setCell ⟨b, 6, none⟩ v6).setCell ⟨b, 7, none⟩ v7).heap[b]? = some (.cells #[v0, v1, v2, v3, v4, v5, v6, v7, u8, u9] t (0, 0)) := heap_setCell_same _ b 7 _ _ v7 h6
  have h8 : (((((((((W.setCell ⟨b, 0, none⟩ v0).setCell ⟨b, 1, none⟩ v1).setCell ⟨b, 2, none⟩ v2).setCell ⟨b, 3, none⟩ v3).setCell ⟨b, 4, none⟩ v4).setCell ⟨b, 5, none⟩ v5).setCell ⟨b, 6, none⟩ v6).setCell ⟨b, 7, none⟩ v7).setCell ⟨b, 8, none⟩ v8).heap[b]? = some (.cells #[v0, v1, v2, v3, v4, v5, v6, v7, v8, u9] t (0, 0)) := heap_setCell_same _ b 8 _ _ v8 h7
  have h9 : ((((((((((W.setCell ⟨b, 0, none⟩ v0).setCell ⟨b, 1, none⟩ v1).setCell ⟨b, 2, none⟩ v2).setCell ⟨b, 3, none⟩ v3).setCell ⟨b, 4, none⟩ v4).setCell ⟨b, 5, none⟩ v5).setCell ⟨b, 6, none⟩ v6).setCell ⟨b, 7, none⟩ v7).setCell ⟨b, 8, none⟩ v8).setCell ⟨b, 9, none⟩ v9).heap[b]? = some (.cells #[v0, v1, v2, v3, v4, v5, v6, v7, v8, v9] t (0, 0)) := heap_setCell_same _ b 9 _ _ v9 h8
  exact h9
set_option maxRecDepth 100000 in
set_option maxHeartbeats 2000000 in
theorem copied_any {N : Nat → Prop} {x : E} {w : World} (h : Out N w x) :
    Calls Try.prog 28 #[ev x] w fun e w' => ∃ oa oc, e = .returned (ev ⟨x.p, oa, oc⟩) ∧ Out (fun k => w.heap.size ≤ k) w' ⟨x.p, oa, oc⟩ ∧ Below w.heap.size w w' := by
  obtain ⟨⟨⟨⟨a1, a2, a3⟩, a4, a5, a6⟩, a7, a8, a9, os⟩, oa, oc⟩ := x
  obtain ⟨w1, hw1⟩ : ∃ w1, w1 = w.alloc (.cells #[.int .i64 a1, .int .i64 a2, .int .i64 a3, .int .i64 a4, .int .i64 a5, .int .i64 a6, .int .i64 a7, .int .i64 a8, .int .i64 a9, .slice oa os.length oc] 34) := ⟨_, rfl⟩
  obtain ⟨w2, hw2⟩ : ∃ w2, w2 = w1.alloc (.cells #[.int .i64 0, .int .i64 0, .int .i64 0, .int .i64 0, .int .i64 0, .int .i64 0, .int .i64 0, .int .i64 0, .int .i64 0, .slice none 0 0] 34) := ⟨_, rfl⟩
  have s1 : w1.heap.size = w.heap.size + 1 := by rw [hw1]; simp
  have s2 : w2.heap.size = w.heap.size + 2 := by rw [hw2]; simp [s1]
  have b1 : Below w.heap.size w w1 := by rw [hw1]; exact al _ _
  have b2 : Below w1.heap.size w1 w2 := by rw [hw2]; exact al _ _
  have b : Below w.heap.size w w2 := Below.on b1 b2
  have B0 : w2.heap[w.heap.size]? = some (.cells #[.int .i64 a1, .int .i64 a2, .int .i64 a3, .int .i64 a4, .int .i64 a5, .int .i64 a6, .int .i64 a7, .int .i64 a8, .int .i64 a9, .slice oa os.length oc] 34) := by
    rw [b2.block _ (by omega), hw1]; exact newB _ _
  have B1 : w2.heap[w.heap.size + 1]? = some (.cells #[.int .i64 0, .int .i64 0, .int .i64 0, .int .i64 0, .int .i64 0, .int .i64 0, .int .i64 0, .int .i64 0, .int .i64 0, .slice none 0 0] 34) := by
    rw [hw2, ← s1]; exact newB _ _
  have CL : Calls Try.prog 35 #[.slice oa os.length oc] w2 _ := cloneM_any w2 oa oc os (h.1.below b) (by have := h.2; simp at this; omega)
  have hl : os.length ≤ 20 := h.2
  obtain ⟨n, hn⟩ : ∃ n, os.length = n := ⟨_, rfl⟩
  have c9 : w2.cell? ⟨w.heap.size, 9, none⟩ = some (.slice oa os.length oc) := cellB B0 9
  have HB : Hid (Below w.heap.size w w2) := b
  have HB0 : Hid _ := B0
  have HB1 : Hid _ := B1
  have HL : Hid (os.length ≤ 20) := hl
  have HS : Hid (w2.heap.size = w.heap.size + 2) := s2
  have HW : Hid (w2 = (w.alloc (.cells #[.int .i64 a1, .int .i64 a2, .int .i64 a3, .int .i64 a4, .int .i64 a5, .int .i64 a6, .int .i64 a7, .int .i64 a8, .int .i64 a9, .slice oa os.length oc] 34)).alloc (.cells #[.int .i64 0, .int .i64 0, .int .i64 0, .int .i64 0, .int .i64 0, .int .i64 0, .int .i64 0, .int .i64 0, .int .i64 0, .slice none 0 0] 34)) := by rw [hw2, hw1]; exact (rfl : _ = _)
  dsimp only [ev]
  rw [hn] at c9 CL HW HB0 ⊢
  have HNN : Hid (os.length = n) := hn
  clear B0 B1 b b1 b2 hw1 hw2 s1 s2 h hl hn
  go_enter Try.func28, Try.ntmps28
  go_wp2_with (go_at_call 35; rw [← HW.out]; refine CL.mono ?_; rintro e w3 ⟨a', c', rfl, ho, hn, hb⟩; have B0 := (hb.block _ (by rw [HS.out]; omega)).trans HB0.out; have B1 := (hb.block _ (by rw [HS.out]; omega)).trans HB1.out; have d0 := cellB B0 0; have d1 := cellB B0 1; have d2 := cellB B0 2; have d3 := cellB B0 3; have d4 := cellB B0 4; have d5 := cellB B0 5; have d6 := cellB B0 6; have d7 := cellB B0 7; have d8 := cellB B0 8; have d9 := cellB B0 9; have r0 := cellB B1 0; have r1 := cellB B1 1; have r2 := cellB B1 2; have r3 := cellB B1 3; have r4 := cellB B1 4; have r5 := cellB B1 5; have r6 := cellB B1 6; have r7 := cellB B1 7; have r8 := cellB B1 8; have r9 := cellB B1 9; simp only [List.getElem?_toArray, List.getElem?_cons_zero, List.getElem?_cons_succ] at d0 d1 d2 d3 d4 d5 d6 d7 d8 d9 r0 r1 r2 r3 r4 r5 r6 r7 r8 r9; have fd := frozB B0; have fr := frozB B1; have HB4 : Hid _ := B1; have HO : Hid _ := ho; have HNW : Hid _ := hn; have HBB : Hid _ := hb; clear B0 B1 ho hn hb CL c9)
  obtain ⟨w4, hw4⟩ : ∃ w4, w4 = (((((((((((w3.setCell ⟨w.heap.size, 9, none⟩ (.slice a' n c')).setCell ⟨w.heap.size + 1, 0, none⟩ (.int .i64 a1)).setCell ⟨w.heap.size + 1, 1, none⟩ (.int .i64 a2)).setCell ⟨w.heap.size + 1, 2, none⟩ (.int .i64 a3)).setCell ⟨w.heap.size + 1, 3, none⟩ (.int .i64 a4)).setCell ⟨w.heap.size + 1, 4, none⟩ (.int .i64 a5)).setCell ⟨w.heap.size + 1, 5, none⟩ (.int .i64 a6)).setCell ⟨w.heap.size + 1, 6, none⟩ (.int .i64 a7)).setCell ⟨w.heap.size + 1, 7, none⟩ (.int .i64 a8)).setCell ⟨w.heap.size + 1, 8, none⟩ (.int .i64 a9)).setCell ⟨w.heap.size + 1, 9, none⟩ (.slice a' n c')) := ⟨_, rfl⟩
  have hf : Fr (fun k => k = w.heap.size ∨ k = w.heap.size + 1) w3 w4 := by
    rw [hw4]
    iterate 10 refine Fr.setCell ?_ _ _ (Or.inl (Or.inr rfl))
    exact Fr.setCell (Fr.refl _ _) _ _ (Or.inl (Or.inl rfl))
  have HO2 : OwR cM 31 w3 (.slice a' n c') os := HO.out
  rw [← HNN.out] at HO2
  have HN2 : ∀ k, (Value.slice a' n c').ownBlock = some k → w2.heap.size ≤ k := HNW.out
  rw [HS.out] at HN2
  have fin : Out (fun k => w.heap.size ≤ k) w4 ⟨⟨((a1, a2, a3), a4, a5, a6), a7, a8, a9, os⟩, a', c'⟩ := by
    have g := HO2.keep hf (fun g e => by rw [HNN.out] at e; have := HN2 g e; omega)
    exact ⟨g.look.2.wide (fun k _ e => by rw [HNN.out] at e; have := HN2 k e; omega), HL.out⟩
  have fin2 : Below w.heap.size w w4 := (Below.on HB.out HBB.out).trans (hf.below (by have := HBB.out.size; rw [HS.out] at this; omega) (fun i e => by omega))
  have hz : (w3.setCell ⟨w.heap.size, 9, none⟩ (.slice a' n c')).heap[w.heap.size + 1]? = w3.heap[w.heap.size + 1]? := Below.heap_setCell _ _ _ _ (fun e => by simp at e)
  have hb4 := set10 (.int .i64 a1) (.int .i64 a2) (.int .i64 a3) (.int .i64 a4) (.int .i64 a5) (.int .i64 a6) (.int .i64 a7) (.int .i64 a8) (.int .i64 a9) (.slice a' n c') (hz.trans HB4.out)
  rw [← hw4] at hb4 ⊢
  have HF1 : Hid _ := fin
  have HF2 : Hid _ := fin2
  clear fin fin2 hf hw4 HO2 HN2
  refine bodyPost_ret (v := .agg #[.int .i64 a1, .int .i64 a2, .int .i64 a3, .int .i64 a4, .int .i64 a5, .int .i64 a6, .int .i64 a7, .int .i64 a8, .int .i64 a9, .slice a' n c']) (results_cell_row rfl _ _ (w.heap.size + 1) _ _ _ _ rfl hb4 Try.underlying34 rfl (by kernel_rfl)) rfl ?_
  exact ⟨a', c', rfl, HF1.out, HF2.out⟩
end Go.Proofs.Ytgifanioeeacdaa
