/- Proved: the contract of Last of a past. -/
import Derived.Test.YtgifanioeeacdaaPa0
import Derived.Laws.ResultCell
namespace Go.Proofs.Ytgifanioeeacdaa
open Go.RowKit Go.Shelf Go.Sort
set_option linter.unusedVariables false

def lastP (L : List P) : P := nthP L (L.length - 1)
theorem out_e0 (N : Nat → Prop) (W : World) : Out N W e0 := ⟨RdN.nil _ _ _ _, by decide⟩
set_option maxRecDepth 100000 in
set_option maxHeartbeats 2000000 in
theorem last_none {X : Nat → Prop} {w : World} {fl : Int} {b : Nat} {v : Value} (h : PP X w fl [] b v) :
    Calls Try.prog 18 #[.pointer (some ⟨b, 0, none⟩)] w fun e w' => e = .returned (.tuple #[ev e0, .bool false]) ∧ Below w.heap.size w w' := by
  obtain ⟨l, hl, hq, hs⟩ := h
  obtain rfl : l = [] := by simpa using hl
  obtain ⟨a, c, rfl, _⟩ := hq.row.rd (N := fun _ => True) (fun _ _ => trivial)
  have c0 := hq.c0
  have hb := hq.lt
  have B1 : (w.alloc (.cells #[.int .i64 0, .int .i64 0, .int .i64 0, .int .i64 0, .int .i64 0, .int .i64 0, .int .i64 0, .int .i64 0, .int .i64 0, .slice none 0 0] 34)).heap[w.heap.size]? = some (.cells #[.int .i64 0, .int .i64 0, .int .i64 0, .int .i64 0, .int .i64 0, .int .i64 0, .int .i64 0, .int .i64 0, .int .i64 0, .slice none 0 0] 34 (0, 0)) := newB _ _
  have HB1 : Hid _ := B1
  clear hq hs hl B1
  go_enter Try.func18, Try.ntmps18
  go_wp2
  refine bodyPost_ret (v := .tuple #[ev e0, .bool false]) (by rw [results_cell_tmp rfl]; simp [asAddr, Result.andThen]; rw [run_loadVar_row _ w.heap.size _ _ _ _ _ HB1.out Try.underlying34 rfl (by kernel_rfl)]; rfl) rfl ⟨rfl, al _ _⟩
set_option maxRecDepth 100000 in
set_option maxHeartbeats 2000000 in
theorem last_some {X : Nat → Prop} {w : World} {fl : Int} {L : List P} {b : Nat} {v : Value} (h : PP X w fl L b v) (hL : L ≠ []) :
    Calls Try.prog 18 #[.pointer (some ⟨b, 0, none⟩)] w fun e w' => ∃ x : E, e = .returned (.tuple #[ev x, .bool true]) ∧ x.p = lastP L ∧ Out (fun k => w.heap.size ≤ k) w' x ∧ Below w.heap.size w w' := by
  obtain ⟨l, hl, hq, hs⟩ := h
  obtain ⟨n, hn⟩ : ∃ n, l.length = n := ⟨_, rfl⟩
  have hLl : L.length = n := by rw [← hl, ← hn]; simp
  have hn0 : 0 < n := by rw [← hLl]; exact List.length_pos_iff.2 hL
  obtain ⟨a, c, rfl, _⟩ := hq.row.rd (N := fun _ => True) (fun _ _ => trivial)
  obtain ⟨j, hj⟩ : ∃ j, n = j + 1 := ⟨n - 1, by omega⟩
  obtain ⟨x', hx'⟩ : ∃ x', nth cE l j = x' := ⟨_, rfl⟩
  have hlast : x'.p = lastP L := by
    unfold lastP
    rw [← hl, nthP_map, List.length_map, hn, hj, ← hx']
    rfl
  obtain ⟨w1, hw1⟩ : ∃ w1, w1 = w.alloc (.cells #[.int .i64 0, .int .i64 0, .int .i64 0, .int .i64 0, .int .i64 0, .int .i64 0, .int .i64 0, .int .i64 0, .int .i64 0, .slice none 0 0] 34) := ⟨_, rfl⟩
  have hb1 : Below w.heap.size w w1 := by rw [hw1]; exact al _ _
  have B1 : w1.heap[w.heap.size]? = some (.cells #[.int .i64 0, .int .i64 0, .int .i64 0, .int .i64 0, .int .i64 0, .int .i64 0, .int .i64 0, .int .i64 0, .int .i64 0, .slice none 0 0] 34 (0, 0)) := by rw [hw1]; exact newB _ _
  have hq1 := hq.below hb1
  have c0 := hq.c0
  rw [hn] at c0
  have hc := copied_any (hq1.outs x' (by rw [← hx']; exact nth_mem (by omega)))
  obtain ⟨g, rfl, hgl, u0, u1, u2, u3, u4, u5, u6, u7, u8, u9⟩ := hq.row.entry (i := j) (by omega) hx'
  have s1 : w1.heap.size = w.heap.size + 1 := by rw [hw1]; simp
  obtain ⟨⟨⟨⟨y1, y2, y3⟩, y4, y5, y6⟩, y7, y8, y9, yos⟩, yoa, yoc⟩ := x'
  obtain ⟨m, hm⟩ : ∃ m, yos.length = m := ⟨_, rfl⟩
  dsimp only [ev] at hc u0 u1 u2 u3 u4 u5 u6 u7 u8 u9
  simp only [hm] at hc u9
  have e1 : (n : Int) - 1 = (j : Int) := by omega
  have e5 : (j : Int) < (n : Int) := by omega
  have e6 : ((n : Int) == 0) = false := by simp; omega
  have e7 : ¬ n = 0 := by omega
  have hcap : n ≤ 64 := by rw [← hn]; exact hq.cap
  have e8 : wrap64 (j : Int) = (j : Int) := by unfold wrap64; omega
  have e9 : j < n := by omega
  have HW : Hid (w1 = w.alloc (.cells #[.int .i64 0, .int .i64 0, .int .i64 0, .int .i64 0, .int .i64 0, .int .i64 0, .int .i64 0, .int .i64 0, .int .i64 0, .slice none 0 0] 34)) := hw1
  have HB : Hid (Below w.heap.size w w1) := hb1
  have HB1 : Hid (w1.heap[w.heap.size]? = some (.cells #[.int .i64 0, .int .i64 0, .int .i64 0, .int .i64 0, .int .i64 0, .int .i64 0, .int .i64 0, .int .i64 0, .int .i64 0, .slice none 0 0] 34 (0, 0))) := B1
  have HS : Hid (w1.heap.size = w.heap.size + 1) := s1
  have HM : Hid (yos.length = m) := hm
  have HLAST : Hid ((⟨((y1, y2, y3), y4, y5, y6), y7, y8, y9, yos⟩ : P) = lastP L) := hlast
  have hbb : b < w1.heap.size := hq1.lt
  have b0 := hq.lt
  clear hq hq1 hs hl hw1 hb1 B1 s1 hm hlast hx' hj hn0 hLl hn hL
  go_enter Try.func18, Try.ntmps18
  go_wp2_with (go_at_call 28; rw [← HW.out]; refine hc.mono ?_; rintro e w3 ⟨oa2, oc2, rfl, ho, hb3⟩; have B3 := (hb3.block _ (by rw [HS.out]; omega)).trans HB1.out; have r0 := cellB B3 0; have r1 := cellB B3 1; have r2 := cellB B3 2; have r3 := cellB B3 3; have r4 := cellB B3 4; have r5 := cellB B3 5; have r6 := cellB B3 6; have r7 := cellB B3 7; have r8 := cellB B3 8; have r9 := cellB B3 9; simp only [List.getElem?_toArray, List.getElem?_cons_zero, List.getElem?_cons_succ] at r0 r1 r2 r3 r4 r5 r6 r7 r8 r9; have fr := frozB B3; have HB4 : Hid (w3.heap[w.heap.size]? = some (.cells #[.int .i64 0, .int .i64 0, .int .i64 0, .int .i64 0, .int .i64 0, .int .i64 0, .int .i64 0, .int .i64 0, .int .i64 0, .slice none 0 0] 34 (0, 0))) := B3; have HO : Hid (Out (fun k => w1.heap.size ≤ k) w3 ⟨⟨((y1, y2, y3), y4, y5, y6), y7, y8, y9, yos⟩, oa2, oc2⟩) := ho; have HBB : Hid (Below w1.heap.size w1 w3) := hb3; clear B3 ho hb3 hc)
  obtain ⟨w4, hw4⟩ : ∃ w4, w4 = ((((((((((w3.setCell ⟨w.heap.size, 0, none⟩ (.int .i64 y1)).setCell ⟨w.heap.size, 1, none⟩ (.int .i64 y2)).setCell ⟨w.heap.size, 2, none⟩ (.int .i64 y3)).setCell ⟨w.heap.size, 3, none⟩ (.int .i64 y4)).setCell ⟨w.heap.size, 4, none⟩ (.int .i64 y5)).setCell ⟨w.heap.size, 5, none⟩ (.int .i64 y6)).setCell ⟨w.heap.size, 6, none⟩ (.int .i64 y7)).setCell ⟨w.heap.size, 7, none⟩ (.int .i64 y8)).setCell ⟨w.heap.size, 8, none⟩ (.int .i64 y9)).setCell ⟨w.heap.size, 9, none⟩ (.slice oa2 m oc2)) := ⟨_, rfl⟩
  have hf : Fr (fun k => k = w.heap.size) w3 w4 := by
    rw [hw4]
    iterate 9 refine Fr.setCell ?_ _ _ (Or.inl rfl)
    exact Fr.setCell (Fr.refl _ _) _ _ (Or.inl rfl)
  have hb4 := set10 (.int .i64 y1) (.int .i64 y2) (.int .i64 y3) (.int .i64 y4) (.int .i64 y5) (.int .i64 y6) (.int .i64 y7) (.int .i64 y8) (.int .i64 y9) (.slice oa2 m oc2) HB4.out
  rw [← hw4] at hb4 ⊢
  have fin : Out (fun k => w.heap.size ≤ k) w4 ⟨⟨((y1, y2, y3), y4, y5, y6), y7, y8, y9, yos⟩, oa2, oc2⟩ := HO.out.keep hf (fun k hk g => by rw [HS.out] at g; exact ⟨by omega, by omega⟩)
  have fin2 : Below w.heap.size w w4 := (Below.on HB.out HBB.out).trans (hf.below (by have := HBB.out.size; rw [HS.out] at this; omega) (fun i e => by omega))
  refine bodyPost_ret (v := .tuple #[.agg #[.int .i64 y1, .int .i64 y2, .int .i64 y3, .int .i64 y4, .int .i64 y5, .int .i64 y6, .int .i64 y7, .int .i64 y8, .int .i64 y9, .slice oa2 m oc2], .bool true]) (by rw [results_cell_tmp rfl]; simp [asAddr, Result.andThen]; rw [run_loadVar_row _ w.heap.size _ _ _ _ _ hb4 Try.underlying34 rfl (by kernel_rfl)]) rfl ?_
  refine ⟨⟨⟨((y1, y2, y3), y4, y5, y6), y7, y8, y9, yos⟩, oa2, oc2⟩, ?_, HLAST.out, fin, fin2⟩
  dsimp only [ev]
  rw [HM.out]
/-- Last, whatever there is. -/
theorem last_any {X : Nat → Prop} {w : World} {fl : Int} {L : List P} {b : Nat} {v : Value} (h : PP X w fl L b v) :
    Calls Try.prog 18 #[.pointer (some ⟨b, 0, none⟩)] w fun e w' => ∃ x : E, e = .returned (.tuple #[ev x, .bool (decide (0 < L.length))]) ∧ x.p = lastP L ∧ Out (fun k => w.heap.size ≤ k) w' x ∧ Below w.heap.size w w' := by
  by_cases e : L = []
  · subst e
    exact (last_none h).mono fun e w' ⟨he, hb⟩ => ⟨e0, by rw [he]; rfl, rfl, out_e0 _ _, hb⟩
  · exact (last_some h e).mono fun e' w' ⟨x, he, hx⟩ => ⟨x, by rw [he, show decide (0 < L.length) = true by simpa using List.length_pos_iff.2 e], hx⟩
end Go.Proofs.Ytgifanioeeacdaa
