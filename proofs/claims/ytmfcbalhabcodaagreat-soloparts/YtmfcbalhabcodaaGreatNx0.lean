/- Proved: the contract of Next where there is no next message. -/
import Derived.Test.YtmfcbalhabcodaaGreatRun
import Derived.Test.YtmfcbalhabcodaaGreatKep
import Derived.Deep.QuietTactic
import Derived.BigQuiet
namespace Go.Proofs.YtmfcbalhabcodaaGreat
open Go.RowKit Go.Shelf
set_option linter.unusedVariables false

abbrev zeroD : Dn := ⟨⟨0, 0, 0, 0, 0, 0⟩, 0⟩
/-- A box of what is done, written anew. -/
abbrev set7 (W : World) (A : Nat) (x : Dn) : World := ((((((W.setCell ⟨A, 0, none⟩ (.int .i64 x.m.t)).setCell ⟨A, 1, none⟩ (.int .i64 x.m.fr)).setCell ⟨A, 2, none⟩ (.int .i64 x.m.sq)).setCell ⟨A, 3, none⟩ (.int .i64 x.m.dst)).setCell ⟨A, 4, none⟩ (.int .i64 x.m.cl)).setCell ⟨A, 5, none⟩ (.int .i64 x.m.bd)).setCell ⟨A, 6, none⟩ (.int .i64 x.s)
theorem set7_heap {W : World} {A : Nat} {z : Dn} (h : W.heap[A]? = some (.cells (dcs z) 40 (0, 0))) (x : Dn) : (set7 W A x).heap[A]? = some (.cells (dcs x) 40 (0, 0)) := by
  have e0 := heap_setCell_same W A 0 _ _ (.int .i64 x.m.t) h
  have e1 := heap_setCell_same _ A 1 _ _ (.int .i64 x.m.fr) e0
  have e2 := heap_setCell_same _ A 2 _ _ (.int .i64 x.m.sq) e1
  have e3 := heap_setCell_same _ A 3 _ _ (.int .i64 x.m.dst) e2
  have e4 := heap_setCell_same _ A 4 _ _ (.int .i64 x.m.cl) e3
  have e5 := heap_setCell_same _ A 5 _ _ (.int .i64 x.m.bd) e4
  have e6 := heap_setCell_same _ A 6 _ _ (.int .i64 x.s) e5
  rw [e6]
  simp [dcs]
theorem set7_fr {S : Nat → Prop} {a W : World} {A : Nat} (h : Fr S a W) (hA : S A ∨ a.heap.size ≤ A) (x : Dn) : Fr S a (set7 W A x) :=
  ((((((h.setCellN ⟨A, 0, none⟩ _ hA).setCellN ⟨A, 1, none⟩ _ hA).setCellN ⟨A, 2, none⟩ _ hA).setCellN ⟨A, 3, none⟩ _ hA).setCellN ⟨A, 4, none⟩ _ hA).setCellN ⟨A, 5, none⟩ _ hA).setCellN ⟨A, 6, none⟩ _ hA
theorem set7_below {a W : World} {A n : Nat} (h : Below n a W) (hA : n ≤ A) (x : Dn) : Below n a (set7 W A x) :=
  ((((((h.setCell (p := ⟨A, 0, none⟩) hA _).setCell (p := ⟨A, 1, none⟩) hA _).setCell (p := ⟨A, 2, none⟩) hA _).setCell (p := ⟨A, 3, none⟩) hA _).setCell (p := ⟨A, 4, none⟩) hA _).setCell (p := ⟨A, 5, none⟩) hA _).setCell (p := ⟨A, 6, none⟩) hA _
theorem dn_cells {W : World} {A : Nat} {x : Dn} (h : W.heap[A]? = some (.cells (dcs x) 40 (0, 0))) : W.cell? ⟨A, 0, none⟩ = some (.int .i64 x.m.t) ∧ W.cell? ⟨A, 1, none⟩ = some (.int .i64 x.m.fr) ∧ W.cell? ⟨A, 2, none⟩ = some (.int .i64 x.m.sq) ∧ W.cell? ⟨A, 3, none⟩ = some (.int .i64 x.m.dst) ∧ W.cell? ⟨A, 4, none⟩ = some (.int .i64 x.m.cl) ∧ W.cell? ⟨A, 5, none⟩ = some (.int .i64 x.m.bd) ∧ W.cell? ⟨A, 6, none⟩ = some (.int .i64 x.s) ∧ ∀ j, W.frozen? ⟨A, j, none⟩ = false := by
  refine ⟨?_, ?_, ?_, ?_, ?_, ?_, ?_, fun j => ?_⟩ <;> simp [World.cell?, World.frozen?, h, dcs]
theorem al_drewN (w : World) (o : Obj) (n : Nat) : Below w.heap.size w ((w.alloc o).drewN n) := (al w o).trans (below_drewN _ _ _)
set_option maxRecDepth 100000 in
set_option maxHeartbeats 1000000 in
theorem next_empty {w : World} {rb : Nat} {D : Wd} {r : Rn} {F : Nat → Prop} (h : RunF rb D r w F) (hn : r.wt = []) :
    Calls Tryz.prog 12 #[.pointer (some ⟨rb, 0, none⟩)] w fun e w' => e = .returned (.tuple #[dv zeroD, .bool false]) ∧ Below w.heap.size w w' := by
  have mixed : Tryz.prog.follows .mixedOrders = true := by kernel_rfl
  obtain ⟨lo, hi, D', fv, pv, pb, E, hR, _⟩ := h
  obtain ⟨W0, hW0⟩ : ∃ W0, W0 = w.alloc (.cells #[.int .i64 0, .int .i64 0, .int .i64 0, .int .i64 0, .int .i64 0, .int .i64 0, .int .i64 0] 40) := ⟨_, rfl⟩
  have hb0 : Below w.heap.size w W0 := by rw [hW0]; exact al _ _
  have hL := hR.lay.below hb0
  rw [hn] at hL
  obtain ⟨_, _, _, _, x4⟩ := hL.cellsR
  have P := first_none hL.pil
  have hA : W0.heap[w.heap.size]? = some (.cells #[.int .i64 0, .int .i64 0, .int .i64 0, .int .i64 0, .int .i64 0, .int .i64 0, .int .i64 0] 40 (0, 0)) := by rw [hW0]; exact World.alloc_heap_new w _
  have HA : Hid (∀ W, Below W0.heap.size W0 W → W.heap[w.heap.size]? = some (.cells #[.int .i64 0, .int .i64 0, .int .i64 0, .int .i64 0, .int .i64 0, .int .i64 0, .int .i64 0] 40 (0, 0))) := fun W hW => (hW.block _ (Array.getElem?_eq_some_iff.1 hA).1).trans hA
  have HB0 : Hid _ := hb0
  have HW0 : Hid _ := hW0
  obtain ⟨A, hAe⟩ : ∃ A, w.heap.size = A := ⟨_, rfl⟩
  have HAE : Hid _ := hAe
  rw [hW0] at x4 P
  dsimp only [mv] at P
  clear hL hR hn hb0 hA hW0
  go_enter Tryz.func12, Tryz.ntmps12
  go_wp2_with fail
  refine P.mono ?_
  rintro e w1 ⟨rfl, hb1⟩
  rw [← HW0.out] at hb1
  have hA1 := HA.out w1 hb1
  rw [hAe] at hA1
  have lA : A < w1.heap.size := (Array.getElem?_eq_some_iff.1 hA1).1
  obtain ⟨fA, _⟩ := box7 hA1
  have k0 : w1.cell? ⟨A, 0, none⟩ = some (.int .i64 0) := by simp [World.cell?, hA1]
  have k1 : w1.cell? ⟨A, 1, none⟩ = some (.int .i64 0) := by simp [World.cell?, hA1]
  have k2 : w1.cell? ⟨A, 2, none⟩ = some (.int .i64 0) := by simp [World.cell?, hA1]
  have k3 : w1.cell? ⟨A, 3, none⟩ = some (.int .i64 0) := by simp [World.cell?, hA1]
  have k4 : w1.cell? ⟨A, 4, none⟩ = some (.int .i64 0) := by simp [World.cell?, hA1]
  have k5 : w1.cell? ⟨A, 5, none⟩ = some (.int .i64 0) := by simp [World.cell?, hA1]
  have k6 : w1.cell? ⟨A, 6, none⟩ = some (.int .i64 0) := by simp [World.cell?, hA1]
  have HB1 : Hid _ := hb1
  have HA1 : Hid _ := hA1
  clear hb1 P x4 hA1
  go_wp2_with fail
  go_quiet (fail)
  go_wp2_with fail
  generalize hwf : World.setCell _ _ _ = WF
  have hWF : WF = set7 ((w1.alloc (.cells #[.int .i64 0, .int .i64 0, .int .i64 0, .int .i64 0, .int .i64 0, .int .i64 0] 38)).drewN nq) A zeroD := hwf.symm
  have hX : ((w1.alloc (.cells #[.int .i64 0, .int .i64 0, .int .i64 0, .int .i64 0, .int .i64 0, .int .i64 0] 38)).drewN nq).heap[A]? = some (.cells (dcs zeroD) 40 (0, 0)) := ((al_drewN w1 _ _).block A lA).trans HA1.out
  have hF := set7_heap hX zeroD
  rw [← hWF] at hF
  obtain ⟨m0, m1, m2, m3, m4, m5, m6, _⟩ := dn_cells hF
  dsimp only at m0 m1 m2 m3 m4 m5 m6
  have hB : Below w.heap.size w WF := by
    rw [hWF]
    refine set7_below ?_ (Nat.le_of_eq HAE.out) _
    have h1 := (HB0.out).trans ((HB1.out).mono (HB0.out).size)
    exact h1.trans ((al_drewN w1 _ _).mono h1.size)
  exact bodyPost_ret (v := .tuple #[dv zeroD, .bool false]) (by simp [results, Tryz.results12, go_sem, m0, m1, m2, m3, m4, m5, m6]) rfl ⟨rfl, hB⟩

set_option maxRecDepth 100000 in
set_option maxHeartbeats 1000000 in
theorem next_over {w : World} {rb : Nat} {D : Wd} {r : Rn} {F : Nat → Prop} (h : RunF rb D r w F) {m : M} {rest : List M} (hn : r.wt = m :: rest) (ht : D.en ≤ m.t) :
    Calls Tryz.prog 12 #[.pointer (some ⟨rb, 0, none⟩)] w fun e w' => e = .returned (.tuple #[dv zeroD, .bool false]) ∧ Below w.heap.size w w' := by
  have mixed : Tryz.prog.follows .mixedOrders = true := by kernel_rfl
  obtain ⟨lo, hi, D', fv, pv, pb, E, hR, _⟩ := h
  obtain ⟨W0, hW0⟩ : ∃ W0, W0 = w.alloc (.cells #[.int .i64 0, .int .i64 0, .int .i64 0, .int .i64 0, .int .i64 0, .int .i64 0, .int .i64 0] 40) := ⟨_, rfl⟩
  have hb0 : Below w.heap.size w W0 := by rw [hW0]; exact al _ _
  have hL := hR.lay.below hb0
  rw [hn] at hL
  obtain ⟨_, _, x2, _, x4⟩ := hL.cellsR
  have hs : Srt (m :: rest) := by
    have h1 := hR.inv.srt
    unfold allR at h1
    rw [hn] at h1
    exact (List.pairwise_append.1 h1).2.1
  have P := first_some hL.pil hs
  have lrb : rb < W0.heap.size := clt x4
  rw [hR.lik.en] at x2
  have HX2 : Hid (∀ W, Below W0.heap.size W0 W → W.cell? ⟨rb, 2, none⟩ = some (.int .i64 D.en)) := fun W hW => (hW.cell (p := ⟨rb, 2, none⟩) lrb).trans x2
  obtain ⟨t, fr, sq, dst, cl, bd⟩ := m
  dsimp only at ht
  have hA : W0.heap[w.heap.size]? = some (.cells #[.int .i64 0, .int .i64 0, .int .i64 0, .int .i64 0, .int .i64 0, .int .i64 0, .int .i64 0] 40 (0, 0)) := by rw [hW0]; exact World.alloc_heap_new w _
  have HA : Hid (∀ W, Below W0.heap.size W0 W → W.heap[w.heap.size]? = some (.cells #[.int .i64 0, .int .i64 0, .int .i64 0, .int .i64 0, .int .i64 0, .int .i64 0, .int .i64 0] 40 (0, 0))) := fun W hW => (hW.block _ (Array.getElem?_eq_some_iff.1 hA).1).trans hA
  have HB0 : Hid _ := hb0
  have HW0 : Hid _ := hW0
  obtain ⟨A, hAe⟩ : ∃ A, w.heap.size = A := ⟨_, rfl⟩
  have HAE : Hid _ := hAe
  rw [hW0] at x4 P
  dsimp only [mv] at P
  have ht' : t ≥ D.en := ht
  have lr0 := lrb
  rw [HW0.out] at lr0
  clear hL hR hn hb0 hA hW0 hs x2 lrb
  go_enter Tryz.func12, Tryz.ntmps12
  go_wp2_with fail
  refine P.mono ?_
  rintro e w1 ⟨rfl, hb1⟩
  rw [← HW0.out] at hb1
  have hA1 := HA.out w1 hb1
  rw [hAe] at hA1
  have x2 := HX2.out w1 hb1
  have lr1 : rb < w1.heap.size := clt x2
  have lA : A < w1.heap.size := (Array.getElem?_eq_some_iff.1 hA1).1
  obtain ⟨fA, _⟩ := box7 hA1
  have k0 : w1.cell? ⟨A, 0, none⟩ = some (.int .i64 0) := by simp [World.cell?, hA1]
  have k1 : w1.cell? ⟨A, 1, none⟩ = some (.int .i64 0) := by simp [World.cell?, hA1]
  have k2 : w1.cell? ⟨A, 2, none⟩ = some (.int .i64 0) := by simp [World.cell?, hA1]
  have k3 : w1.cell? ⟨A, 3, none⟩ = some (.int .i64 0) := by simp [World.cell?, hA1]
  have k4 : w1.cell? ⟨A, 4, none⟩ = some (.int .i64 0) := by simp [World.cell?, hA1]
  have k5 : w1.cell? ⟨A, 5, none⟩ = some (.int .i64 0) := by simp [World.cell?, hA1]
  have k6 : w1.cell? ⟨A, 6, none⟩ = some (.int .i64 0) := by simp [World.cell?, hA1]
  have HB1 : Hid _ := hb1
  have HA1 : Hid _ := hA1
  clear hb1 P x4 hA1
  go_wp2_with fail
  go_quiet (fail)
  go_wp2_with fail
  generalize hwf : World.setCell _ _ _ = WF
  have hWF : WF = set7 ((w1.alloc (.cells #[.int .i64 t, .int .i64 fr, .int .i64 sq, .int .i64 dst, .int .i64 cl, .int .i64 bd] 38)).drewN nq) A zeroD := hwf.symm
  have hX : ((w1.alloc (.cells #[.int .i64 t, .int .i64 fr, .int .i64 sq, .int .i64 dst, .int .i64 cl, .int .i64 bd] 38)).drewN nq).heap[A]? = some (.cells (dcs zeroD) 40 (0, 0)) := ((al_drewN w1 _ _).block A lA).trans HA1.out
  have hF := set7_heap hX zeroD
  rw [← hWF] at hF
  obtain ⟨m0, m1, m2, m3, m4, m5, m6, _⟩ := dn_cells hF
  dsimp only at m0 m1 m2 m3 m4 m5 m6
  have hB : Below w.heap.size w WF := by
    rw [hWF]
    refine set7_below ?_ (Nat.le_of_eq HAE.out) _
    have h1 := (HB0.out).trans ((HB1.out).mono (HB0.out).size)
    exact h1.trans ((al_drewN w1 _ _).mono h1.size)
  exact bodyPost_ret (v := .tuple #[dv zeroD, .bool false]) (by simp [results, Tryz.results12, go_sem, m0, m1, m2, m3, m4, m5, m6]) rfl ⟨rfl, hB⟩
theorem next_no {w : World} {rb : Nat} {D : Wd} {r : Rn} {F : Nat → Prop} (h : RunF rb D r w F) (hn : nxt D r = none) :
    Calls Tryz.prog 12 #[.pointer (some ⟨rb, 0, none⟩)] w fun e w' => e = .returned (.tuple #[dv zeroD, .bool false]) ∧ Below w.heap.size w w' := by
  unfold nxt at hn
  split at hn
  · rename_i e
    exact next_empty h e
  · rename_i m rest e
    split at hn
    · rename_i g
      exact next_over h e g
    · cases hn
end Go.Proofs.YtmfcbalhabcodaaGreat
