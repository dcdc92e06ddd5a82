/- Proved: the contract of the document's Next. -/
import Derived.Test.YtmfcbalhabcodaaGreatDc2
import Derived.BigRegion
import Derived.Deep.RegionLaw
namespace Go.Proofs.YtmfcbalhabcodaaGreat
open Go.RowKit Go.Shelf
set_option linter.unusedVariables false

set_option maxRecDepth 100000 in
set_option maxHeartbeats 1000000 in
theorem dnext_no {w : World} {db : Nat} {D : Wd} {r : Rn} {F : Nat → Prop} (h : DocF db D r w F) (hn : nxt D r = none) :
    Calls Tryz.prog 13 #[.pointer (some ⟨db, 0, none⟩)] w fun e w' => e = .returned (.tuple #[dv zeroD, .bool false]) ∧ Below w.heap.size w w' := by
  have mixed : Tryz.prog.follows .mixedOrders = true := by kernel_rfl
  obtain ⟨sv, qv, tv, uv, hL, _⟩ := h
  obtain ⟨W0, hW0⟩ : ∃ W0, W0 = w.alloc (.cells #[.int .i64 0, .int .i64 0, .int .i64 0, .int .i64 0, .int .i64 0, .int .i64 0, .int .i64 0] 40) := ⟨_, rfl⟩
  have hb0 : Below w.heap.size w W0 := by rw [hW0]; exact al _ _
  have hL0 := hL.below hb0
  obtain ⟨_, _, x2, _, _, x5, _, _⟩ := hL0.cells
  obtain ⟨ta, tc, hta⟩ := shape_of hL0.t
  have hA0 : W0.heap[w.heap.size]? = some (.cells (dcs zeroD) 40 (0, 0)) := by rw [hW0]; exact World.alloc_heap_new w _
  obtain ⟨A, hA⟩ : ∃ A, w.heap.size = A := ⟨_, rfl⟩
  rw [hA] at hA0
  have lA : A < W0.heap.size := (Array.getElem?_eq_some_iff.1 hA0).1
  have ldb : db < W0.heap.size := clt x2
  have HW0 : Hid _ := hW0
  have HB0 : Hid _ := hb0
  have HA0 : Hid _ := hA0
  have HAE : Hid _ := hA
  have fin : ∀ q WF, WF = set7 (W0.drewN q) A zeroD → WF.heap[A]? = some (.cells (dcs zeroD) 40 (0, 0)) ∧ Below w.heap.size w WF := fun q WF e => by
    rw [e]
    refine ⟨set7_heap (W := W0.drewN q) (z := zeroD) HA0.out zeroD, set7_below ((Hid.out HB0).trans (below_drewN _ _ _)) (Nat.le_of_eq HAE.out) _⟩
  have FIN : Hid _ := fin
  obtain ⟨k0, k1, k2, k3, k4, k5, k6, kf⟩ := dn_cells hA0
  dsimp only at k0 k1 k2 k3 k4 k5 k6
  subst hta
  unfold nxt at hn
  cases hwt : r.wt with
  | nil =>
    rw [hwt] at x5
    simp only [List.length_nil] at x5
    clear hL hL0 hn hb0 hA0 hW0 fin hwt
    go_enter Tryz.func13, Tryz.ntmps13
    go_wp2_with fail
    rw [← HW0.out]
    go_quiet (fail)
    go_wp2_with fail
    generalize hwf : World.setCell _ _ _ = WF
    obtain ⟨f1, f2⟩ := (Hid.out FIN) nq WF hwf.symm
    obtain ⟨m0, m1, m2, m3, m4, m5, m6, _⟩ := dn_cells f1
    dsimp only at m0 m1 m2 m3 m4 m5 m6
    exact bodyPost_ret (v := .tuple #[dv zeroD, .bool false]) (by simp [results, Tryz.results13, go_sem, m0, m1, m2, m3, m4, m5, m6]) rfl ⟨rfl, f2⟩
  | cons m rest =>
    rw [hwt] at hn
    have ht : D.en ≤ m.t := by
      by_cases g : D.en ≤ m.t
      · exact g
      · simp [g] at hn
    have ho := hL0.t
    rw [hwt] at ho x5
    obtain ⟨g, hg⟩ := own_some ho (by simp)
    subst hg
    have y0 : W0.cell? ⟨g, 0, none⟩ = some (.int .i64 m.t) := by
      have e1 := World.ownsRow.cellAt ho 0 (by simp)
      rw [e1]; rfl
    have lg : g < W0.heap.size := clt y0
    obtain ⟨n, hn2⟩ : ∃ n, (m :: rest).length = n := ⟨_, rfl⟩
    have hn0 : 0 < n := by rw [← hn2]; simp
    rw [hn2] at x5
    have e1 : ((n : Int) == 0) = false := by simp; omega
    have e2 : m.t ≥ D.en := ht
    have e3 : (0 : Int) < (n : Int) := by omega
    clear hL hL0 hn hb0 hA0 hW0 fin hwt ho hn2
    go_enter Tryz.func13, Tryz.ntmps13
    go_wp2_with fail
    rw [← HW0.out]
    go_quiet (fail)
    go_wp2_with fail
    generalize hwf : World.setCell _ _ _ = WF
    obtain ⟨f1, f2⟩ := (Hid.out FIN) nq WF hwf.symm
    obtain ⟨m0, m1, m2, m3, m4, m5, m6, _⟩ := dn_cells f1
    dsimp only at m0 m1 m2 m3 m4 m5 m6
    exact bodyPost_ret (v := .tuple #[dv zeroD, .bool false]) (by simp [results, Tryz.results13, go_sem, m0, m1, m2, m3, m4, m5, m6]) rfl ⟨rfl, f2⟩

/-- The middle of a step. -/
structure DMid (w0 w : World) (F : Nat → Prop) (db : Nat) (D : Wd) (A MB : Nat) (m : M) (W : World) (st sq : List Int) (wt : List M) (dn : List Dn) (sv qv tv uv : Value) : Prop where
  lay : DLay W db D st sq wt dn sv qv tv uv
  fr : Fr F w W
  b0 : Below w0.heap.size w0 W
  bm : BoxM W MB m
  ba : W.heap[A]? = some (.cells (dcs zeroD) 40 (0, 0))
  lA : w.heap.size ≤ A
  lM : A < MB
theorem DMid.below {w0 w : World} {F : Nat → Prop} {db : Nat} {D : Wd} {A MB : Nat} {m : M} {W W' : World} {st sq : List Int} {wt : List M} {dn : List Dn} {sv qv tv uv : Value} (h : DMid w0 w F db D A MB m W st sq wt dn sv qv tv uv) (hb : Below W.heap.size W W') : DMid w0 w F db D A MB m W' st sq wt dn sv qv tv uv :=
  ⟨h.lay.below hb, h.fr.then (Fr.of_below hb), h.b0.trans (hb.mono h.b0.size), h.bm.below hb, (hb.block A (Array.getElem?_eq_some_iff.1 h.ba).1).trans h.ba, h.lA, h.lM⟩
/-- Something of the run is written, in a block that was there at the step's beginning. -/
theorem DMid.write {w0 w : World} {F : Nat → Prop} {db : Nat} {D : Wd} {A MB : Nat} {m : M} {W W' : World} {st sq st' sq' : List Int} {wt wt' : List M} {dn dn' : List Dn} {sv qv tv uv sv' qv' tv' uv' : Value} (h : DMid w0 w F db D A MB m W st sq wt dn sv qv tv uv) (h2 : DLay W' db D st' sq' wt' dn' sv' qv' tv' uv') (S : Nat → Prop) (hf : Fr S W W') (hS : ∀ k, S k → F k ∧ k < w.heap.size) (hF : ∀ k, F k → w0.heap.size ≤ k) : DMid w0 w F db D A MB m W' st' sq' wt' dn' sv' qv' tv' uv' := by
  have h1 := h.lA
  have h3 := h.lM
  refine ⟨h2, h.fr.then (hf.wide (fun k hk => (hS k hk).1)), h.b0.trans (hf.below h.b0.size (fun k hk => hF k (hS k hk).1)), h.bm.keep hf (fun e => by have := (hS _ e).2; omega), (hf.block A (Array.getElem?_eq_some_iff.1 h.ba).1 (fun e => by have := (hS _ e).2; omega)).trans h.ba, h.lA, h.lM⟩
end Go.Proofs.YtmfcbalhabcodaaGreat
