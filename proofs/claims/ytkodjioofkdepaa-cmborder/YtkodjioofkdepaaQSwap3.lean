/- Proved: the contract of the pile's Swap, whole. -/
import Derived.Test.YtkodjioofkdepaaQSwap2
namespace Go.Proofs.Ytkodjioofkdepaa.Q
open Go.RowKit Go.Sort
set_option linter.unusedVariables false
set_option maxRecDepth 100000

theorem fr_mapBlock (w : World) (n g : Nat) (f : Array Value → Array Value) : Fr (fun k => k = g) w (mapBlock (Sort.ahead w n) g f) :=
  ⟨rfl, rfl, rfl, by simp [mapBlock], fun k hk hn => by simp [mapBlock, Array.getElem?_modify, Ne.symm hn]⟩
theorem size_putCells (off : Nat) (F c : Array Value) : (putCells id off F c).size = c.size := by simp [putCells]
/-- A row of the program's own in which other messages, as many, were put. -/
theorem Own.put {w : World} {g cap : Nat} {d d' : List M} (h : Own w (.slice (some ⟨g, 0, none⟩) d.length cap) d) (hl : d'.length = d.length) (n : Nat) : Own (putRowK enc 6 (Sort.ahead w n) g 0 d'.toArray) (.slice (some ⟨g, 0, none⟩) d'.length cap) d' := by
  refine own_of_holds h hl (fun cur hc => ?_) ?_
  · exact mapBlock_shape (Sort.ahead w n) g _ (fun c => size_putCells 0 _ c) cur 36 (0, 0) hc
  · exact holdsK_putRowK enc 6 (Sort.ahead w n) g 0 d.toArray d'.toArray (holdsK_ahead enc 6 w n g 0 _ h.holds) (by simpa using hl)

set_option maxRecDepth 10000 in
set_option maxHeartbeats 400000 in
theorem swap_any {w : World} {pb mb : Nat} {v : Value} {d : List M} (h : IsP w pb mb v d) (i j : Nat) (hi : i < d.length) (hj : j < d.length) :
    Calls Try.prog 113 #[.pointer (some ⟨pb, 0, none⟩), .int .i64 i, .int .i64 j] w fun e w' => e = .returned (.tuple #[]) ∧ IsP w' pb mb v (swapL d i j) ∧ Fr (FP pb mb v) w w' := by
  obtain ⟨g, cap, rfl, hg⟩ := own_nonempty h.own hi
  have hpg : pb ≠ g := fun e => h.nv (by rw [e]; rfl)
  have hmg : mb ≠ g := fun e => h.nm (by rw [e]; rfl)
  have hl := h.len
  have hls := swapL_len d i j
  obtain ⟨W1, hW1⟩ : ∃ W1, W1 = putRowK enc 6 (Sort.ahead w 1) g 0 (swapL d i j).toArray := ⟨_, rfl⟩
  have hW : W1 = (w.drew.setCells g (i * 6) (enc d[j])).setCells g (j * 6) (enc d[i]) := by
    have e := swap_worldK enc 6 enc_len w 0 1 g 0 d.toArray i j (by simpa using hi) (by simpa using hj)
    rw [Sort.ahead_zero, putRowK_self enc 6 w g 0 _ h.own.holds, getElem!_pos d.toArray j (by simpa using hj), getElem!_pos d.toArray i (by simpa using hi)] at e
    simp only [Nat.zero_add, List.getElem_toArray] at e
    rw [hW1]
    have e2 : (swapL d i j).toArray = swp d.toArray i j := by simp [swapL]
    rw [e2]
    exact e.symm
  have fr1 : Fr (fun k => k = g) w W1 := by rw [hW1]; exact fr_mapBlock w 1 g _
  have own1 : Own W1 (.slice (some ⟨g, 0, none⟩) (swapL d i j).length cap) (swapL d i j) := by rw [hW1]; exact h.own.put hls 1
  have map1 : MapIs W1 mb d := h.map.keep fr1 hmg
  obtain ⟨W2, W3, r1, r2, f2, f3, map3⟩ := map1.swapped h.wf h.nd h.len i j hi hj
  have c0' := (fr1.cell (p := ⟨pb, 0, none⟩) (cell_lt h.c0) hpg).trans h.c0
  have c1' := (fr1.cell (p := ⟨pb, 1, none⟩) (cell_lt h.c1) hpg).trans h.c1
  have c0'' := (f2.cell (p := ⟨pb, 0, none⟩) (cell_lt c0') h.ne).trans c0'
  have c1'' := (f2.cell (p := ⟨pb, 1, none⟩) (cell_lt c1') h.ne).trans c1'
  have own2 : Own W2 (.slice (some ⟨g, 0, none⟩) (swapL d i j).length cap) (swapL d i j) := own1.keep f2 (fun g' hg' => by simp [Value.ownBlock] at hg'; subst hg'; exact fun e => hmg e.symm)
  have own3 : Own W3 (.slice (some ⟨g, 0, none⟩) (swapL d i j).length cap) (swapL d i j) := own2.keep f3 (fun g' hg' => by simp [Value.ownBlock] at hg'; subst hg'; exact fun e => hmg e.symm)
  have hfz : ∀ p, w.frozen? ⟨g, p, none⟩ = false := fun p => World.ownsRow.frozenAt h.own p
  have post : IsP W3 pb mb (.slice (some ⟨g, 0, none⟩) d.length cap) (swapL d i j) ∧ Fr (FP pb mb (.slice (some ⟨g, 0, none⟩) d.length cap)) w W3 := by
    have frr : Fr (FP pb mb (.slice (some ⟨g, 0, none⟩) d.length cap)) w W3 :=
      ((fr1.wide (S' := FP pb mb (.slice (some ⟨g, 0, none⟩) d.length cap)) (fun k hk => by subst hk; exact .inr (.inr rfl))).then (f2.wide (fun k hk => .inr (.inl hk)))).then (f3.wide (fun k hk => .inr (.inl hk)))
    refine ⟨⟨(f3.cell (p := ⟨pb, 0, none⟩) (cell_lt c0'') h.ne).trans c0'', (f3.cell (p := ⟨pb, 1, none⟩) (cell_lt c1'') h.ne).trans c1'', ?_, by rw [← hls]; exact own3, map3, h.ne, h.nv, h.nm, ?_, ?_, by rw [hls]; exact hl⟩, frr⟩
    · exact ((f3.frozen (p := ⟨pb, 0, none⟩) (cell_lt c0'') h.ne).trans ((f2.frozen (p := ⟨pb, 0, none⟩) (cell_lt c0') h.ne).trans (fr1.frozen (p := ⟨pb, 0, none⟩) (cell_lt h.c0) hpg))).trans h.f0
    · exact fun m hm => h.wf m ((swapL_mem d i j hi hj m).1 hm)
    · exact (((swapL_perm d i j hi hj).map Prod.fst).nodup_iff).2 h.nd
  obtain ⟨x, hx⟩ : ∃ x, d[i] = x := ⟨_, rfl⟩
  obtain ⟨y, hy⟩ : ∃ y, d[j] = y := ⟨_, rfl⟩
  rw [hx, hy] at hW
  rw [hy] at r1
  rw [hx] at r2
  obtain ⟨x0, x1, x2, x3, x4, x5⟩ := own_cell h.own hi hx
  obtain ⟨y0, y1, y2, y3, y4, y5⟩ := own_cell h.own hj hy
  by_cases hij : i = j
  · subst hij
    have hxy : y = x := hy.symm.trans hx
    subst hxy
    have gi : (swapL d i i)[i]'(by rw [hls]; exact hi) = y := by rw [swapL_get d i i i hi hi hi, if_pos rfl, hy]
    obtain ⟨u0, u1, u2, _, _, _⟩ := own_cell own1 (by rw [hls]; exact hi) gi
    obtain ⟨v0, v1, v2, _, _, _⟩ := own_cell own2 (by rw [hls]; exact hi) gi
    exact (swap_raw_same (n := d.length) hl (by omega) h.c0 hpg x0 x1 x2 x3 x4 x5 hfz (show Hid _ from hW) c0' c1' u0 u1 u2 r1 c0'' c1'' v0 v1 v2 r2).mono fun e w' ⟨he, hw⟩ => ⟨he, by rw [hw]; exact post⟩
  · have gi : (swapL d i j)[i]'(by rw [hls]; exact hi) = y := by rw [swapL_get d i j i hi hj hi, if_neg hij, if_pos rfl, hy]
    have gj : (swapL d i j)[j]'(by rw [hls]; exact hj) = x := by rw [swapL_get d i j j hi hj hj, if_pos rfl, hx]
    obtain ⟨u0, u1, u2, _, _, _⟩ := own_cell own1 (by rw [hls]; exact hi) gi
    obtain ⟨v0, v1, v2, _, _, _⟩ := own_cell own2 (by rw [hls]; exact hj) gj
    exact (swap_raw (n := d.length) hij hl (by omega) (by omega) h.c0 hpg x0 x1 x2 x3 x4 x5 y0 y1 y2 y3 y4 y5 hfz (show Hid _ from hW) c0' c1' u0 u1 u2 r1 c0'' c1'' v0 v1 v2 r2).mono fun e w' ⟨he, hw⟩ => ⟨he, by rw [hw]; exact post⟩
end Go.Proofs.Ytkodjioofkdepaa.Q
