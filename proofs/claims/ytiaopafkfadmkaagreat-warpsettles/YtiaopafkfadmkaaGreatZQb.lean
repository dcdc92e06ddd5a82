/- Joined: the texts that follow, each with its own sentence. -/
import Derived.Test.YtiaopafkfadmkaaGreatZQa
import Derived.Deep.RegionLaw
set_option linter.unusedVariables false
set_option maxRecDepth 100000
namespace Go.Proofs.YtiaopafkfadmkaaGreat.Q
open Go.RowKit Go.Sort
theorem fr_mapBlock (w : World) (n g : Nat) (f : Array Value → Array Value) : Fr (fun k => k = g) w (mapBlock (Sort.ahead w n) g f) :=
 ⟨rfl, rfl, rfl, by simp [mapBlock], fun k hk hn => by simp [mapBlock, Array.getElem?_modify, Ne.symm hn]⟩
theorem size_putCells (off : Nat) (F c : Array Value) : (putCells id off F c).size = c.size := by simp [putCells]
theorem Own.put {w : World} {g cap : Nat} {d d' : List M} (h : Own w (.slice (some ⟨g, 0, none⟩) d.length cap) d) (hl : d'.length = d.length) (n : Nat) : Own (putRowK enc 6 (Sort.ahead w n) g 0 d'.toArray) (.slice (some ⟨g, 0, none⟩) d'.length cap) d' := by
 refine own_of_holds h hl (fun cur hc => ?_) ?_
 ·exact mapBlock_shape (Sort.ahead w n) g _ (fun c => size_putCells 0 _ c) cur 39 (0, 0) hc
 ·exact holdsK_putRowK enc 6 (Sort.ahead w n) g 0 d.toArray d'.toArray (holdsK_ahead enc 6 w n g 0 _ h.holds) (by simpa using hl)
set_option maxHeartbeats 400000 in
theorem swap_any {w : World} {pb mb : Nat} {v : Value} {d : List M} (h : IsP w pb mb v d) (i j : Nat) (hi : i < d.length) (hj : j < d.length) :
  Calls Tryz.prog 261 #[.pointer (some ⟨pb, 0, none⟩), .int .i64 i, .int .i64 j] w fun e w' => e = .returned (.tuple #[]) ∧ IsP w' pb mb v (swapL d i j) ∧ Fr (FP pb mb v) w w' := by
 obtain ⟨g, cap, rfl, hg⟩ := own_nonempty h.own hi
 have hpg : pb ≠ g := fun e => h.nv (by rw [e]; rfl)
 have hmg : mb ≠ g := fun e => h.nm (by rw [e]; rfl)
 have hl := h.len
 have hls := swapL_len d i j
 obtain ⟨W1, hW1⟩ : ∃ W1, W1 = putRowK enc 6 (Sort.ahead w 1) g 0 (swapL d i j).toArray := ⟨_, rfl⟩
 have hW : W1 = (w.drew.setCells g (i * 6) (enc d[j])).setCells g (j * 6) (enc d[i]) := by
  have e := swap_worldK enc 6 enc_len w 0 1 g 0 d.toArray i j (by simpa using hi) (by simpa using hj)
  rw [Sort.ahead_zero, putRowK_self enc 6 w g 0 _ h.own.holds, getElem!_pos d.toArray j (by simpa using hj), getElem!_pos d.toArray i (by simpa using hi)] at e
  simp only [Nat.zero_add, List.getElem_toArray] at e
  rw [hW1]
  have e2 : (swapL d i j).toArray = swp d.toArray i j := by simp [swapL]
  rw [e2]
  exact e.symm
 have fr1 : Fr (fun k => k = g) w W1 := by rw [hW1]; exact fr_mapBlock w 1 g _
 have own1 : Own W1 (.slice (some ⟨g, 0, none⟩) (swapL d i j).length cap) (swapL d i j) := by rw [hW1]; exact h.own.put hls 1
 have map1 : MapIs W1 mb d := h.map.keep fr1 hmg
 obtain ⟨W2, W3, r1, r2, f2, f3, map3⟩ := map1.swapped h.wf h.nd h.len i j hi hj
 have c0' := (fr1.cell (p := ⟨pb, 0, none⟩) (cell_lt h.c0) hpg).trans h.c0
 have c1' := (fr1.cell (p := ⟨pb, 1, none⟩) (cell_lt h.c1) hpg).trans h.c1
 have c0'' := (f2.cell (p := ⟨pb, 0, none⟩) (cell_lt c0') h.ne).trans c0'
 have c1'' := (f2.cell (p := ⟨pb, 1, none⟩) (cell_lt c1') h.ne).trans c1'
 have own2 : Own W2 (.slice (some ⟨g, 0, none⟩) (swapL d i j).length cap) (swapL d i j) := own1.keep f2 (fun g' hg' => by simp [Value.ownBlock] at hg'; subst hg'; exact fun e => hmg e.symm)
 have own3 : Own W3 (.slice (some ⟨g, 0, none⟩) (swapL d i j).length cap) (swapL d i j) := own2.keep f3 (fun g' hg' => by simp [Value.ownBlock] at hg'; subst hg'; exact fun e => hmg e.symm)
 have hfz : ∀ p, w.frozen? ⟨g, p, none⟩ = false := fun p => World.ownsRow.frozenAt h.own p
 have post : IsP W3 pb mb (.slice (some ⟨g, 0, none⟩) d.length cap) (swapL d i j) ∧ Fr (FP pb mb (.slice (some ⟨g, 0, none⟩) d.length cap)) w W3 := by
  have frr : Fr (FP pb mb (.slice (some ⟨g, 0, none⟩) d.length cap)) w W3 :=
   ((fr1.wide (S' := FP pb mb (.slice (some ⟨g, 0, none⟩) d.length cap)) (fun k hk => by subst hk; exact .inr (.inr rfl))).then (f2.wide (fun k hk => .inr (.inl hk)))).then (f3.wide (fun k hk => .inr (.inl hk)))
  refine ⟨⟨(f3.cell (p := ⟨pb, 0, none⟩) (cell_lt c0'') h.ne).trans c0'', (f3.cell (p := ⟨pb, 1, none⟩) (cell_lt c1'') h.ne).trans c1'', ?_, by rw [← hls]; exact own3, map3, h.ne, h.nv, h.nm, ?_, ?_, by rw [hls]; exact hl⟩, frr⟩
  ·exact ((f3.frozen (p := ⟨pb, 0, none⟩) (cell_lt c0'') h.ne).trans ((f2.frozen (p := ⟨pb, 0, none⟩) (cell_lt c0') h.ne).trans (fr1.frozen (p := ⟨pb, 0, none⟩) (cell_lt h.c0) hpg))).trans h.f0
  ·exact fun m hm => h.wf m ((swapL_mem d i j hi hj m).1 hm)
  ·exact (((swapL_perm d i j hi hj).map Prod.fst).nodup_iff).2 h.nd
 obtain ⟨x, hx⟩ : ∃ x, d[i] = x := ⟨_, rfl⟩
 obtain ⟨y, hy⟩ : ∃ y, d[j] = y := ⟨_, rfl⟩
 rw [hx, hy] at hW
 rw [hy] at r1
 rw [hx] at r2
 obtain ⟨x0, x1, x2, x3, x4, x5⟩ := own_cell h.own hi hx
 obtain ⟨y0, y1, y2, y3, y4, y5⟩ := own_cell h.own hj hy
 by_cases hij : i = j
 ·subst hij
  have hxy : y = x := hy.symm.trans hx
  subst hxy
  have gi : (swapL d i i)[i]'(by rw [hls]; exact hi) = y := by rw [swapL_get d i i i hi hi hi, if_pos rfl, hy]
  obtain ⟨u0, u1, u2, _, _, _⟩ := own_cell own1 (by rw [hls]; exact hi) gi
  obtain ⟨v0, v1, v2, _, _, _⟩ := own_cell own2 (by rw [hls]; exact hi) gi
  exact (swap_raw_same (n := d.length) hl (by omega) h.c0 hpg x0 x1 x2 x3 x4 x5 hfz (show Hid _ from hW) c0' c1' u0 u1 u2 r1 c0'' c1'' v0 v1 v2 r2).mono fun e w' ⟨he, hw⟩ => ⟨he, by rw [hw]; exact post⟩
 ·have gi : (swapL d i j)[i]'(by rw [hls]; exact hi) = y := by rw [swapL_get d i j i hi hj hi, if_neg hij, if_pos rfl, hy]
  have gj : (swapL d i j)[j]'(by rw [hls]; exact hj) = x := by rw [swapL_get d i j j hi hj hj, if_pos rfl, hx]
  obtain ⟨u0, u1, u2, _, _, _⟩ := own_cell own1 (by rw [hls]; exact hi) gi
  obtain ⟨v0, v1, v2, _, _, _⟩ := own_cell own2 (by rw [hls]; exact hj) gj
  exact (swap_raw (n := d.length) hij hl (by omega) (by omega) h.c0 hpg x0 x1 x2 x3 x4 x5 y0 y1 y2 y3 y4 y5 hfz (show Hid _ from hW) c0' c1' u0 u1 u2 r1 c0'' c1'' v0 v1 v2 r2).mono fun e w' ⟨he, hw⟩ => ⟨he, by rw [hw]; exact post⟩
end Go.Proofs.YtiaopafkfadmkaaGreat.Q
namespace Go.Proofs.YtiaopafkfadmkaaGreat.Q
open Go.RowKit Go.Sort
theorem step_append_run {P : Program} {ops : Array Oper} {o : Oper} {a : Act} {w : World} {K : Act → World → Prop} {Q : Exit → Act → World → Prop} {E : Prop}
  (hg : o.guard = none) (s x : Operand) (t : TypeId) (hop : o.op = Op.call { callee := Callee.builtin Builtin.append, args := #[s, x], argTypes := #[t, t] })
  {v1 v2 v' : Value} {w' : World} (hs : a.eval s = v1) (hx : a.eval x = v2) (hrun : (Builtin.append_ #[t, t] o.type #[v1, v2]).run P w = .ok v' w')
  (hK : K (a.put o.dst v') w') :
  if Region.wanted o (yielded ops a.tmps) = true then Oper.wp P o a w K Q else E := by
 have hw : Region.wanted o (yielded ops a.tmps) = true := by simp [Region.wanted, hg]
 rw [if_pos hw]
 unfold Oper.wp
 simp [execOp, hop, resolve, invoke, builtin, hs, hx, hrun, Result.andThen]
 exact hK
theorem assert30 (x : Value) (w : World) : (Instr.typeAssert (.iface 39 x) 20 39 false).run Tryz.prog w = .ok x w := by
 simp [Instr.typeAssert, run_underlying Tryz.underlying39, Result.andThen]
set_option maxHeartbeats 1000000 in
theorem push_raw {w W0 W1 W2 : World} {pb mb n B C : Nat} {a a' : Option Addr} {cap n' cap' : Nat} {a1 a2 a3 a4 a5 a6 : Int}
  (hl : n ≤ 64) (hB : Hid (B = w.heap.size)) (hC : Hid (C = W1.heap.size)) (hpC : pb < W1.heap.size) (hBC : B < W1.heap.size)
  (hW0 : Hid (W0 = w.alloc (.cells #[.int .i64 a1, .int .i64 a2, .int .i64 a3, .int .i64 a4, .int .i64 a5, .int .i64 a6] 39)))
  (c0 : W0.cell? ⟨pb, 0, none⟩ = some (.slice a n cap)) (c1 : W0.cell? ⟨pb, 1, none⟩ = some (.map (some mb)))
  (x0 : W0.cell? ⟨B, 0, none⟩ = some (.int .i64 a1)) (x1 : W0.cell? ⟨B, 1, none⟩ = some (.int .i64 a2)) (x2 : W0.cell? ⟨B, 2, none⟩ = some (.int .i64 a3))
  (m1 : (Instr.mapUpdate 161 (.map (some mb)) (.agg #[.int .i64 a1, .int .i64 a2, .int .i64 a3]) (.int .i64 n)).run Tryz.prog W0.drew = .ok () W1)
  (d0 : W1.cell? ⟨pb, 0, none⟩ = some (.slice a n cap))
  (y0 : W1.cell? ⟨B, 0, none⟩ = some (.int .i64 a1)) (y1 : W1.cell? ⟨B, 1, none⟩ = some (.int .i64 a2)) (y2 : W1.cell? ⟨B, 2, none⟩ = some (.int .i64 a3))
  (y3 : W1.cell? ⟨B, 3, none⟩ = some (.int .i64 a4)) (y4 : W1.cell? ⟨B, 4, none⟩ = some (.int .i64 a5)) (y5 : W1.cell? ⟨B, 5, none⟩ = some (.int .i64 a6))
  (hrun : (Builtin.append_ #[53, 53] 53 #[.slice a n cap, .slice (some ⟨C, 0, none⟩) 1 1]).run Tryz.prog (W1.alloc (.cells #[.int .i64 a1, .int .i64 a2, .int .i64 a3, .int .i64 a4, .int .i64 a5, .int .i64 a6] 39)).drew = .ok (.slice a' n' cap') W2)
  (e0 : W2.cell? ⟨pb, 0, none⟩ = some (.slice a n cap)) (ef : W2.frozen? ⟨pb, 0, none⟩ = false) :
  Calls Tryz.prog 260 #[.pointer (some ⟨pb, 0, none⟩), .iface 39 (.agg #[.int .i64 a1, .int .i64 a2, .int .i64 a3, .int .i64 a4, .int .i64 a5, .int .i64 a6])] w fun e w' => e = .returned (.tuple #[]) ∧ w' = W2.setCell ⟨pb, 0, none⟩ (.slice a' n' cap') := by
 have mixed : Tryz.prog.follows .mixedOrders = true := by kernel_rfl
 have hta := fun w x => assert30 x w
 have HR : Aside _ := hrun
 clear hrun
 go_enter Tryz.func260, Tryz.ntmps260
 go_wp2_with fail
 have hB' := hB.out
 rw [← hW0.out, ← hB']
 clear hB' hta
 go_region
 clear c0 c1 x0 x1 x2 m1
 go_wp2_with fail
 have hC' := hC.out
 go_region_law (refine step_append_run rfl (.tmp 22) (.tmp 24) 53 rfl (by simp [Act.eval]) (by simp [Act.eval, ← hC']) HR.out ?_)
 all_goals (go_wp2; go_end0; exact ⟨rfl, rfl⟩)
theorem MapIs.pushed {W : World} {mb : Nat} {d : List M} (h : MapIs W mb d) (hwf : ∀ m ∈ d, mwf m) (hlen : d.length < 64) (m : M) (hm : mwf m) (hnew : m.1 ∉ d.map Prod.fst) :
  ∃ W1, (Instr.mapUpdate 161 (.map (some mb)) (kv m.1) (.int .i64 d.length)).run Tryz.prog W.drew = .ok () W1 ∧ Fr (fun k => k = mb) W W1 ∧ MapIs W1 mb (d ++ [m]) := by
 obtain ⟨D, hown, hhas, hat⟩ := h
 have t0 := hown.tidy keyed28
 obtain ⟨W1, r1, o1, m1⟩ := World.ownsMap.store (w := W.drew) (H := Unit) hown keyed28 Tryz.underlying161 (by unfold maxLen; omega) (kl_some hm.1) (plainElem_int (H := Unit) Tryz.underlying3 (a := (d.length : Int)) (WalkArith.wf_i64 (by omega)))
 have hno : Maps.has D (klP Tryz.prog m.1) = false := by
  cases e : Maps.has D (klP Tryz.prog m.1)
  ·rfl
  ·exact absurd ((hhas _ hm.1).1 e) hnew
 refine ⟨W1, r1, ?_, ⟨_, ownsMap_size o1 ?_, ?_, ?_⟩⟩
 ·have := (Fr.of_grown (a := W.drew) m1.grown).wide (S' := fun k => k = mb) (fun k hk => by simpa using hk.symm)
  exact ⟨this.os, this.tape, this.output, this.size, this.block⟩
 ·rw [Maps.size_put t0, if_neg (by simp [hno])]
  have := hown.size_le
  simp; omega
 ·intro k hk
  by_cases e : k = m.1
  ·subst e
   rw [Maps.has_put_same t0.isMap (kl_lit hk)]
   simp
  ·rw [Maps.has_put_other (fun h => e (kl_inj hk hm.1 h)), hhas k hk]
   simp only [List.map_append, List.mem_append, List.map_cons, List.map_nil, List.mem_singleton, e, or_false]
 ·intro i hi
  simp only [List.length_append, List.length_cons, List.length_nil] at hi
  by_cases e : i < d.length
  ·rw [List.getElem_append_left e]
   have wi := (hwf _ (List.getElem_mem e)).1
   rw [Maps.atKey_put_other (fun h => hnew (by rw [← kl_inj wi hm.1 h]; exact List.mem_map.2 ⟨_, List.getElem_mem e, rfl⟩))]
   exact hat i e
  ·have e2 : i = d.length := by omega
   subst e2
   rw [List.getElem_append_right (Nat.le_refl _)]
   simp only [Nat.sub_self, List.getElem_cons_zero]
   exact Maps.atKey_put_same t0.isMap (kl_lit hm.1) _ _
theorem cells_new (w : World) (m : M) (t : TypeId) : ∀ j u, (enc m)[j]? = some u → ((w.alloc (.cells #[.int .i64 m.1.1, .int .i64 m.1.2.1, .int .i64 m.1.2.2, .int .i64 m.2.1, .int .i64 m.2.2.1, .int .i64 m.2.2.2] t)).drew).cell? ((⟨w.heap.size, 0, none⟩ : Addr).add j) = some u := by
 intro j u hj
 have hj6 : j < 6 := by have := (List.getElem?_eq_some_iff.1 hj).1; rwa [enc_len] at this
 rw [Addr.add_lit, World.cell?_drew]
 simp only [World.cell?, heap_alloc_new, Nat.zero_add]
 simpa [enc] using hj
theorem Own.append {w : World} {v : Value} {d : List M} (h : Own w v d) (hlen : d.length ≤ 100000) (m : M) (ty : TypeId) :
  ∃ a' cap' w', (Builtin.append_ #[53, 53] ty #[v, .slice (some ⟨w.heap.size, 0, none⟩) 1 1]).run Tryz.prog (w.alloc (.cells #[.int .i64 m.1.1, .int .i64 m.1.2.1, .int .i64 m.1.2.2, .int .i64 m.2.1, .int .i64 m.2.2.1, .int .i64 m.2.2.2] 39)).drew = .ok (.slice a' (d.length + 1) cap') w' ∧
   Own w' (.slice a' (d.length + 1) cap') (d ++ [m]) ∧ Fr (fun k => v.ownBlock = some k) w w' ∧ (∀ k, (Value.slice a' (d.length + 1) cap').ownBlock = some k → v.ownBlock = some k ∨ w.heap.size ≤ k) := by
 obtain ⟨i0, hi0, hz0, hz1, hz2⟩ := info_parts info30
 have ho : ((w.alloc (.cells #[.int .i64 m.1.1, .int .i64 m.1.2.1, .int .i64 m.1.2.2, .int .i64 m.2.1, .int .i64 m.2.2.1, .int .i64 m.2.2.2] 39)).drew).ownsRow 0 39 6 v d.length (flat d) := h.keep (S := fun _ => False) (((Fr.refl _ w).alloc _).drew) (fun _ _ g => g)
 obtain ⟨v', w', hr, h2, h3, h4, h5⟩ := run_append_own_at (P := Tryz.prog) _ 0 53 ty 39 i0 _ 6 48 Tryz.underlying53 hi0 hz0 hz1 hz2 rfl (by decide) v d.length (flat d) ho ⟨w.heap.size, 0, none⟩ 1 1 (enc m) rfl (cells_new w m 39) (enc_one m) (by unfold maxLen; omega) (by omega) (Nat.zero_le _)
 have h2' : Own w' v' (d ++ [m]) := by unfold Own; rw [flat_append, flat_one]; simpa using h2
 obtain ⟨a', cap', rfl, _⟩ := h2'.rd
 have hl : (d ++ [m]).length = d.length + 1 := by simp
 rw [hl] at hr h2' h5
 refine ⟨a', cap', w', hr, h2', ?_, ?_⟩
 ·have f1 : Fr (fun k => v.ownBlock = some k) w (w.alloc (.cells #[.int .i64 m.1.1, .int .i64 m.1.2.1, .int .i64 m.1.2.2, .int .i64 m.2.1, .int .i64 m.2.2.1, .int .i64 m.2.2.2] 39)).drew := ((Fr.refl _ w).alloc _).drew
  exact f1.then (Fr.of_grown h3)
 ·intro k hk
  rcases h5 with h5 | h5
  ·exact .inl (h5.symm.trans hk)
  ·right
   rw [h5] at hk
   simp at hk
   omega
set_option maxHeartbeats 400000 in
theorem push_any {w : World} {pb mb : Nat} {v : Value} {d : List M} (h : IsP w pb mb v d) (m : M) (hm : mwf m) (hnew : m.1 ∉ d.map Prod.fst) (hlen : d.length < 64) :
  Calls Tryz.prog 260 #[.pointer (some ⟨pb, 0, none⟩), .iface 39 (mv m)] w fun e w' => e = .returned (.tuple #[]) ∧ ∃ v', IsP w' pb mb v' (d ++ [m]) ∧ Fr (FP pb mb v) w w' ∧ (∀ k, FP pb mb v' k → FP pb mb v k ∨ w.heap.size ≤ k) := by
 obtain ⟨W0, hW0⟩ : ∃ W0, W0 = w.alloc (.cells #[.int .i64 m.1.1, .int .i64 m.1.2.1, .int .i64 m.1.2.2, .int .i64 m.2.1, .int .i64 m.2.2.1, .int .i64 m.2.2.2] 39) := ⟨_, rfl⟩
 have f0 : Fr (fun _ => False) w W0 := by rw [hW0]; exact (Fr.refl _ w).alloc _
 have h0 : IsP W0 pb mb v d := h.keep f0 (fun _ _ g => g)
 obtain ⟨W1, r1, f1, map1⟩ := h0.map.pushed h.wf hlen m hm hnew
 have own1 : Own W1 v d := h0.own.keep f1 (fun g hg e => h.nm (by rw [hg, e]))
 obtain ⟨a', cap', W2, hrun, own2, f2, hloc⟩ := own1.append (by omega) m 53
 obtain ⟨a, cap, hv, _⟩ := h.own.rd
 have c0' := (f1.cell (p := ⟨pb, 0, none⟩) (cell_lt h0.c0) h.ne).trans h0.c0
 have c1' := (f1.cell (p := ⟨pb, 1, none⟩) (cell_lt h0.c1) h.ne).trans h0.c1
 have z0' := (f1.frozen (p := ⟨pb, 0, none⟩) (cell_lt h0.c0) h.ne).trans h0.f0
 have c0'' := (f2.cell (p := ⟨pb, 0, none⟩) (cell_lt c0') h.nv).trans c0'
 have c1'' := (f2.cell (p := ⟨pb, 1, none⟩) (cell_lt c1') h.nv).trans c1'
 have z0'' := (f2.frozen (p := ⟨pb, 0, none⟩) (cell_lt c0') h.nv).trans z0'
 have map2 : MapIs W2 mb (d ++ [m]) := map1.keep f2 h.nm
 have hBs : w.heap.size < W0.heap.size := by rw [hW0]; simp
 have xc : ∀ j, j < 6 → W0.cell? ⟨w.heap.size, j, none⟩ = (enc m)[j]? := fun j hj => by
  rw [hW0]
  simp only [World.cell?, heap_alloc_new]
  simp [enc]
 have yc : ∀ j, j < 6 → W1.cell? ⟨w.heap.size, j, none⟩ = (enc m)[j]? := fun j hj => (f1.cell (p := ⟨w.heap.size, j, none⟩) hBs (fun e => by have := h.map.lt; simp at e; omega)).trans (xc j hj)
 subst hv
 have hn1 : ∀ k, (Value.slice a' (d.length + 1) cap').ownBlock = some k → k ≠ pb ∧ k ≠ mb := fun k hk => by
  have hpl := cell_lt h.c0
  have hml := h.map.lt
  have s0 := f0.size
  have s1 := f1.size
  rcases hloc k hk with e | e
  ·exact ⟨fun e2 => h.nv (by rw [e, e2]), fun e2 => h.nm (by rw [e, e2])⟩
  ·exact ⟨by omega, by omega⟩
 refine (push_raw (n := d.length) (n' := d.length + 1) (a' := a') (cap' := cap') (B := w.heap.size) (C := W1.heap.size) (by omega) (show Hid _ from rfl) (show Hid _ from rfl) (cell_lt c0') (Nat.lt_of_lt_of_le hBs f1.size) (show Hid _ from hW0) h0.c0 h0.c1 (xc 0 (by omega)) (xc 1 (by omega)) (xc 2 (by omega)) r1 c0' (yc 0 (by omega)) (yc 1 (by omega)) (yc 2 (by omega)) (yc 3 (by omega)) (yc 4 (by omega)) (yc 5 (by omega)) hrun c0'' z0'').mono fun e w' ⟨he, hw⟩ => ⟨he, .slice a' (d.length + 1) cap', ?_⟩
 subst hw
 have f3 : Fr (fun k => k = pb) W2 (W2.setCell ⟨pb, 0, none⟩ (.slice a' (d.length + 1) cap')) := (Fr.refl _ _).setCell _ _ (.inl rfl)
 refine ⟨⟨World.cell?_setCell_same _ _ _ c0'', ?_, ?_, own2.keep f3 (fun g hg => (hn1 g hg).1), map2.keep f3 (fun e => h.ne e.symm), h.ne, fun e => (hn1 _ e).1 rfl, fun e => (hn1 _ e).2 rfl, ?_, ?_, by simp; omega⟩, ?_, ?_⟩
 ·rw [World.cell?_setCell_other _ _ _ _ (by simp)]; exact c1''
 ·rw [World.frozen?_setCell]; exact z0''
 ·intro x hx
  rcases List.mem_append.1 hx with hx | hx
  ·exact h.wf x hx
  ·simp at hx; subst hx; exact hm
 ·rw [List.map_append]
  refine List.nodup_append.2 ⟨h.nd, by simp, ?_⟩
  intro x hx y hy
  simp at hy
  subst hy
  exact fun e => hnew (by rw [← e]; exact hx)
 ·exact (((f0.wide (S' := FP pb mb (.slice a d.length cap)) (fun _ g => g.elim)).then (f1.wide (fun k hk => .inr (.inl hk)))).then (f2.wide (fun k hk => .inr (.inr hk)))).then (f3.wide (fun k hk => .inl hk))
 ·rintro k (rfl | rfl | hk)
  ·exact .inl (.inl rfl)
  ·exact .inl (.inr (.inl rfl))
  ·rcases hloc k hk with e | e
   ·exact .inl (.inr (.inr e))
   ·right
    have s0 := f0.size
    have s1 := f1.size
    omega
end Go.Proofs.YtiaopafkfadmkaaGreat.Q
namespace Go.Proofs.YtiaopafkfadmkaaGreat.Q
open Go.RowKit Go.Sort
theorem step_delete_run {P : Program} {ops : Array Oper} {o : Oper} {a : Act} {w : World} {K : Act → World → Prop} {Q : Exit → Act → World → Prop} {E : Prop}
  (hg : o.guard = none) (s x : Operand) (t k : TypeId) (hop : o.op = Op.call { callee := Callee.builtin Builtin.delete, args := #[s, x], argTypes := #[t, k] })
  {v1 v2 v' : Value} {w' : World} (hs : a.eval s = v1) (hx : a.eval x = v2) (hrun : (Builtin.delete_ #[t, k] o.type #[v1, v2]).run P w = .ok v' w')
  (hK : K (a.put o.dst v') w') :
  if Region.wanted o (yielded ops a.tmps) = true then Oper.wp P o a w K Q else E := by
 have hw : Region.wanted o (yielded ops a.tmps) = true := by simp [Region.wanted, hg]
 rw [if_pos hw]
 unfold Oper.wp
 simp [execOp, hop, resolve, invoke, builtin, hs, hx, hrun, Result.andThen]
 exact hK
set_option maxHeartbeats 1000000 in
theorem popp_raw {w W0 W1 : World} {pb mb g cap k B : Nat} {a1 a2 a3 a4 a5 a6 : Int}
  (hl : k < 64) (hkc : k + 1 ≤ cap) (hcap : cap ≤ 9223372036854775807) (hp : pb < w.heap.size) (hB : Hid (B = w.heap.size))
  (c0 : w.cell? ⟨pb, 0, none⟩ = some (.slice (some ⟨g, 0, none⟩) (k + 1) cap)) (c1 : w.cell? ⟨pb, 1, none⟩ = some (.map (some mb))) (z0 : w.frozen? ⟨pb, 0, none⟩ = false)
  (x0 : w.cell? ⟨g, k * 6, none⟩ = some (.int .i64 a1)) (x1 : w.cell? ⟨g, k * 6 + 1, none⟩ = some (.int .i64 a2)) (x2 : w.cell? ⟨g, k * 6 + 2, none⟩ = some (.int .i64 a3))
  (x3 : w.cell? ⟨g, k * 6 + 3, none⟩ = some (.int .i64 a4)) (x4 : w.cell? ⟨g, k * 6 + 4, none⟩ = some (.int .i64 a5)) (x5 : w.cell? ⟨g, k * 6 + 5, none⟩ = some (.int .i64 a6))
  (hW0 : Hid (W0 = (w.setCell ⟨pb, 0, none⟩ (.slice (some ⟨g, 0, none⟩) k cap)).alloc (.cells #[.int .i64 a1, .int .i64 a2, .int .i64 a3, .int .i64 a4, .int .i64 a5, .int .i64 a6] 39)))
  (d1 : W0.cell? ⟨pb, 1, none⟩ = some (.map (some mb)))
  (y0 : W0.cell? ⟨B, 0, none⟩ = some (.int .i64 a1)) (y1 : W0.cell? ⟨B, 1, none⟩ = some (.int .i64 a2)) (y2 : W0.cell? ⟨B, 2, none⟩ = some (.int .i64 a3))
  (hrun : (Builtin.delete_ #[161, 37] 0 #[.map (some mb), .agg #[.int .i64 a1, .int .i64 a2, .int .i64 a3]]).run Tryz.prog W0.drew = .ok (.tuple #[]) W1)
  (u0 : W1.cell? ⟨B, 0, none⟩ = some (.int .i64 a1)) (u1 : W1.cell? ⟨B, 1, none⟩ = some (.int .i64 a2)) (u2 : W1.cell? ⟨B, 2, none⟩ = some (.int .i64 a3))
  (u3 : W1.cell? ⟨B, 3, none⟩ = some (.int .i64 a4)) (u4 : W1.cell? ⟨B, 4, none⟩ = some (.int .i64 a5)) (u5 : W1.cell? ⟨B, 5, none⟩ = some (.int .i64 a6)) :
  Calls Tryz.prog 259 #[.pointer (some ⟨pb, 0, none⟩)] w fun e w' => e = .returned (.iface 39 (.agg #[.int .i64 a1, .int .i64 a2, .int .i64 a3, .int .i64 a4, .int .i64 a5, .int .i64 a6])) ∧ w' = W1 := by
 have mixed : Tryz.prog.follows .mixedOrders = true := by kernel_rfl
 have HR : Aside _ := hrun
 clear hrun
 go_enter Tryz.func259, Tryz.ntmps259
 go_wp2_with fail
 have hB' := hB.out
 rw [← hW0.out, ← hB']
 clear hB' x0 x1 x2 x3 x4 x5 c0 c1
 go_region_law (refine step_delete_run rfl (.tmp 30) (.tmp 32) 161 37 rfl (by simp [Act.eval]) (by simp [Act.eval]) HR.out ?_)
 all_goals (go_wp2; go_ret; exact ⟨rfl, rfl⟩)
theorem MapIs.popped {W : World} {mb : Nat} {l : List M} {x : M} (h : MapIs W mb (l ++ [x])) (hwf : ∀ m ∈ l ++ [x], mwf m) (hnd : ((l ++ [x]).map Prod.fst).Nodup) :
  ∃ W1, (Builtin.delete_ #[161, 37] 0 #[.map (some mb), kv x.1]).run Tryz.prog W.drew = .ok (.tuple #[]) W1 ∧ Fr (fun k => k = mb) W W1 ∧ MapIs W1 mb l := by
 obtain ⟨D, hown, hhas, hat⟩ := h
 have t0 := hown.tidy keyed28
 have hx : mwf x := hwf x (by simp)
 obtain ⟨W1, r1, o1, m1⟩ := World.ownsMap.drop (w := W.drew) (H := Unit) hown keyed28 Tryz.underlying161 (kl_some hx.1) 0
 have hxl : x.1 ∉ l.map Prod.fst := by
  rw [List.map_append] at hnd
  intro e
  exact (List.nodup_append.1 hnd).2.2 x.1 e x.1 (by simp) rfl
 have hh : Maps.has D (klP Tryz.prog x.1) = true := (hhas _ hx.1).2 (by simp)
 refine ⟨W1, r1, ?_, ⟨_, ownsMap_size o1 ?_, ?_, ?_⟩⟩
 ·have := (Fr.of_grown (a := W.drew) m1.grown).wide (S' := fun k => k = mb) (fun k hk => by simpa using hk.symm)
  exact ⟨this.os, this.tape, this.output, this.size, this.block⟩
 ·have h1 := Maps.size_del (k := klP Tryz.prog x.1) t0
  rw [if_pos hh] at h1
  have h2 := hown.size_le
  simp at h2
  omega
 ·intro k hk
  by_cases e : k = x.1
  ·subst e
   rw [Maps.has_del_same]
   simpa using hxl
  ·rw [Maps.has_del_other (fun h => e (kl_inj hk hx.1 h)), hhas k hk]
   simp only [List.map_append, List.mem_append, List.map_cons, List.map_nil, List.mem_singleton, e, or_false]
 ·intro i hi
  have wi := (hwf _ (List.mem_append_left _ (List.getElem_mem hi))).1
  rw [Maps.atKey_del_other (fun h => hxl (by rw [← kl_inj wi hx.1 h]; exact List.mem_map.2 ⟨_, List.getElem_mem hi, rfl⟩))]
  have := hat i (by simp; omega)
  rwa [List.getElem_append_left hi] at this
theorem Own.shorter {w : World} {g cap : Nat} {l : List M} {x : M} (h : Own w (.slice (some ⟨g, 0, none⟩) (l.length + 1) cap) (l ++ [x])) : Own w (.slice (some ⟨g, 0, none⟩) l.length cap) l := by
 refine ⟨flat_len l, .inr ?_⟩
 rcases h.2 with ⟨h0, _⟩ | ⟨g', cap', cur, hv, hb, hg, hnc, hcm, hcs, ht⟩
 ·simp at h0
 ·simp at hv
  obtain ⟨rfl, _, rfl⟩ := hv
  simp at hnc
  refine ⟨g, cap, cur, rfl, hb, hg, by omega, hcm, hcs, ?_⟩
  have e := congrArg (fun z => z.take (l.length * 6)) ht
  simp only [List.take_take, flat_append] at e
  rw [Nat.min_eq_left (by simp; omega)] at e
  rw [e, ← flat_len l, List.take_left]
set_option maxHeartbeats 400000 in
theorem popp_any {w : World} {pb mb : Nat} {v : Value} {l : List M} {x : M} (h : IsP w pb mb v (l ++ [x])) :
  Calls Tryz.prog 259 #[.pointer (some ⟨pb, 0, none⟩)] w fun e w' => e = .returned (.iface 39 (mv x)) ∧ ∃ v', IsP w' pb mb v' l ∧ Fr (FP pb mb v) w w' ∧ (∀ k, FP pb mb v' k → FP pb mb v k) := by
 have hlen : (l ++ [x]).length = l.length + 1 := by simp
 obtain ⟨g, cap, hv, hg⟩ := own_nonempty h.own (i := l.length) (by simp)
 rw [hlen] at hv
 subst hv
 have hpg : pb ≠ g := fun e => h.nv (by rw [e]; rfl)
 have hmg : mb ≠ g := fun e => h.nm (by rw [e]; rfl)
 have hown : Own w (.slice (some ⟨g, 0, none⟩) (l ++ [x]).length cap) (l ++ [x]) := by rw [hlen]; exact h.own
 obtain ⟨x0, x1, x2, x3, x4, x5⟩ := own_cell hown (i := l.length) (x := x) (by simp) (by simp)
 obtain ⟨W0, hW0⟩ : ∃ W0, W0 = (w.setCell ⟨pb, 0, none⟩ (.slice (some ⟨g, 0, none⟩) l.length cap)).alloc (.cells #[.int .i64 x.1.1, .int .i64 x.1.2.1, .int .i64 x.1.2.2, .int .i64 x.2.1, .int .i64 x.2.2.1, .int .i64 x.2.2.2] 39) := ⟨_, rfl⟩
 have f0 : Fr (fun k => k = pb) w W0 := by rw [hW0]; exact ((Fr.refl (fun k => k = pb) w).setCell _ _ (.inl rfl)).alloc _
 have map0 : MapIs W0 mb (l ++ [x]) := h.map.keep f0 (fun e => h.ne e.symm)
 have own0 : Own W0 (.slice (some ⟨g, 0, none⟩) l.length cap) l := h.own.shorter.keep f0 (fun g' hg' => by simp [Value.ownBlock] at hg'; subst hg'; exact fun e => hpg e.symm)
 obtain ⟨W1, r1, f1, map1⟩ := map0.popped h.wf h.nd
 have hp := cell_lt h.c0
 have c0' : W0.cell? ⟨pb, 0, none⟩ = some (.slice (some ⟨g, 0, none⟩) l.length cap) := by
  rw [hW0, World.cell?_alloc_lt _ _ _ (by simpa using hp)]; exact World.cell?_setCell_same _ _ _ h.c0
 have c1' : W0.cell? ⟨pb, 1, none⟩ = some (.map (some mb)) := by
  rw [hW0, World.cell?_alloc_lt _ _ _ (by simpa using hp), World.cell?_setCell_other _ _ _ _ (by simp)]; exact h.c1
 have z0' : W0.frozen? ⟨pb, 0, none⟩ = false := by
  have e : W0.heap[pb]? = (w.setCell ⟨pb, 0, none⟩ (.slice (some ⟨g, 0, none⟩) l.length cap)).heap[pb]? := by rw [hW0]; exact Below.heap_alloc _ _ _ (by simpa using hp)
  rw [World.frozen?_of_block (a := ⟨pb, 0, none⟩) e, World.frozen?_setCell]; exact h.f0
 have hBs : w.heap.size < W0.heap.size := by rw [hW0]; simp
 have yc : ∀ j, j < 6 → W0.cell? ⟨w.heap.size, j, none⟩ = (enc x)[j]? := fun j hj => by
  have e : w.heap.size = (w.setCell ⟨pb, 0, none⟩ (.slice (some ⟨g, 0, none⟩) l.length cap)).heap.size := by simp
  rw [hW0]
  conv => lhs; rw [e]
  simp only [World.cell?, heap_alloc_new]
  simp [enc]
 have uc : ∀ j, j < 6 → W1.cell? ⟨w.heap.size, j, none⟩ = (enc x)[j]? := fun j hj => (f1.cell (p := ⟨w.heap.size, j, none⟩) hBs (fun e => by have := h.map.lt; simp at e; omega)).trans (yc j hj)
 have hl := h.len
 have hcc : l.length + 1 ≤ cap ∧ cap ≤ maxLen := by
  rcases h.own.2 with ⟨h0, _⟩ | ⟨g', cap', cur, hv, _, _, hnc, hcm, _⟩
  ·simp at h0
  ·simp at hv
   obtain ⟨_, _, rfl⟩ := hv
   simp at hnc
   exact ⟨hnc, hcm⟩
 unfold maxLen at hcc
 refine (popp_raw (k := l.length) (cap := cap) (B := w.heap.size) (by omega) hcc.1 (by omega) hp (show Hid _ from rfl) h.c0 h.c1 h.f0 x0 x1 x2 x3 x4 x5 (show Hid _ from hW0) c1' (yc 0 (by omega)) (yc 1 (by omega)) (yc 2 (by omega)) r1 (uc 0 (by omega)) (uc 1 (by omega)) (uc 2 (by omega)) (uc 3 (by omega)) (uc 4 (by omega)) (uc 5 (by omega))).mono fun e w' ⟨he, hw⟩ => ⟨he, .slice (some ⟨g, 0, none⟩) l.length cap, ?_⟩
 subst hw
 refine ⟨⟨(f1.cell (p := ⟨pb, 0, none⟩) (cell_lt c0') h.ne).trans c0', (f1.cell (p := ⟨pb, 1, none⟩) (cell_lt c1') h.ne).trans c1', (f1.frozen (p := ⟨pb, 0, none⟩) (cell_lt c0') h.ne).trans z0', own0.keep f1 (fun g' hg' => by simp [Value.ownBlock] at hg'; subst hg'; exact fun e => hmg e.symm), map1, h.ne, h.nv, h.nm, fun m hm => h.wf m (by simp [hm]), ?_, by omega⟩, ?_, ?_⟩
 ·have := h.nd
  rw [List.map_append] at this
  exact (List.nodup_append.1 this).1
 ·exact (f0.wide (S' := FP pb mb (.slice (some ⟨g, 0, none⟩) (l.length + 1) cap)) (fun k hk => .inl hk)).then (f1.wide (fun k hk => .inr (.inl hk)))
 ·rintro k (rfl | rfl | hk)
  ·exact .inl rfl
  ·exact .inr (.inl rfl)
  ·exact .inr (.inr hk)
end Go.Proofs.YtiaopafkfadmkaaGreat.Q
namespace Go.Proofs.YtiaopafkfadmkaaGreat.Q
open Go.RowKit Go.Sort
theorem less_key {w : World} {pb mb : Nat} {v : Value} {d : List M} (h : IsP w pb mb v d) (i j : Nat) (hi : i < d.length) (hj : j < d.length) (a b : Int) (ha : a = i) (hb : b = j) :
  Calls Tryz.prog 258 #[.pointer (some ⟨pb, 0, none⟩), .int .i64 a, .int .i64 b] w fun e w' => e = .returned (.bool (klt (key d i) (key d j))) ∧ Below w.heap.size w w' := by
 subst ha hb
 have e1 : key d i = d[i].1 := by unfold key; rw [nth_get _ _ hi]
 have e2 : key d j = d[j].1 := by unfold key; rw [nth_get _ _ hj]
 rw [e1, e2]
 exact less_any h i j hi hj
theorem swap_key {w : World} {pb mb : Nat} {v : Value} {d : List M} (h : IsP w pb mb v d) (i j : Nat) (hi : i < d.length) (hj : j < d.length) (a b : Int) (ha : a = i) (hb : b = j) :
  Calls Tryz.prog 261 #[.pointer (some ⟨pb, 0, none⟩), .int .i64 a, .int .i64 b] w fun e w' => e = .returned (.tuple #[]) ∧ IsP w' pb mb v (swapL d i j) ∧ Fr (FP pb mb v) w w' := by
 subst ha hb
 exact swap_any h i j hi hj
set_option maxHeartbeats 1000000 in
theorem up_any {w : World} {pb mb : Nat} {v : Value} {d : List M} (h : IsP w pb mb v d) (n j : Nat) (hn : n ≤ d.length) (hj : j < n) (hu : UpOk d n j) :
  Calls Tryz.prog 221 #[.iface 160 (.pointer (some ⟨pb, 0, none⟩)), .int .i64 j] w fun e w' => e = .returned (.tuple #[]) ∧ ∃ d', IsP w' pb mb v d' ∧ Same n d d' ∧ OK d' n ∧ Fr (FP pb mb v) w w' := by
 have hl := h.len
 go_enter Tryz.func221, Tryz.ntmps221
 go_wp2_with fail
 go_loopw [1] (fun sj wr => ∃ (j : Nat) (dk : List M), sj = .int .i64 j ∧ j < n ∧ IsP wr pb mb v dk ∧ Same n d dk ∧ UpOk dk n j ∧ Fr (FP pb mb v) w wr) (fun sj _ => (intOf sj).toNat)
 case atStart => exact ⟨j, d, rfl, hj, h, Same.refl n d, hu, Fr.refl _ w⟩
 case round =>
  obtain ⟨j, dk, rfl, hjn, hp, hs, huk, hfr⟩ := hrel
  have hdl := hs.len
  have hds := hp.len
  by_cases j0 : j = 0
  ·subst j0
   have R : OK dk n := huk.ok (fun h => absurd h (Nat.lt_irrefl 0))
   go_wp2_with fail
   go_end0
   exact ⟨rfl, dk, hp, hs, R, hfr⟩
  ·obtain ⟨i, hi⟩ : ∃ i, i = (j - 1) / 2 := ⟨_, rfl⟩
   have hI : ((j : Int) - 1) / 2 = (i : Int) := by omega
   have hij : i < j := by omega
   have j1 : (1 : Int) ≤ (j : Int) := by omega
   have hne : ¬ ((i : Int) = (j : Int)) := by omega
   have hne2 : ((i : Int) == (j : Int)) = false := by simpa using hne
   have L := less_key hp j i (by omega) (by omega) _ _ rfl rfl
   cases hk : klt (key dk j) (key dk i)
   ·rw [hk] at L
    have R : OK dk n := huk.ok (fun _ => by rw [← hi]; exact hk)
    have HI : Hid (i = (j - 1) / 2) := hi
    clear hi hk
    go_wp2_with (first | (show Calls Tryz.prog 258 _ _ _; refine L.mono ?_; rintro e w' ⟨rfl, hb⟩))
    go_end0
    exact ⟨rfl, dk, hp.below hb, hs, R, hfr.then (Fr.of_below hb)⟩
   ·rw [hk] at L
    have R : UpOk (swapL dk i j) n i := by rw [hi] at hk ⊢; exact up_step (by omega) hjn (by omega) huk hk
    have HI : Hid (i = (j - 1) / 2) := hi
    clear hi hk
    go_wp2_with (first | (show Calls Tryz.prog 258 _ _ _; refine L.mono ?_; rintro e w' ⟨rfl, hb⟩) | (show Calls Tryz.prog 261 _ _ _; refine (swap_key (hp.below hb) i j (by omega) (by omega) _ _ rfl rfl).mono ?_; rintro e w2 ⟨rfl, hp2, hfr2⟩))
    go_roundw
    case rel => exact ⟨i, swapL dk i j, rfl, by omega, hp2, hs.trans (same_swap (by omega) hjn (by omega)), R, (hfr.then (Fr.of_below hb)).then hfr2⟩
    case measure => simp [intOf]; omega
set_option maxHeartbeats 2000000 in
theorem down_any {w : World} {pb mb : Nat} {v : Value} {d : List M} (h : IsP w pb mb v d) (n i0 : Nat) (hn : n ≤ d.length) (hi : i0 ≤ n) (hid : i0 < d.length) (hu : Exc d n i0) :
  Calls Tryz.prog 154 #[.iface 160 (.pointer (some ⟨pb, 0, none⟩)), .int .i64 i0, .int .i64 n] w fun e w' => ∃ b d', e = .returned (.bool b) ∧ IsP w' pb mb v d' ∧ Same n d d' ∧ (b = true → OK d' n) ∧ (b = false → UpOk d' n i0) ∧ Fr (FP pb mb v) w w' := by
 have hl := h.len
 go_enter Tryz.func154, Tryz.ntmps154
 go_wp2_with fail
 go_loopw [7] (fun si wr => ∃ (i : Nat) (dk : List M), si = .int .i64 i ∧ i0 ≤ i ∧ i ≤ n ∧ i < d.length ∧ IsP wr pb mb v dk ∧ Same n d dk ∧ Exc dk n i ∧ (i0 < i → Upper dk i) ∧ Fr (FP pb mb v) w wr) (fun si _ => n - (intOf si).toNat)
 case atStart => exact ⟨i0, d, rfl, Nat.le_refl _, hi, hid, h, Same.refl n d, hu, fun g => absurd g (Nat.lt_irrefl _), Fr.refl _ w⟩
 case round =>
  obtain ⟨i, dk, rfl, hi0, hin, hil, hp, hs, hx, hup, hfr⟩ := hrel
  have hdl := hs.len
  have hds := hp.len
  have fin : ∀ (wr : World), IsP wr pb mb v dk → Fr (FP pb mb v) w wr → (∀ c, 0 < c → c < n → (c - 1) / 2 = i → klt (key dk c) (key dk i) = false) → ∀ b : Bool, b = decide (i0 < i) →
    ∃ b' d', Ending.returned (.bool b) = .returned (.bool b') ∧ IsP wr pb mb v d' ∧ Same n d d' ∧ (b' = true → OK d' n) ∧ (b' = false → UpOk d' n i0) ∧ Fr (FP pb mb v) w wr := fun wr hp' hf' hc b hb => by
   refine ⟨b, dk, rfl, hp', hs, fun e => ?_, fun e => ?_, hf'⟩
   ·rw [hb] at e
    have : i0 < i := by have := of_decide_eq_true e; omega
    exact UpOk.ok ⟨hx, hc⟩ (hup this)
   ·rw [hb] at e
    have : i = i0 := by have := of_decide_eq_false e; omega
    subst this
    exact ⟨hx, hc⟩
  by_cases h1 : 2 * i + 1 < n
  ·have p1 : (0 : Int) ≤ 2 * (i : Int) + 1 := by omega
   have g1 : ¬ (n : Int) ≤ 2 * (i : Int) + 1 := by omega
   have g2 : ¬ (2 * (i : Int) + 1 < 0) := by omega
   have par : ∀ c, 0 < c → (c - 1) / 2 = i → c = 2 * i + 1 ∨ c = 2 * i + 2 := fun c c0 cp => by omega
   -- the lesser one below
   by_cases h2 : 2 * i + 2 < n
   ·have q2 : 2 * (i : Int) + 1 + 1 < (n : Int) := by omega
    have L1 := less_key hp (2 * i + 2) (2 * i + 1) (by omega) (by omega) (2 * (i : Int) + 1 + 1) (2 * (i : Int) + 1) (by omega) (by omega)
    cases hk1 : klt (key dk (2 * i + 2)) (key dk (2 * i + 1))
    ·rw [hk1] at L1
     have L2 := fun (W : World) (hW : IsP W pb mb v dk) => less_key hW (2 * i + 1) i (by omega) (by omega) (2 * (i : Int) + 1) (i : Int) (by omega) rfl
     cases hk2 : klt (key dk (2 * i + 1)) (key dk i)
     ·rw [hk2] at L2
      have FF : Aside _ := fun W hW hF => fin W hW hF (fun c c0 cn cp => by
       rcases par c c0 cp with rfl | rfl
       ·exact hk2
       ·exact kle_trans hk2 hk1)
      clear fin hk2 hk1
      go_wp2_with fail
      refine L1.mono ?_
      rintro e w1 ⟨rfl, hb1⟩
      have hp1 := hp.below hb1
      go_wp2_with fail
      refine (L2 _ hp1).mono ?_
      rintro e w' ⟨rfl, hb⟩
      go_wp2_with fail
      go_ret
      exact FF.out _ (hp1.below hb) ((hfr.then (Fr.of_below hb1)).then (Fr.of_below hb)) _ rfl
     ·rw [hk2] at L2
      obtain ⟨R1, R2⟩ := down_step (j := 2 * i + 1) (by omega) (by omega) (by omega) (by omega) hx (fun c c0 cn cp => by
       rcases par c c0 cp with rfl | rfl
       ·exact klt_irrefl _
       ·exact hk1) hk2
      clear fin hk2 hk1
      go_wp2_with fail
      refine L1.mono ?_
      rintro e w1 ⟨rfl, hb1⟩
      have hp1 := hp.below hb1
      go_wp2_with fail
      refine (L2 _ hp1).mono ?_
      rintro e w' ⟨rfl, hb⟩
      go_wp2_with (show Calls Tryz.prog 261 _ _ _; refine (swap_key (hp1.below hb) i (2 * i + 1) (by omega) (by omega) _ _ rfl (by omega)).mono ?_; rintro e w2 ⟨rfl, hp2, hfr2⟩)
      go_roundw
      case rel => exact ⟨2 * i + 1, swapL dk i (2 * i + 1), by go_num, by omega, by omega, by omega, hp2, hs.trans (same_swap (by omega) (by omega) (by omega)), R1, fun _ => R2, ((hfr.then (Fr.of_below hb1)).then (Fr.of_below hb)).then hfr2⟩
      case measure => simp [intOf]; omega
    ·rw [hk1] at L1
     have L2 := fun (W : World) (hW : IsP W pb mb v dk) => less_key hW (2 * i + 2) i (by omega) (by omega) (2 * (i : Int) + 1 + 1) (i : Int) (by omega) rfl
     cases hk2 : klt (key dk (2 * i + 2)) (key dk i)
     ·rw [hk2] at L2
      have FF : Aside _ := fun W hW hF => fin W hW hF (fun c c0 cn cp => by
       rcases par c c0 cp with rfl | rfl
       ·exact kle_trans hk2 (klt_asymm hk1)
       ·exact hk2)
      clear fin hk2 hk1
      go_wp2_with fail
      refine L1.mono ?_
      rintro e w1 ⟨rfl, hb1⟩
      have hp1 := hp.below hb1
      go_wp2_with fail
      refine (L2 _ hp1).mono ?_
      rintro e w' ⟨rfl, hb⟩
      go_wp2_with fail
      go_ret
      exact FF.out _ (hp1.below hb) ((hfr.then (Fr.of_below hb1)).then (Fr.of_below hb)) _ rfl
     ·rw [hk2] at L2
      obtain ⟨R1, R2⟩ := down_step (j := 2 * i + 2) (by omega) (by omega) (by omega) (by omega) hx (fun c c0 cn cp => by
       rcases par c c0 cp with rfl | rfl
       ·exact klt_asymm hk1
       ·exact klt_irrefl _) hk2
      clear fin hk2 hk1
      go_wp2_with fail
      refine L1.mono ?_
      rintro e w1 ⟨rfl, hb1⟩
      have hp1 := hp.below hb1
      go_wp2_with fail
      refine (L2 _ hp1).mono ?_
      rintro e w' ⟨rfl, hb⟩
      go_wp2_with (show Calls Tryz.prog 261 _ _ _; refine (swap_key (hp1.below hb) i (2 * i + 2) (by omega) (by omega) _ _ rfl (by omega)).mono ?_; rintro e w2 ⟨rfl, hp2, hfr2⟩)
      go_roundw
      case rel => exact ⟨2 * i + 2, swapL dk i (2 * i + 2), by go_num, by omega, by omega, by omega, hp2, hs.trans (same_swap (by omega) (by omega) (by omega)), R1, fun _ => R2, ((hfr.then (Fr.of_below hb1)).then (Fr.of_below hb)).then hfr2⟩
      case measure => simp [intOf]; omega
   ·have q2 : ¬ (2 * (i : Int) + 1 + 1 < (n : Int)) := by omega
    have q3 : decide (2 * (i : Int) + 1 + 1 < (n : Int)) = false := by simpa using q2
    have L2 := fun (W : World) (hW : IsP W pb mb v dk) => less_key hW (2 * i + 1) i (by omega) (by omega) (2 * (i : Int) + 1) (i : Int) (by omega) rfl
    cases hk2 : klt (key dk (2 * i + 1)) (key dk i)
    ·rw [hk2] at L2
     have FF : Aside _ := fun W hW hF => fin W hW hF (fun c c0 cn cp => by
      rcases par c c0 cp with rfl | rfl
      ·exact hk2
      ·omega)
     clear fin hk2
     go_wp2_with (first | (show Calls Tryz.prog 258 _ _ _; refine (L2 _ hp).mono ?_; rintro e w' ⟨rfl, hb⟩))
     go_ret
     exact FF.out _ (hp.below hb) (hfr.then (Fr.of_below hb)) _ rfl
    ·rw [hk2] at L2
     obtain ⟨R1, R2⟩ := down_step (by omega) h1 (by omega) (by omega) hx (fun c c0 cn cp => by
      rcases par c c0 cp with rfl | rfl
      ·exact klt_irrefl _
      ·omega) hk2
     clear fin hk2
     go_wp2_with (first | (show Calls Tryz.prog 258 _ _ _; refine (L2 _ hp).mono ?_; rintro e w' ⟨rfl, hb⟩) | (show Calls Tryz.prog 261 _ _ _; refine (swap_key (hp.below hb) i (2 * i + 1) (by omega) (by omega) _ _ rfl (by omega)).mono ?_; rintro e w2 ⟨rfl, hp2, hfr2⟩))
     go_roundw
     case rel => exact ⟨2 * i + 1, swapL dk i (2 * i + 1), by go_num, by omega, by omega, by omega, hp2, hs.trans (same_swap (by omega) h1 (by omega)), R1, fun _ => R2, (hfr.then (Fr.of_below hb)).then hfr2⟩
     case measure => simp [intOf]; omega
  ·have g1 : (n : Int) ≤ 2 * (i : Int) + 1 := by omega
   have FIN := fin wr hp hfr (fun c c0 cn cp => by omega)
   have FF : Aside _ := FIN
   clear fin FIN
   go_wp2_with fail
   go_ret
   exact FF.out _ rfl
end Go.Proofs.YtiaopafkfadmkaaGreat.Q
namespace Go.Proofs.YtiaopafkfadmkaaGreat.Q
open Go.RowKit Go.Sort
theorem split_last {d : List M} {n : Nat} (h : d.length = n + 1) : d = d.take n ++ [nth d n] := by
 rw [nth_get d n (by omega)]
 have : d.take n ++ [d[n]] = d.take (n + 1) := (List.take_succ_eq_append_getElem (by omega)).symm
 rw [this, List.take_of_length_le (by omega)]
theorem ok_take {d : List M} {n : Nat} (h : OK d n) (hn : n ≤ d.length) : OK (d.take n) (d.take n).length := by
 have hl : (d.take n).length = n := by rw [List.length_take]; omega
 rw [hl]
 have ko : ∀ t, t < n → key (d.take n) t = key d t := fun t ht => by
  unfold key
  rw [nth_get _ _ (by omega), nth_get _ _ (by omega), List.getElem_take]
 intro c c0 cn
 rw [ko c cn, ko _ (by omega)]
 exact h c c0 cn
def After (w : World) (pb mb : Nat) (v : Value) (w' : World) (v' : Value) (d' : List M) : Prop := IsP w' pb mb v' d' ∧ OK d' d'.length ∧ Fr (FP pb mb v) w w' ∧ (∀ k, FP pb mb v' k → FP pb mb v k ∨ w.heap.size ≤ k)
set_option maxHeartbeats 1000000 in
theorem hpush_any {w : World} {pb mb : Nat} {v : Value} {d : List M} (h : IsP w pb mb v d) (ho : OK d d.length) (m : M) (hm : mwf m) (hnew : m.1 ∉ d.map Prod.fst) (hlen : d.length < 64) :
  Calls Tryz.prog 208 #[.iface 160 (.pointer (some ⟨pb, 0, none⟩)), .iface 39 (mv m)] w fun e w' => e = .returned (.tuple #[]) ∧ ∃ v' d', After w pb mb v w' v' d' ∧ d'.Perm (d ++ [m]) := by
 have P := push_any h m hm hnew hlen
 generalize mv m = mm at P ⊢
 go_enter Tryz.func208, Tryz.ntmps208
 go_wp2_with fail
 refine P.mono ?_
 rintro e w1 ⟨rfl, v1, h1, f1, s1⟩
 have hl1 : (d ++ [m]).length = d.length + 1 := by simp
 have L := plen_any h1
 have U := up_any h1 (d ++ [m]).length d.length (Nat.le_refl _) (by simp) (upok_append ho)
 rw [hl1] at L U
 go_wp2_with fail
 refine L.mono ?_
 rintro e w2 ⟨rfl, hw2⟩
 have hw2' := hw2.symm
 subst hw2'
 go_wp2_with fail
 refine U.mono ?_
 rintro e w3 ⟨rfl, d', hp, hs, hok, hf⟩
 go_wp2_with fail
 go_end0
 refine ⟨rfl, v1, d', ⟨hp, by rw [hs.len, hl1]; exact hok, f1.trans hf (fun i hi hk => (s1 i hk).elim id (fun g => by omega)), s1⟩, hs.1⟩
set_option maxHeartbeats 1000000 in
theorem hpop_any {w : World} {pb mb : Nat} {v : Value} {d : List M} (h : IsP w pb mb v d) (ho : OK d d.length) (hne : 0 < d.length) :
  Calls Tryz.prog 111 #[.iface 160 (.pointer (some ⟨pb, 0, none⟩))] w fun e w' => e = .returned (.iface 39 (mv (nth d 0))) ∧ ∃ v' d', After w pb mb v w' v' d' ∧ (d' ++ [nth d 0]).Perm d := by
 obtain ⟨n, hn⟩ : ∃ n, d.length = n + 1 := ⟨d.length - 1, by omega⟩
 have hl := h.len
 have L := plen_any h
 have S := swap_key h 0 n (by omega) (by omega) 0 n rfl rfl
 rw [hn] at L
 have n1 : ((n : Int) + 1) - 1 = n := by omega
 go_enter Tryz.func111, Tryz.ntmps111
 go_wp2_with fail
 refine L.mono ?_
 rintro e w2 ⟨rfl, hw2⟩
 have hw2' := hw2.symm
 subst hw2'
 go_wp2_with fail
 refine S.mono ?_
 rintro e w1 ⟨rfl, h1, f1⟩
 have hl1 : (swapL d 0 n).length = n + 1 := by rw [swapL_len, hn]
 have hexc : Exc (swapL d 0 n) n 0 := by
  by_cases n0 : n = 0
  ·subst n0
   exact ⟨fun c c0 cn => by omega, fun i0 => by omega⟩
  ·exact exc_swap (by omega) (by omega) (by rw [← hn]; exact ho)
 have D := down_any h1 n 0 (by omega) (Nat.zero_le _) (by omega) hexc
 go_wp2_with fail
 refine D.mono ?_
 rintro e w2 ⟨b, d2, rfl, h2, hs, hb1, hb2, f2⟩
 have hok : OK d2 n := by
  cases b
  ·exact (hb2 rfl).ok (fun g => by omega)
  ·exact hb1 rfl
 have hl2 : d2.length = n + 1 := by rw [hs.len, hl1]
 have hx : nth d2 n = nth d 0 := by
  rw [hs.2 n (Nat.le_refl _), nth_swapL d 0 n n (by omega) (by omega), if_pos rfl]
 have e2 := split_last hl2
 rw [hx] at e2
 have h2' := h2
 rw [e2] at h2'
 have PP := popp_any h2'
 have E2 : Hid _ := e2
 clear hx e2 h2'
 go_wp2_with fail
 refine PP.mono ?_
 rintro e w3 ⟨rfl, v', h3, f3, s3⟩
 go_wp2_with fail
 go_ret
 refine ⟨rfl, v', d2.take n, ⟨h3, ok_take hok (by omega), (f1.then f2).trans f3 (fun _ _ g => g), fun k hk => .inl (s3 k hk)⟩, ?_⟩
 rw [← E2.out]
 exact hs.1.trans (swapL_perm d 0 n (by omega) (by omega))
set_option maxHeartbeats 1000000 in
theorem hremove_any {w : World} {pb mb : Nat} {v : Value} {d : List M} (h : IsP w pb mb v d) (ho : OK d d.length) (i : Nat) (hi : i < d.length) :
  Calls Tryz.prog 200 #[.iface 160 (.pointer (some ⟨pb, 0, none⟩)), .int .i64 i] w fun e w' => e = .returned (.iface 39 (mv (nth d i))) ∧ ∃ v' d', After w pb mb v w' v' d' ∧ (d' ++ [nth d i]).Perm d := by
 obtain ⟨n, hn⟩ : ∃ n, d.length = n + 1 := ⟨d.length - 1, by omega⟩
 have hl := h.len
 have L := plen_any h
 rw [hn] at L
 have n1 : ((n : Int) + 1) - 1 = n := by omega
 by_cases hni : n = i
 ·subst hni
  have e2 := split_last hn
  have h2' := h
  rw [e2] at h2'
  have PP := popp_any h2'
  have E2 : Hid _ := e2
  clear e2 h2'
  go_enter Tryz.func200, Tryz.ntmps200
  go_wp2_with fail
  refine L.mono ?_
  rintro e w2 ⟨rfl, hw2⟩
  have hw2' := hw2.symm
  subst hw2'
  go_wp2_with fail
  refine PP.mono ?_
  rintro e w3 ⟨rfl, v', h3, f3, s3⟩
  go_wp2_with fail
  go_ret
  refine ⟨rfl, v', d.take n, ⟨h3, ok_take (ok_mono ho (by omega)) (by omega), f3, fun k hk => .inl (s3 k hk)⟩, ?_⟩
  rw [← E2.out]
 ·have k1 : ¬ ((n : Int) = (i : Int)) := by omega
  have k2 : ((n : Int) != (i : Int)) = true := by simpa using k1
  have S := swap_key h i n (by omega) (by omega) i n rfl rfl
  go_enter Tryz.func200, Tryz.ntmps200
  go_wp2_with fail
  refine L.mono ?_
  rintro e w2 ⟨rfl, hw2⟩
  have hw2' := hw2.symm
  subst hw2'
  go_wp2_with fail
  refine S.mono ?_
  rintro e w1 ⟨rfl, h1, f1⟩
  have hl1 : (swapL d i n).length = n + 1 := by rw [swapL_len, hn]
  have hexc : Exc (swapL d i n) n i := exc_swap (by omega) (by omega) (by rw [← hn]; exact ho)
  have D := down_any h1 n i (by omega) (by omega) (by omega) hexc
  have fin : ∀ (w2 : World) (d2 : List M), IsP w2 pb mb v d2 → Same n (swapL d i n) d2 → OK d2 n → Fr (FP pb mb v) w w2 →
    Calls Tryz.prog 259 #[.pointer (some ⟨pb, 0, none⟩)] w2 fun e w' => e = .returned (.iface 39 (mv (nth d i))) ∧ ∃ v' d', After w pb mb v w' v' d' ∧ (d' ++ [nth d i]).Perm d := fun w2 d2 h2 hs hok f2 => by
   have hl2 : d2.length = n + 1 := by rw [hs.len, hl1]
   have hx : nth d2 n = nth d i := by
    rw [hs.2 n (Nat.le_refl _), nth_swapL d i n n (by omega) (by omega), if_pos rfl]
   have e2 := split_last hl2
   rw [hx] at e2
   have h2' := h2
   rw [e2] at h2'
   refine (popp_any h2').mono ?_
   rintro e w3 ⟨rfl, v', h3, f3, s3⟩
   refine ⟨rfl, v', d2.take n, ⟨h3, ok_take hok (by omega), f2.trans f3 (fun _ _ g => g), fun k hk => .inl (s3 k hk)⟩, ?_⟩
   rw [← e2]
   exact hs.1.trans (swapL_perm d i n (by omega) (by omega))
  go_wp2_with fail
  refine D.mono ?_
  rintro e w2 ⟨b, d2, rfl, h2, hs, hb1, hb2, f2⟩
  cases b
  ·have U := up_any h2 n i (by rw [hs.len]; omega) (by omega) (hb2 rfl)
   clear hb1 hb2
   go_wp2_with fail
   refine U.mono ?_
   rintro e w3 ⟨rfl, d3, h3, hs3, hok3, f3⟩
   go_wp2_with fail
   refine (fin _ d3 h3 (hs.trans hs3) hok3 ((f1.then f2).then f3)).mono ?_
   rintro e w4 ⟨rfl, R⟩
   go_wp2_with fail
   go_ret
   exact ⟨rfl, R⟩
  ·have hok := hb1 rfl
   clear hb1 hb2
   go_wp2_with fail
   refine (fin _ d2 h2 hs hok (f1.then f2)).mono ?_
   rintro e w4 ⟨rfl, R⟩
   go_wp2_with fail
   go_ret
   exact ⟨rfl, R⟩
end Go.Proofs.YtiaopafkfadmkaaGreat.Q
