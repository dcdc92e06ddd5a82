/- Proved: the contract of the pile's Push. -/
import Derived.Test.YtkodjioofkdepaaQSwap3
import Derived.Deep.RegionLaw
namespace Go.Proofs.Ytkodjioofkdepaa.Q
open Go.RowKit Go.Sort
set_option linter.unusedVariables false
set_option maxRecDepth 100000

theorem step_append_run {P : Program} {ops : Array Oper} {o : Oper} {a : Act} {w : World} {K : Act → World → Prop} {Q : Exit → Act → World → Prop} {E : Prop}
    (hg : o.guard = none) (s x : Operand) (t : TypeId) (hop : o.op = Op.call { callee := Callee.builtin Builtin.append, args := #[s, x], argTypes := #[t, t] })
    {v1 v2 v' : Value} {w' : World} (hs : a.eval s = v1) (hx : a.eval x = v2) (hrun : (Builtin.append_ #[t, t] o.type #[v1, v2]).run P w = .ok v' w')
    (hK : K (a.put o.dst v') w') :
    if Region.wanted o (yielded ops a.tmps) = true then Oper.wp P o a w K Q else E := by
  have hw : Region.wanted o (yielded ops a.tmps) = true := by simp [Region.wanted, hg]
  rw [if_pos hw]
  unfold Oper.wp
  simp [execOp, hop, resolve, invoke, builtin, hs, hx, hrun, Result.andThen]
  exact hK

theorem assert30 (x : Value) (w : World) : (Instr.typeAssert (.iface 36 x) 20 36 false).run Try.prog w = .ok x w := by
  simp [Instr.typeAssert, run_underlying Try.underlying36, Result.andThen]

set_option maxRecDepth 100000 in
set_option maxHeartbeats 1000000 in
theorem push_raw {w W0 W1 W2 : World} {pb mb n B C : Nat} {a a' : Option Addr} {cap n' cap' : Nat} {a1 a2 a3 a4 a5 a6 : Int}
    (hl : n ≤ 64) (hB : Hid (B = w.heap.size)) (hC : Hid (C = W1.heap.size)) (hpC : pb < W1.heap.size) (hBC : B < W1.heap.size)
    (hW0 : Hid (W0 = w.alloc (.cells #[.int .i64 a1, .int .i64 a2, .int .i64 a3, .int .i64 a4, .int .i64 a5, .int .i64 a6] 36)))
    (c0 : W0.cell? ⟨pb, 0, none⟩ = some (.slice a n cap)) (c1 : W0.cell? ⟨pb, 1, none⟩ = some (.map (some mb)))
    (x0 : W0.cell? ⟨B, 0, none⟩ = some (.int .i64 a1)) (x1 : W0.cell? ⟨B, 1, none⟩ = some (.int .i64 a2)) (x2 : W0.cell? ⟨B, 2, none⟩ = some (.int .i64 a3))
    (m1 : (Instr.mapUpdate 94 (.map (some mb)) (.agg #[.int .i64 a1, .int .i64 a2, .int .i64 a3]) (.int .i64 n)).run Try.prog W0.drew = .ok () W1)
    (d0 : W1.cell? ⟨pb, 0, none⟩ = some (.slice a n cap))
    (y0 : W1.cell? ⟨B, 0, none⟩ = some (.int .i64 a1)) (y1 : W1.cell? ⟨B, 1, none⟩ = some (.int .i64 a2)) (y2 : W1.cell? ⟨B, 2, none⟩ = some (.int .i64 a3))
    (y3 : W1.cell? ⟨B, 3, none⟩ = some (.int .i64 a4)) (y4 : W1.cell? ⟨B, 4, none⟩ = some (.int .i64 a5)) (y5 : W1.cell? ⟨B, 5, none⟩ = some (.int .i64 a6))
    (hrun : (Builtin.append_ #[50, 50] 50 #[.slice a n cap, .slice (some ⟨C, 0, none⟩) 1 1]).run Try.prog (W1.alloc (.cells #[.int .i64 a1, .int .i64 a2, .int .i64 a3, .int .i64 a4, .int .i64 a5, .int .i64 a6] 36)).drew = .ok (.slice a' n' cap') W2)
    (e0 : W2.cell? ⟨pb, 0, none⟩ = some (.slice a n cap)) (ef : W2.frozen? ⟨pb, 0, none⟩ = false) :
    Calls Try.prog 112 #[.pointer (some ⟨pb, 0, none⟩), .iface 36 (.agg #[.int .i64 a1, .int .i64 a2, .int .i64 a3, .int .i64 a4, .int .i64 a5, .int .i64 a6])] w fun e w' => e = .returned (.tuple #[]) ∧ w' = W2.setCell ⟨pb, 0, none⟩ (.slice a' n' cap') := by
  have mixed : Try.prog.follows .mixedOrders = true := by kernel_rfl
  have hta := fun w x => assert30 x w
  have HR : Aside _ := hrun
  clear hrun
  go_enter Try.func112, Try.ntmps112
  go_wp2_with fail
  have hB' := hB.out
  rw [← hW0.out, ← hB']
  clear hB' hta
  go_region
  clear c0 c1 x0 x1 x2 m1
  go_wp2_with fail
  have hC' := hC.out
  go_region_law (refine step_append_run rfl (.tmp 22) (.tmp 24) 50 rfl (by simp [Act.eval]) (by simp [Act.eval, ← hC']) HR.out ?_)
  all_goals (go_wp2; go_end0; exact ⟨rfl, rfl⟩)

set_option maxRecDepth 10000 in
theorem MapIs.pushed {W : World} {mb : Nat} {d : List M} (h : MapIs W mb d) (hwf : ∀ m ∈ d, mwf m) (hlen : d.length < 64) (m : M) (hm : mwf m) (hnew : m.1 ∉ d.map Prod.fst) :
    ∃ W1, (Instr.mapUpdate 94 (.map (some mb)) (kv m.1) (.int .i64 d.length)).run Try.prog W.drew = .ok () W1 ∧ Fr (fun k => k = mb) W W1 ∧ MapIs W1 mb (d ++ [m]) := by
  obtain ⟨D, hown, hhas, hat⟩ := h
  have t0 := hown.tidy keyed28
  obtain ⟨W1, r1, o1, m1⟩ := World.ownsMap.store (w := W.drew) (H := Unit) hown keyed28 Try.underlying94 (by unfold maxLen; omega) (kl_some hm.1) (plainElem_int (H := Unit) Try.underlying3 (a := (d.length : Int)) (WalkArith.wf_i64 (by omega)))
  have hno : Maps.has D (klP Try.prog m.1) = false := by
    cases e : Maps.has D (klP Try.prog m.1)
    · rfl
    · exact absurd ((hhas _ hm.1).1 e) hnew
  refine ⟨W1, r1, ?_, ⟨_, ownsMap_size o1 ?_, ?_, ?_⟩⟩
  · have := (Fr.of_grown (a := W.drew) m1.grown).wide (S' := fun k => k = mb) (fun k hk => by simpa using hk.symm)
    exact ⟨this.os, this.tape, this.output, this.size, this.block⟩
  · rw [Maps.size_put t0, if_neg (by simp [hno])]
    have := hown.size_le
    simp; omega
  · intro k hk
    by_cases e : k = m.1
    · subst e
      rw [Maps.has_put_same t0.isMap (kl_lit hk)]
      simp
    · rw [Maps.has_put_other (fun h => e (kl_inj hk hm.1 h)), hhas k hk]
      simp only [List.map_append, List.mem_append, List.map_cons, List.map_nil, List.mem_singleton, e, or_false]
  · intro i hi
    simp only [List.length_append, List.length_cons, List.length_nil] at hi
    by_cases e : i < d.length
    · rw [List.getElem_append_left e]
      have wi := (hwf _ (List.getElem_mem e)).1
      rw [Maps.atKey_put_other (fun h => hnew (by rw [← kl_inj wi hm.1 h]; exact List.mem_map.2 ⟨_, List.getElem_mem e, rfl⟩))]
      exact hat i e
    · have e2 : i = d.length := by omega
      subst e2
      rw [List.getElem_append_right (Nat.le_refl _)]
      simp only [Nat.sub_self, List.getElem_cons_zero]
      exact Maps.atKey_put_same t0.isMap (kl_lit hm.1) _ _

theorem cells_new (w : World) (m : M) (t : TypeId) : ∀ j u, (enc m)[j]? = some u → ((w.alloc (.cells #[.int .i64 m.1.1, .int .i64 m.1.2.1, .int .i64 m.1.2.2, .int .i64 m.2.1, .int .i64 m.2.2.1, .int .i64 m.2.2.2] t)).drew).cell? ((⟨w.heap.size, 0, none⟩ : Addr).add j) = some u := by
  intro j u hj
  have hj6 : j < 6 := by have := (List.getElem?_eq_some_iff.1 hj).1; rwa [enc_len] at this
  rw [Addr.add_lit, World.cell?_drew]
  simp only [World.cell?, heap_alloc_new, Nat.zero_add]
  simpa [enc] using hj

/-- One message put behind the others of a row of the program's own. -/
theorem Own.append {w : World} {v : Value} {d : List M} (h : Own w v d) (hlen : d.length ≤ 100000) (m : M) (ty : TypeId) :
    ∃ a' cap' w', (Builtin.append_ #[50, 50] ty #[v, .slice (some ⟨w.heap.size, 0, none⟩) 1 1]).run Try.prog (w.alloc (.cells #[.int .i64 m.1.1, .int .i64 m.1.2.1, .int .i64 m.1.2.2, .int .i64 m.2.1, .int .i64 m.2.2.1, .int .i64 m.2.2.2] 36)).drew = .ok (.slice a' (d.length + 1) cap') w' ∧
      Own w' (.slice a' (d.length + 1) cap') (d ++ [m]) ∧ Fr (fun k => v.ownBlock = some k) w w' ∧ (∀ k, (Value.slice a' (d.length + 1) cap').ownBlock = some k → v.ownBlock = some k ∨ w.heap.size ≤ k) := by
  obtain ⟨i0, hi0, hz0, hz1, hz2⟩ := info_parts info30
  have ho : ((w.alloc (.cells #[.int .i64 m.1.1, .int .i64 m.1.2.1, .int .i64 m.1.2.2, .int .i64 m.2.1, .int .i64 m.2.2.1, .int .i64 m.2.2.2] 36)).drew).ownsRow 0 36 6 v d.length (flat d) := h.keep (S := fun _ => False) (((Fr.refl _ w).alloc _).drew) (fun _ _ g => g)
  obtain ⟨v', w', hr, h2, h3, h4, h5⟩ := run_append_own_at (P := Try.prog) _ 0 50 ty 36 i0 _ 6 48 Try.underlying50 hi0 hz0 hz1 hz2 rfl (by decide) v d.length (flat d) ho ⟨w.heap.size, 0, none⟩ 1 1 (enc m) rfl (cells_new w m 36) (enc_one m) (by unfold maxLen; omega) (by omega) (Nat.zero_le _)
  have h2' : Own w' v' (d ++ [m]) := by unfold Own; rw [flat_append, flat_one]; simpa using h2
  obtain ⟨a', cap', rfl, _⟩ := h2'.rd
  have hl : (d ++ [m]).length = d.length + 1 := by simp
  rw [hl] at hr h2' h5
  refine ⟨a', cap', w', hr, h2', ?_, ?_⟩
  · have f1 : Fr (fun k => v.ownBlock = some k) w (w.alloc (.cells #[.int .i64 m.1.1, .int .i64 m.1.2.1, .int .i64 m.1.2.2, .int .i64 m.2.1, .int .i64 m.2.2.1, .int .i64 m.2.2.2] 36)).drew := ((Fr.refl _ w).alloc _).drew
    exact f1.then (Fr.of_grown h3)
  · intro k hk
    rcases h5 with h5 | h5
    · exact .inl (h5.symm.trans hk)
    · right
      rw [h5] at hk
      simp at hk
      omega

set_option maxRecDepth 10000 in
set_option maxHeartbeats 400000 in
theorem push_any {w : World} {pb mb : Nat} {v : Value} {d : List M} (h : IsP w pb mb v d) (m : M) (hm : mwf m) (hnew : m.1 ∉ d.map Prod.fst) (hlen : d.length < 64) :
    Calls Try.prog 112 #[.pointer (some ⟨pb, 0, none⟩), .iface 36 (mv m)] w fun e w' => e = .returned (.tuple #[]) ∧ ∃ v', IsP w' pb mb v' (d ++ [m]) ∧ Fr (FP pb mb v) w w' ∧ (∀ k, FP pb mb v' k → FP pb mb v k ∨ w.heap.size ≤ k) := by
  obtain ⟨W0, hW0⟩ : ∃ W0, W0 = w.alloc (.cells #[.int .i64 m.1.1, .int .i64 m.1.2.1, .int .i64 m.1.2.2, .int .i64 m.2.1, .int .i64 m.2.2.1, .int .i64 m.2.2.2] 36) := ⟨_, rfl⟩
  have f0 : Fr (fun _ => False) w W0 := by rw [hW0]; exact (Fr.refl _ w).alloc _
  have h0 : IsP W0 pb mb v d := h.keep f0 (fun _ _ g => g)
  obtain ⟨W1, r1, f1, map1⟩ := h0.map.pushed h.wf hlen m hm hnew
  have own1 : Own W1 v d := h0.own.keep f1 (fun g hg e => h.nm (by rw [hg, e]))
  obtain ⟨a', cap', W2, hrun, own2, f2, hloc⟩ := own1.append (by omega) m 50
  obtain ⟨a, cap, hv, _⟩ := h.own.rd
  have c0' := (f1.cell (p := ⟨pb, 0, none⟩) (cell_lt h0.c0) h.ne).trans h0.c0
  have c1' := (f1.cell (p := ⟨pb, 1, none⟩) (cell_lt h0.c1) h.ne).trans h0.c1
  have z0' := (f1.frozen (p := ⟨pb, 0, none⟩) (cell_lt h0.c0) h.ne).trans h0.f0
  have c0'' := (f2.cell (p := ⟨pb, 0, none⟩) (cell_lt c0') h.nv).trans c0'
  have c1'' := (f2.cell (p := ⟨pb, 1, none⟩) (cell_lt c1') h.nv).trans c1'
  have z0'' := (f2.frozen (p := ⟨pb, 0, none⟩) (cell_lt c0') h.nv).trans z0'
  have map2 : MapIs W2 mb (d ++ [m]) := map1.keep f2 h.nm
  have hBs : w.heap.size < W0.heap.size := by rw [hW0]; simp
  have xc : ∀ j, j < 6 → W0.cell? ⟨w.heap.size, j, none⟩ = (enc m)[j]? := fun j hj => by
    rw [hW0]
    simp only [World.cell?, heap_alloc_new]
    simp [enc]
  have yc : ∀ j, j < 6 → W1.cell? ⟨w.heap.size, j, none⟩ = (enc m)[j]? := fun j hj => (f1.cell (p := ⟨w.heap.size, j, none⟩) hBs (fun e => by have := h.map.lt; simp at e; omega)).trans (xc j hj)
  subst hv
  have hn1 : ∀ k, (Value.slice a' (d.length + 1) cap').ownBlock = some k → k ≠ pb ∧ k ≠ mb := fun k hk => by
    have hpl := cell_lt h.c0
    have hml := h.map.lt
    have s0 := f0.size
    have s1 := f1.size
    rcases hloc k hk with e | e
    · exact ⟨fun e2 => h.nv (by rw [e, e2]), fun e2 => h.nm (by rw [e, e2])⟩
    · exact ⟨by omega, by omega⟩
  refine (push_raw (n := d.length) (n' := d.length + 1) (a' := a') (cap' := cap') (B := w.heap.size) (C := W1.heap.size) (by omega) (show Hid _ from rfl) (show Hid _ from rfl) (cell_lt c0') (Nat.lt_of_lt_of_le hBs f1.size) (show Hid _ from hW0) h0.c0 h0.c1 (xc 0 (by omega)) (xc 1 (by omega)) (xc 2 (by omega)) r1 c0' (yc 0 (by omega)) (yc 1 (by omega)) (yc 2 (by omega)) (yc 3 (by omega)) (yc 4 (by omega)) (yc 5 (by omega)) hrun c0'' z0'').mono fun e w' ⟨he, hw⟩ => ⟨he, .slice a' (d.length + 1) cap', ?_⟩
  subst hw
  have f3 : Fr (fun k => k = pb) W2 (W2.setCell ⟨pb, 0, none⟩ (.slice a' (d.length + 1) cap')) := (Fr.refl _ _).setCell _ _ (.inl rfl)
  refine ⟨⟨World.cell?_setCell_same _ _ _ c0'', ?_, ?_, own2.keep f3 (fun g hg => (hn1 g hg).1), map2.keep f3 (fun e => h.ne e.symm), h.ne, fun e => (hn1 _ e).1 rfl, fun e => (hn1 _ e).2 rfl, ?_, ?_, by simp; omega⟩, ?_, ?_⟩
  · rw [World.cell?_setCell_other _ _ _ _ (by simp)]; exact c1''
  · rw [World.frozen?_setCell]; exact z0''
  · intro x hx
    rcases List.mem_append.1 hx with hx | hx
    · exact h.wf x hx
    · simp at hx; subst hx; exact hm
  · rw [List.map_append]
    refine List.nodup_append.2 ⟨h.nd, by simp, ?_⟩
    intro x hx y hy
    simp at hy
    subst hy
    exact fun e => hnew (by rw [← e]; exact hx)
  · exact (((f0.wide (S' := FP pb mb (.slice a d.length cap)) (fun _ g => g.elim)).then (f1.wide (fun k hk => .inr (.inl hk)))).then (f2.wide (fun k hk => .inr (.inr hk)))).then (f3.wide (fun k hk => .inl hk))
  · rintro k (rfl | rfl | hk)
    · exact .inl (.inl rfl)
    · exact .inl (.inr (.inl rfl))
    · rcases hloc k hk with e | e
      · exact .inl (.inr (.inr e))
      · right
        have s0 := f0.size
        have s1 := f1.size
        omega
end Go.Proofs.Ytkodjioofkdepaa.Q
