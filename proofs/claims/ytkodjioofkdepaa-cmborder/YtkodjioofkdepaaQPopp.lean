/- Proved: the contract of the pile's Pop. -/
import Derived.Test.YtkodjioofkdepaaQPush
namespace Go.Proofs.Ytkodjioofkdepaa.Q
open Go.RowKit Go.Sort
set_option linter.unusedVariables false
set_option maxRecDepth 100000

theorem step_delete_run {P : Program} {ops : Array Oper} {o : Oper} {a : Act} {w : World} {K : Act → World → Prop} {Q : Exit → Act → World → Prop} {E : Prop}
    (hg : o.guard = none) (s x : Operand) (t k : TypeId) (hop : o.op = Op.call { callee := Callee.builtin Builtin.delete, args := #[s, x], argTypes := #[t, k] })
    {v1 v2 v' : Value} {w' : World} (hs : a.eval s = v1) (hx : a.eval x = v2) (hrun : (Builtin.delete_ #[t, k] o.type #[v1, v2]).run P w = .ok v' w')
    (hK : K (a.put o.dst v') w') :
    if Region.wanted o (yielded ops a.tmps) = true then Oper.wp P o a w K Q else E := by
  have hw : Region.wanted o (yielded ops a.tmps) = true := by simp [Region.wanted, hg]
  rw [if_pos hw]
  unfold Oper.wp
  simp [execOp, hop, resolve, invoke, builtin, hs, hx, hrun, Result.andThen]
  exact hK

set_option maxRecDepth 100000 in
set_option maxHeartbeats 1000000 in
theorem popp_raw {w W0 W1 : World} {pb mb g cap k B : Nat} {a1 a2 a3 a4 a5 a6 : Int}
    (hl : k < 64) (hkc : k + 1 ≤ cap) (hcap : cap ≤ 9223372036854775807) (hp : pb < w.heap.size) (hB : Hid (B = w.heap.size))
    (c0 : w.cell? ⟨pb, 0, none⟩ = some (.slice (some ⟨g, 0, none⟩) (k + 1) cap)) (c1 : w.cell? ⟨pb, 1, none⟩ = some (.map (some mb))) (z0 : w.frozen? ⟨pb, 0, none⟩ = false)
    (x0 : w.cell? ⟨g, k * 6, none⟩ = some (.int .i64 a1)) (x1 : w.cell? ⟨g, k * 6 + 1, none⟩ = some (.int .i64 a2)) (x2 : w.cell? ⟨g, k * 6 + 2, none⟩ = some (.int .i64 a3))
    (x3 : w.cell? ⟨g, k * 6 + 3, none⟩ = some (.int .i64 a4)) (x4 : w.cell? ⟨g, k * 6 + 4, none⟩ = some (.int .i64 a5)) (x5 : w.cell? ⟨g, k * 6 + 5, none⟩ = some (.int .i64 a6))
    (hW0 : Hid (W0 = (w.setCell ⟨pb, 0, none⟩ (.slice (some ⟨g, 0, none⟩) k cap)).alloc (.cells #[.int .i64 a1, .int .i64 a2, .int .i64 a3, .int .i64 a4, .int .i64 a5, .int .i64 a6] 36)))
    (d1 : W0.cell? ⟨pb, 1, none⟩ = some (.map (some mb)))
    (y0 : W0.cell? ⟨B, 0, none⟩ = some (.int .i64 a1)) (y1 : W0.cell? ⟨B, 1, none⟩ = some (.int .i64 a2)) (y2 : W0.cell? ⟨B, 2, none⟩ = some (.int .i64 a3))
    (hrun : (Builtin.delete_ #[94, 34] 0 #[.map (some mb), .agg #[.int .i64 a1, .int .i64 a2, .int .i64 a3]]).run Try.prog W0.drew = .ok (.tuple #[]) W1)
    (u0 : W1.cell? ⟨B, 0, none⟩ = some (.int .i64 a1)) (u1 : W1.cell? ⟨B, 1, none⟩ = some (.int .i64 a2)) (u2 : W1.cell? ⟨B, 2, none⟩ = some (.int .i64 a3))
    (u3 : W1.cell? ⟨B, 3, none⟩ = some (.int .i64 a4)) (u4 : W1.cell? ⟨B, 4, none⟩ = some (.int .i64 a5)) (u5 : W1.cell? ⟨B, 5, none⟩ = some (.int .i64 a6)) :
    Calls Try.prog 111 #[.pointer (some ⟨pb, 0, none⟩)] w fun e w' => e = .returned (.iface 36 (.agg #[.int .i64 a1, .int .i64 a2, .int .i64 a3, .int .i64 a4, .int .i64 a5, .int .i64 a6])) ∧ w' = W1 := by
  have mixed : Try.prog.follows .mixedOrders = true := by kernel_rfl
  have HR : Aside _ := hrun
  clear hrun
  go_enter Try.func111, Try.ntmps111
  go_wp2_with fail
  have hB' := hB.out
  rw [← hW0.out, ← hB']
  clear hB' x0 x1 x2 x3 x4 x5 c0 c1
  go_region_law (refine step_delete_run rfl (.tmp 30) (.tmp 32) 94 34 rfl (by simp [Act.eval]) (by simp [Act.eval]) HR.out ?_)
  all_goals (go_wp2; go_ret; exact ⟨rfl, rfl⟩)

set_option maxRecDepth 10000 in
theorem MapIs.popped {W : World} {mb : Nat} {l : List M} {x : M} (h : MapIs W mb (l ++ [x])) (hwf : ∀ m ∈ l ++ [x], mwf m) (hnd : ((l ++ [x]).map Prod.fst).Nodup) :
    ∃ W1, (Builtin.delete_ #[94, 34] 0 #[.map (some mb), kv x.1]).run Try.prog W.drew = .ok (.tuple #[]) W1 ∧ Fr (fun k => k = mb) W W1 ∧ MapIs W1 mb l := by
  obtain ⟨D, hown, hhas, hat⟩ := h
  have t0 := hown.tidy keyed28
  have hx : mwf x := hwf x (by simp)
  obtain ⟨W1, r1, o1, m1⟩ := World.ownsMap.drop (w := W.drew) (H := Unit) hown keyed28 Try.underlying94 (kl_some hx.1) 0
  have hxl : x.1 ∉ l.map Prod.fst := by
    rw [List.map_append] at hnd
    intro e
    exact (List.nodup_append.1 hnd).2.2 x.1 e x.1 (by simp) rfl
  have hh : Maps.has D (klP Try.prog x.1) = true := (hhas _ hx.1).2 (by simp)
  refine ⟨W1, r1, ?_, ⟨_, ownsMap_size o1 ?_, ?_, ?_⟩⟩
  · have := (Fr.of_grown (a := W.drew) m1.grown).wide (S' := fun k => k = mb) (fun k hk => by simpa using hk.symm)
    exact ⟨this.os, this.tape, this.output, this.size, this.block⟩
  · have h1 := Maps.size_del (k := klP Try.prog x.1) t0
    rw [if_pos hh] at h1
    have h2 := hown.size_le
    simp at h2
    omega
  · intro k hk
    by_cases e : k = x.1
    · subst e
      rw [Maps.has_del_same]
      simpa using hxl
    · rw [Maps.has_del_other (fun h => e (kl_inj hk hx.1 h)), hhas k hk]
      simp only [List.map_append, List.mem_append, List.map_cons, List.map_nil, List.mem_singleton, e, or_false]
  · intro i hi
    have wi := (hwf _ (List.mem_append_left _ (List.getElem_mem hi))).1
    rw [Maps.atKey_del_other (fun h => hxl (by rw [← kl_inj wi hx.1 h]; exact List.mem_map.2 ⟨_, List.getElem_mem hi, rfl⟩))]
    have := hat i (by simp; omega)
    rwa [List.getElem_append_left hi] at this

theorem Own.shorter {w : World} {g cap : Nat} {l : List M} {x : M} (h : Own w (.slice (some ⟨g, 0, none⟩) (l.length + 1) cap) (l ++ [x])) : Own w (.slice (some ⟨g, 0, none⟩) l.length cap) l := by
  refine ⟨flat_len l, .inr ?_⟩
  rcases h.2 with ⟨h0, _⟩ | ⟨g', cap', cur, hv, hb, hg, hnc, hcm, hcs, ht⟩
  · simp at h0
  · simp at hv
    obtain ⟨rfl, _, rfl⟩ := hv
    simp at hnc
    refine ⟨g, cap, cur, rfl, hb, hg, by omega, hcm, hcs, ?_⟩
    have e := congrArg (fun z => z.take (l.length * 6)) ht
    simp only [List.take_take, flat_append] at e
    rw [Nat.min_eq_left (by simp; omega)] at e
    rw [e, ← flat_len l, List.take_left]

set_option maxRecDepth 10000 in
set_option maxHeartbeats 400000 in
theorem popp_any {w : World} {pb mb : Nat} {v : Value} {l : List M} {x : M} (h : IsP w pb mb v (l ++ [x])) :
    Calls Try.prog 111 #[.pointer (some ⟨pb, 0, none⟩)] w fun e w' => e = .returned (.iface 36 (mv x)) ∧ ∃ v', IsP w' pb mb v' l ∧ Fr (FP pb mb v) w w' ∧ (∀ k, FP pb mb v' k → FP pb mb v k) := by
  have hlen : (l ++ [x]).length = l.length + 1 := by simp
  obtain ⟨g, cap, hv, hg⟩ := own_nonempty h.own (i := l.length) (by simp)
  rw [hlen] at hv
  subst hv
  have hpg : pb ≠ g := fun e => h.nv (by rw [e]; rfl)
  have hmg : mb ≠ g := fun e => h.nm (by rw [e]; rfl)
  have hown : Own w (.slice (some ⟨g, 0, none⟩) (l ++ [x]).length cap) (l ++ [x]) := by rw [hlen]; exact h.own
  obtain ⟨x0, x1, x2, x3, x4, x5⟩ := own_cell hown (i := l.length) (x := x) (by simp) (by simp)
  obtain ⟨W0, hW0⟩ : ∃ W0, W0 = (w.setCell ⟨pb, 0, none⟩ (.slice (some ⟨g, 0, none⟩) l.length cap)).alloc (.cells #[.int .i64 x.1.1, .int .i64 x.1.2.1, .int .i64 x.1.2.2, .int .i64 x.2.1, .int .i64 x.2.2.1, .int .i64 x.2.2.2] 36) := ⟨_, rfl⟩
  have f0 : Fr (fun k => k = pb) w W0 := by rw [hW0]; exact ((Fr.refl (fun k => k = pb) w).setCell _ _ (.inl rfl)).alloc _
  have map0 : MapIs W0 mb (l ++ [x]) := h.map.keep f0 (fun e => h.ne e.symm)
  have own0 : Own W0 (.slice (some ⟨g, 0, none⟩) l.length cap) l := h.own.shorter.keep f0 (fun g' hg' => by simp [Value.ownBlock] at hg'; subst hg'; exact fun e => hpg e.symm)
  obtain ⟨W1, r1, f1, map1⟩ := map0.popped h.wf h.nd
  have hp := cell_lt h.c0
  have c0' : W0.cell? ⟨pb, 0, none⟩ = some (.slice (some ⟨g, 0, none⟩) l.length cap) := by
    rw [hW0, World.cell?_alloc_lt _ _ _ (by simpa using hp)]; exact World.cell?_setCell_same _ _ _ h.c0
  have c1' : W0.cell? ⟨pb, 1, none⟩ = some (.map (some mb)) := by
    rw [hW0, World.cell?_alloc_lt _ _ _ (by simpa using hp), World.cell?_setCell_other _ _ _ _ (by simp)]; exact h.c1
  have z0' : W0.frozen? ⟨pb, 0, none⟩ = false := by
    have e : W0.heap[pb]? = (w.setCell ⟨pb, 0, none⟩ (.slice (some ⟨g, 0, none⟩) l.length cap)).heap[pb]? := by rw [hW0]; exact Below.heap_alloc _ _ _ (by simpa using hp)
    rw [World.frozen?_of_block (a := ⟨pb, 0, none⟩) e, World.frozen?_setCell]; exact h.f0
  have hBs : w.heap.size < W0.heap.size := by rw [hW0]; simp
  have yc : ∀ j, j < 6 → W0.cell? ⟨w.heap.size, j, none⟩ = (enc x)[j]? := fun j hj => by
    have e : w.heap.size = (w.setCell ⟨pb, 0, none⟩ (.slice (some ⟨g, 0, none⟩) l.length cap)).heap.size := by simp
    rw [hW0]
    conv => lhs; rw [e]
    simp only [World.cell?, heap_alloc_new]
    simp [enc]
  have uc : ∀ j, j < 6 → W1.cell? ⟨w.heap.size, j, none⟩ = (enc x)[j]? := fun j hj => (f1.cell (p := ⟨w.heap.size, j, none⟩) hBs (fun e => by have := h.map.lt; simp at e; omega)).trans (yc j hj)
  have hl := h.len
  have hcc : l.length + 1 ≤ cap ∧ cap ≤ maxLen := by
    rcases h.own.2 with ⟨h0, _⟩ | ⟨g', cap', cur, hv, _, _, hnc, hcm, _⟩
    · simp at h0
    · simp at hv
      obtain ⟨_, _, rfl⟩ := hv
      simp at hnc
      exact ⟨hnc, hcm⟩
  unfold maxLen at hcc
  refine (popp_raw (k := l.length) (cap := cap) (B := w.heap.size) (by omega) hcc.1 (by omega) hp (show Hid _ from rfl) h.c0 h.c1 h.f0 x0 x1 x2 x3 x4 x5 (show Hid _ from hW0) c1' (yc 0 (by omega)) (yc 1 (by omega)) (yc 2 (by omega)) r1 (uc 0 (by omega)) (uc 1 (by omega)) (uc 2 (by omega)) (uc 3 (by omega)) (uc 4 (by omega)) (uc 5 (by omega))).mono fun e w' ⟨he, hw⟩ => ⟨he, .slice (some ⟨g, 0, none⟩) l.length cap, ?_⟩
  subst hw
  refine ⟨⟨(f1.cell (p := ⟨pb, 0, none⟩) (cell_lt c0') h.ne).trans c0', (f1.cell (p := ⟨pb, 1, none⟩) (cell_lt c1') h.ne).trans c1', (f1.frozen (p := ⟨pb, 0, none⟩) (cell_lt c0') h.ne).trans z0', own0.keep f1 (fun g' hg' => by simp [Value.ownBlock] at hg'; subst hg'; exact fun e => hmg e.symm), map1, h.ne, h.nv, h.nm, fun m hm => h.wf m (by simp [hm]), ?_, by omega⟩, ?_, ?_⟩
  · have := h.nd
    rw [List.map_append] at this
    exact (List.nodup_append.1 this).1
  · exact (f0.wide (S' := FP pb mb (.slice (some ⟨g, 0, none⟩) (l.length + 1) cap)) (fun k hk => .inl hk)).then (f1.wide (fun k hk => .inr (.inl hk)))
  · rintro k (rfl | rfl | hk)
    · exact .inl rfl
    · exact .inr (.inl rfl)
    · exact .inr (.inr hk)
end Go.Proofs.Ytkodjioofkdepaa.Q
