/- Proved: contracts of the pile's Push and Pop. -/
import Derived.Test.YtmfcbalhabcodaaGreatHPil
namespace Go.Proofs.YtmfcbalhabcodaaGreat.H
open Go.RowKit Go.Sort
set_option linter.unusedVariables false

theorem cells_new (w : World) (m : M) (t : TypeId) : ∀ j u, (enc m)[j]? = some u → ((w.alloc (.cells #[.int .i64 m.1.1, .int .i64 m.1.2.1, .int .i64 m.1.2.2, .int .i64 m.2.1, .int .i64 m.2.2.1, .int .i64 m.2.2.2] t)).drew).cell? ((⟨w.heap.size, 0, none⟩ : Addr).add j) = some u := by
  intro j u hj
  have hj6 : j < 6 := by have := (List.getElem?_eq_some_iff.1 hj).1; rwa [enc_len] at this
  rw [Addr.add_lit, World.cell?_drew]
  simp only [World.cell?, heap_alloc_new, Nat.zero_add]
  simpa [enc] using hj
/-- One message put behind the others of a row of the program's own. -/
theorem Own.append {w : World} {v : Value} {d : List M} (h : Own w v d) (hlen : d.length ≤ 100000) (m : M) (ty : TypeId) :
    ∃ a' cap' w', (Builtin.append_ #[67, 67] ty #[v, .slice (some ⟨w.heap.size, 0, none⟩) 1 1]).run Tryz.prog (w.alloc (.cells #[.int .i64 m.1.1, .int .i64 m.1.2.1, .int .i64 m.1.2.2, .int .i64 m.2.1, .int .i64 m.2.2.1, .int .i64 m.2.2.2] 38)).drew = .ok (.slice a' (d.length + 1) cap') w' ∧
      Own w' (.slice a' (d.length + 1) cap') (d ++ [m]) ∧ Fr (fun k => v.ownBlock = some k) w w' ∧ (∀ k, (Value.slice a' (d.length + 1) cap').ownBlock = some k → v.ownBlock = some k ∨ w.heap.size ≤ k) := by
  obtain ⟨i0, hi0, hz0, hz1, hz2⟩ := info_parts infoT
  have ho : ((w.alloc (.cells #[.int .i64 m.1.1, .int .i64 m.1.2.1, .int .i64 m.1.2.2, .int .i64 m.2.1, .int .i64 m.2.2.1, .int .i64 m.2.2.2] 38)).drew).ownsRow 0 38 6 v d.length (flat d) := h.keep (S := fun _ => False) (((Fr.refl _ w).alloc _).drew) (fun _ _ g => g)
  obtain ⟨v', w', hr, h2, h3, h4, h5⟩ := run_append_own_at (P := Tryz.prog) _ 0 67 ty 38 i0 _ 6 48 Tryz.underlying67 hi0 hz0 hz1 hz2 rfl (by decide) v d.length (flat d) ho ⟨w.heap.size, 0, none⟩ 1 1 (enc m) rfl (cells_new w m 38) (enc_one m) (by unfold maxLen; omega) (by omega) (Nat.zero_le _)
  have h2' : Own w' v' (d ++ [m]) := by unfold Own; rw [flat_append, flat_one]; simpa using h2
  obtain ⟨a', cap', rfl, _⟩ := h2'.rd
  have hl : (d ++ [m]).length = d.length + 1 := by simp
  rw [hl] at hr h2' h5
  refine ⟨a', cap', w', hr, h2', ?_, ?_⟩
  · have f1 : Fr (fun k => v.ownBlock = some k) w (w.alloc (.cells #[.int .i64 m.1.1, .int .i64 m.1.2.1, .int .i64 m.1.2.2, .int .i64 m.2.1, .int .i64 m.2.2.1, .int .i64 m.2.2.2] 38)).drew := ((Fr.refl _ w).alloc _).drew
    exact f1.then (fr_of_grown h3)
  · intro k hk
    rcases h5 with h5 | h5
    · exact .inl (h5.symm.trans hk)
    · right
      rw [h5] at hk
      simp at hk
      omega

theorem assertM (x : Value) (w : World) : (Instr.typeAssert (.iface 38 x) 20 38 false).run Tryz.prog w = .ok x w := by kernel_rfl

set_option maxRecDepth 100000 in
set_option maxHeartbeats 1000000 in
theorem push_raw {w W2 : World} {pb : Nat} {v : Value} {a' : Option Addr} {n' cap' : Nat} {a1 a2 a3 a4 a5 a6 : Int}
    (hp : pb < w.heap.size) (c0 : w.cell? ⟨pb, 0, none⟩ = some v)
    (hrun : (Builtin.append_ #[67, 67] 67 #[v, .slice (some ⟨w.heap.size, 0, none⟩) 1 1]).run Tryz.prog (w.alloc (.cells #[.int .i64 a1, .int .i64 a2, .int .i64 a3, .int .i64 a4, .int .i64 a5, .int .i64 a6] 38)).drew = .ok (.slice a' n' cap') W2)
    (c1 : W2.cell? ⟨pb, 0, none⟩ = some v) (z1 : W2.frozen? ⟨pb, 0, none⟩ = false) :
    Calls Tryz.prog 159 #[.pointer (some ⟨pb, 0, none⟩), .iface 38 (.agg #[.int .i64 a1, .int .i64 a2, .int .i64 a3, .int .i64 a4, .int .i64 a5, .int .i64 a6])] w fun e w' => e = .returned (.tuple #[]) ∧ w' = W2.setCell ⟨pb, 0, none⟩ (.slice a' n' cap') := by
  have mixed : Tryz.prog.follows .mixedOrders = true := by kernel_rfl
  have hta := fun w x => assertM x w
  have HR : Aside _ := hrun
  clear hrun
  go_enter Tryz.func159, Tryz.ntmps159
  go_wp2_with fail
  go_region_law (refine step_append_run rfl (.tmp 7) (.tmp 10) 67 rfl (by simp [Act.eval]) (by simp [Act.eval]) HR.out ?_)
  all_goals (go_wp2; go_end0; exact ⟨rfl, rfl⟩)

set_option maxRecDepth 10000 in
set_option maxHeartbeats 400000 in
theorem push_any {w : World} {pb : Nat} {v : Value} {d : List M} (h : IsP w pb v d) (m : M) (hlen : d.length < 20000) :
    Calls Tryz.prog 159 #[.pointer (some ⟨pb, 0, none⟩), .iface 38 (mv m)] w fun e w' => e = .returned (.tuple #[]) ∧ ∃ v', IsP w' pb v' (d ++ [m]) ∧ Fr (FP pb v) w w' ∧ (∀ k, FP pb v' k → FP pb v k ∨ w.heap.size ≤ k) := by
  obtain ⟨a', cap', W2, hrun, own2, f2, hloc⟩ := h.own.append (by omega) m 67
  have hp := cell_lt h.c0
  have b2 := (f2.block pb hp h.nv).trans h.bx
  have c1 := (f2.cell (p := ⟨pb, 0, none⟩) hp h.nv).trans h.c0
  have z1 := (f2.frozen (p := ⟨pb, 0, none⟩) hp h.nv).trans h.f0
  have hn1 : ∀ k, (Value.slice a' (d.length + 1) cap').ownBlock = some k → k ≠ pb := fun k hk e => by
    rcases hloc k hk with g | g
    · exact h.nv (by rw [g, e])
    · omega
  refine (push_raw hp h.c0 hrun c1 z1).mono fun e w' ⟨he, hw⟩ => ⟨he, .slice a' (d.length + 1) cap', ?_⟩
  subst hw
  have f3 : Fr (fun k => k = pb) W2 (W2.setCell ⟨pb, 0, none⟩ (.slice a' (d.length + 1) cap')) := (Fr.refl _ _).setCell _ _ rfl
  refine ⟨⟨?_, ?_, fun e => hn1 _ e rfl, by simp; omega⟩, ?_, ?_⟩
  · rw [heap_setCell_same W2 pb 0 _ _ _ b2]
    rfl
  · have : Own W2 (.slice a' (d.length + 1) cap') (d ++ [m]) := own2
    exact this.keep f3 (fun g hg => hn1 g hg)
  · exact (f2.wide (S' := FP pb v) (fun k hk => .inr hk)).then (f3.wide (fun k hk => .inl hk))
  · rintro k (rfl | hk)
    · exact .inl (.inl rfl)
    · rcases hloc k hk with e | e
      · exact .inl (.inr e)
      · exact .inr e

set_option maxRecDepth 100000 in
set_option maxHeartbeats 1000000 in
theorem popp_raw {w : World} {pb g cap k : Nat} {a1 a2 a3 a4 a5 a6 : Int}
    (hl : k < 20000) (hkc : k + 1 ≤ cap) (hcap : cap ≤ 9223372036854775807) (hp : pb < w.heap.size) (hpg : pb ≠ g)
    (c0 : w.cell? ⟨pb, 0, none⟩ = some (.slice (some ⟨g, 0, none⟩) (k + 1) cap)) (z0 : w.frozen? ⟨pb, 0, none⟩ = false)
    (x0 : w.cell? ⟨g, k * 6, none⟩ = some (.int .i64 a1)) (x1 : w.cell? ⟨g, k * 6 + 1, none⟩ = some (.int .i64 a2)) (x2 : w.cell? ⟨g, k * 6 + 2, none⟩ = some (.int .i64 a3))
    (x3 : w.cell? ⟨g, k * 6 + 3, none⟩ = some (.int .i64 a4)) (x4 : w.cell? ⟨g, k * 6 + 4, none⟩ = some (.int .i64 a5)) (x5 : w.cell? ⟨g, k * 6 + 5, none⟩ = some (.int .i64 a6)) :
    Calls Tryz.prog 158 #[.pointer (some ⟨pb, 0, none⟩)] w fun e w' => e = .returned (.iface 38 (.agg #[.int .i64 a1, .int .i64 a2, .int .i64 a3, .int .i64 a4, .int .i64 a5, .int .i64 a6])) ∧ w' = (w.setCell ⟨pb, 0, none⟩ (.slice (some ⟨g, 0, none⟩) k cap)).alloc (.cells #[.int .i64 a1, .int .i64 a2, .int .i64 a3, .int .i64 a4, .int .i64 a5, .int .i64 a6] 38) := by
  go_enter Tryz.func158, Tryz.ntmps158
  go_wp2_with fail
  go_ret
  exact ⟨rfl, rfl⟩

theorem Own.shorter {w : World} {g cap : Nat} {l : List M} {x : M} (h : Own w (.slice (some ⟨g, 0, none⟩) (l.length + 1) cap) (l ++ [x])) : Own w (.slice (some ⟨g, 0, none⟩) l.length cap) l := by
  refine ⟨flat_len l, .inr ?_⟩
  rcases h.2 with ⟨h0, _⟩ | ⟨g', cap', cur, hv, hb, hg, hnc, hcm, hcs, ht⟩
  · simp at h0
  · simp at hv
    obtain ⟨rfl, _, rfl⟩ := hv
    simp at hnc
    refine ⟨g, cap, cur, rfl, hb, hg, by omega, hcm, hcs, ?_⟩
    have e := congrArg (fun z => z.take (l.length * 6)) ht
    simp only [List.take_take, flat_append] at e
    rw [Nat.min_eq_left (by simp; omega)] at e
    rw [e, ← flat_len l, List.take_left]

set_option maxRecDepth 10000 in
set_option maxHeartbeats 400000 in
theorem popp_any {w : World} {pb : Nat} {v : Value} {l : List M} {x : M} (h : IsP w pb v (l ++ [x])) :
    Calls Tryz.prog 158 #[.pointer (some ⟨pb, 0, none⟩)] w fun e w' => e = .returned (.iface 38 (mv x)) ∧ ∃ v', IsP w' pb v' l ∧ Fr (FP pb v) w w' ∧ (∀ k, FP pb v' k → FP pb v k) := by
  have hlen : (l ++ [x]).length = l.length + 1 := by simp
  obtain ⟨g, cap, hv, hg⟩ := own_nonempty h.own (i := l.length) (by simp)
  rw [hlen] at hv
  subst hv
  have hpg : pb ≠ g := fun e => h.nv (by rw [e]; rfl)
  have hown : Own w (.slice (some ⟨g, 0, none⟩) (l ++ [x]).length cap) (l ++ [x]) := by rw [hlen]; exact h.own
  obtain ⟨x0, x1, x2, x3, x4, x5⟩ := own_cell hown (i := l.length) (x := x) (by simp) (by simp)
  have hp := cell_lt h.c0
  have hl := h.len
  have hcc : l.length + 1 ≤ cap ∧ cap ≤ maxLen := by
    rcases h.own.2 with ⟨h0, _⟩ | ⟨g', cap', cur, hv, _, _, hnc, hcm, _⟩
    · simp at h0
    · simp at hv
      obtain ⟨_, _, rfl⟩ := hv
      simp at hnc
      exact ⟨hnc, hcm⟩
  unfold maxLen at hcc
  refine (popp_raw (k := l.length) (cap := cap) (by omega) hcc.1 (by omega) hp hpg h.c0 h.f0 x0 x1 x2 x3 x4 x5).mono fun e w' ⟨he, hw⟩ => ⟨he, .slice (some ⟨g, 0, none⟩) l.length cap, ?_⟩
  obtain ⟨W0, hW0⟩ : ∃ W0, W0 = w.setCell ⟨pb, 0, none⟩ (.slice (some ⟨g, 0, none⟩) l.length cap) := ⟨_, rfl⟩
  rw [← hW0] at hw
  have f0 : Fr (fun k => k = pb) w w' := by rw [hw, hW0]; exact ((Fr.refl (fun k => k = pb) w).setCell _ _ rfl).alloc _
  refine ⟨⟨?_, h.own.shorter.keep f0 (fun g' hg' => by simp [Value.ownBlock] at hg'; subst hg'; exact fun e => hpg e.symm), h.nv, by omega⟩, f0.wide (fun k hk => .inl hk), ?_⟩
  · have e1 : W0.heap[pb]? = some (.cells #[.slice (some ⟨g, 0, none⟩) l.length cap] 67 (0, 0)) := by rw [hW0, heap_setCell_same w pb 0 _ _ _ h.bx]; rfl
    rw [hw, Below.heap_alloc _ _ _ (Array.getElem?_eq_some_iff.1 e1).1]
    exact e1
  · rintro k (rfl | hk)
    · exact .inl rfl
    · exact .inr hk
end Go.Proofs.YtmfcbalhabcodaaGreat.H
