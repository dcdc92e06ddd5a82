/- Proved: Meet answers the first one above both classes. -/
import Derived.Test.YtnaodfgchaccoaaIsa
namespace Go.Proofs.Ytnaodfgchaccoaa
open Go.RowKit Go.Shelf
set_option linter.unusedVariables false
attribute [local go_sem] Oper.semAt_some

set_option maxRecDepth 100000 in
set_option maxHeartbeats 2000000 in
theorem meet_any (w : World) (a : Option Addr) (c : Nat) (zs : List Int) (u v : Int) (h : RdI w w.heap.size a zs) (hl : zs.length ≤ 9223372036854775807) :
    Calls Try.prog 18 #[.slice a zs.length c, .int .i64 u, .int .i64 v] w fun e w' => e = .returned (.int .i64 (meet zs u v)) ∧ Below w.heap.size w w' := by
  have A1 := fun W => upw_any (.slice a zs.length c) u W rfl rfl
  have HM : Hid (meet zs u v = ((abv zs u).find? (fun x => decide (x ∈ abv zs v))).getD (-1)) := rfl
  obtain ⟨mm, hmm⟩ : ∃ mm, meet zs u v = mm := ⟨_, rfl⟩
  rw [hmm]
  rw [hmm] at HM
  clear hmm
  refine (callsIn_wide (n := 5)).1 ?_
  refine callsIn_of_wp_marks Try.func18 rfl trivial ?_ rfl
  simp only [Try.ntmps18, List.size_toArray, List.length_cons, List.length_nil, Nat.reduceAdd, Nat.reduceSub, Array.replicate_succ, Array.replicate_zero, List.push_toArray, List.append_toArray, List.nil_append, List.cons_append]
  gi_wp2_with (refine ⟨trivial, ?_⟩; gi_at_call 23; refine (callsIn_wide.2 (A1 _)).mono ?_; rintro e w' ⟨rfl, rfl⟩)
  have hB0 : Below w.heap.size w (((((w.alloc (.cells #[.slice a zs.length c] 22)).alloc (.cells #[.int .i64 v] 3)).alloc (.cells #[.int .i64 0] 3)).alloc (.cells #[.slice a zs.length c] 22)).alloc (.cells #[.int .i64 u] 3)) := (((((Below.refl _ w).alloc (Nat.le_refl _) _).alloc (by simp) _).alloc (by simp; omega) _).alloc (by simp; omega) _).alloc (by simp; omega) _
  have c0 := cell_new w (.slice a zs.length c) 22
  have c1 := cell_new (w.alloc (.cells #[.slice a zs.length c] 22)) (.int .i64 v) 3
  have c2 := cell_new ((w.alloc (.cells #[.slice a zs.length c] 22)).alloc (.cells #[.int .i64 v] 3)) (.int .i64 0) 3
  have c3 := cell_new (((w.alloc (.cells #[.slice a zs.length c] 22)).alloc (.cells #[.int .i64 v] 3)).alloc (.cells #[.int .i64 0] 3)) (.slice a zs.length c) 22
  have c4 := cell_new ((((w.alloc (.cells #[.slice a zs.length c] 22)).alloc (.cells #[.int .i64 v] 3)).alloc (.cells #[.int .i64 0] 3)).alloc (.cells #[.slice a zs.length c] 22)) (.int .i64 u) 3
  simp only [World.size_alloc] at c1 c2 c3 c4
  obtain ⟨W5, hW5⟩ : ∃ W5, ((((w.alloc (.cells #[.slice a zs.length c] 22)).alloc (.cells #[.int .i64 v] 3)).alloc (.cells #[.int .i64 0] 3)).alloc (.cells #[.slice a zs.length c] 22)).alloc (.cells #[.int .i64 u] 3) = W5 := ⟨_, rfl⟩
  have s5 : W5.heap.size = w.heap.size + 5 := by rw [← hW5]; simp
  have d0 : W5.cell? ⟨w.heap.size, 0, none⟩ = some (.slice a zs.length c) := by rw [← hW5]; exact cell_al _ (cell_al _ (cell_al _ (cell_al _ c0.1)))
  have d1 : W5.cell? ⟨w.heap.size + 1, 0, none⟩ = some (.int .i64 v) := by rw [← hW5]; exact cell_al _ (cell_al _ (cell_al _ c1.1))
  have d2 : W5.cell? ⟨w.heap.size + 1 + 1, 0, none⟩ = some (.int .i64 0) := by rw [← hW5]; exact cell_al _ (cell_al _ c2.1)
  have z2 : W5.frozen? ⟨w.heap.size + 1 + 1, 0, none⟩ = false := by rw [← hW5]; exact frozen_al _ (cell_al _ c2.1) (frozen_al _ c2.1 c2.2)
  have d3 : W5.cell? ⟨w.heap.size + 1 + 1 + 1, 0, none⟩ = some (.slice a zs.length c) := by rw [← hW5]; exact cell_al _ c3.1
  have d4 : W5.cell? ⟨w.heap.size + 1 + 1 + 1 + 1, 0, none⟩ = some (.int .i64 u) := by rw [← hW5]; exact c4.1
  rw [hW5] at hB0 ⊢
  have RD := h.below hB0
  clear c0 c1 c2 c3 c4 hW5
  refine wpIn_rangeFunc_ownF rfl (by omega) (gf := 25) (lb := #[.pointer (some ⟨w.heap.size + 1 + 1 + 1, 0, none⟩), .pointer (some ⟨w.heap.size + 1 + 1 + 1 + 1, 0, none⟩)]) rfl trivial (enters_of Try.func25 (by kernel_rfl) rfl)
    (iter_stops 4 (by omega) (w.heap.size + 1 + 1 + 1) (w.heap.size + 1 + 1 + 1 + 1) w.heap.size a c zs u (fun b => b < w.heap.size ∨ b = w.heap.size + 1 + 1 + 1 ∨ b = w.heap.size + 1 + 1 + 1 + 1) (.inr (.inl rfl)) (.inr (.inr rfl)) (fun b hb => .inl hb) W5 (by omega) d3 (by omega) d4 (by omega) RD hl)
    (fun h k => h.trans k) (fun W l o o' h1 h2 h3 h4 => KpS.put (w := W5) (fun b hb => by omega) W l o o' h1 h2 h3 h4) (Below.refl _ _) (fun _ => rfl)
    (fun pre W => ((∀ y ∈ pre, y ∉ abv zs v) ∧ W.cell? ⟨w.heap.size, 0, none⟩ = some (.slice a zs.length c) ∧ W.cell? ⟨w.heap.size + 1, 0, none⟩ = some (.int .i64 v) ∧ W.cell? ⟨w.heap.size + 1 + 1, 0, none⟩ = some (.int .i64 0) ∧ W.frozen? ⟨w.heap.size + 1 + 1, 0, none⟩ = false) ∧ Below w.heap.size w W)
    (fun c pre W => (c = .ret ∧ ∃ q x, pre = q ++ [x] ∧ (∀ y ∈ q, y ∉ abv zs v) ∧ x ∈ abv zs v ∧ W.cell? ⟨w.heap.size + 1 + 1, 0, none⟩ = some (.int .i64 x)) ∧ Below w.heap.size w W)
    (OwnFrom.and (Own.from (fun s A B row hs hg hr => ⟨hs.1, cell_kept hs.2.1 hg hr, cell_kept hs.2.2.1 hg hr, cell_kept hs.2.2.2.1 hg hr, (frozen_kept hs.2.2.2.1 hg hr).trans hs.2.2.2.2⟩) _) (ownFrom_below (Nat.le_refl _) (by omega)))
    (fun c => OwnFrom.and (Own.from (fun s A B row hs hg hr => by obtain ⟨h1, q, x, h2, h3, h4, h5⟩ := hs; exact ⟨h1, q, x, h2, h3, h4, cell_kept h5 hg hr⟩) _) (ownFrom_below (Nat.le_refl _) (by omega)))
    ⟨⟨by simp, d0, d1, d2, z2⟩, hB0⟩
    (fun x => { tmps := #[.slice a zs.length c, .int .i64 u, .int .i64 v, .pointer (some ⟨w.heap.size, 0, none⟩), undef, .pointer (some ⟨w.heap.size + 1, 0, none⟩), .pointer (some ⟨w.heap.size + 1 + 1, 0, none⟩), .int .i64 x, .slice a zs.length c, .int .i64 u, .func (.func 25) #[] #[.pointer (some ⟨w.heap.size + 1 + 1 + 1, 0, none⟩), .pointer (some ⟨w.heap.size + 1 + 1 + 1 + 1, 0, none⟩)], .int .i64 x, undef, undef, undef, undef, undef], defers := [] }) ?assign ?body ?done ?stop
  case assign =>
    intro l x W K hK
    gi_wp2
    exact hK
  case body =>
    rintro l pre x W ⟨⟨hpre, e0, e1, e2, z2'⟩, hB⟩ _
    have I1 := isa_any W a c zs v x (fun hz => by obtain ⟨b, off, hab, hb, hcc⟩ := h.below hB hz; exact ⟨b, off, hab, Nat.lt_of_lt_of_le hb hB.size, hcc⟩) hl
    have hlt : w.heap.size + 1 + 1 < W.heap.size := clt e2
    have kp : ∀ w' : World, Below W.heap.size W w' → KeepsOthers W w' := fun w' hb => ⟨hb.size, fun b o hbo _ => by rw [hb.block b (Array.getElem?_eq_some_iff.1 hbo).1]; exact hbo⟩
    by_cases hin : x ∈ abv zs v
    · rw [decide_eq_true hin] at I1
      gi_wp2_with (refine ⟨trivial, ?_⟩; gi_at_call 16; refine (CallsIn.inRound l (callsIn_wide.2 I1)).mono ?_; rintro e w' ⟨rfl, hb'⟩; have e2' := (hb'.cell (p := ⟨w.heap.size + 1 + 1, 0, none⟩) hlt).trans e2; have z2'' := (World.frozen?_of_block (a := ⟨w.heap.size + 1 + 1, 0, none⟩) (hb'.block _ hlt)).trans z2')
      exact ⟨(kp _ hb').trans (KeepsOthers.setCell _ _ _), ⟨rfl, pre, x, rfl, hpre, hin, World.cell?_setCell_same' _ _ _ (by rw [e2']; rfl)⟩, (hB.trans (hb'.mono hB.size)).setCell (p := ⟨w.heap.size + 1 + 1, 0, none⟩) (by show w.heap.size ≤ w.heap.size + 1 + 1; omega) _⟩
    · rw [decide_eq_false hin] at I1
      gi_wp2_with (refine ⟨trivial, ?_⟩; gi_at_call 16; refine (CallsIn.inRound l (callsIn_wide.2 I1)).mono ?_; rintro e w' ⟨rfl, hb'⟩)
      refine ⟨kp _ hb', ⟨hb'.size, fun b _ hb => hb'.block b hb⟩, ⟨fun y hy => ?_, (hb'.cell (p := ⟨w.heap.size, 0, none⟩) (by show w.heap.size < _; omega)).trans e0, (hb'.cell (p := ⟨w.heap.size + 1, 0, none⟩) (by show w.heap.size + 1 < _; omega)).trans e1, (hb'.cell (p := ⟨w.heap.size + 1 + 1, 0, none⟩) hlt).trans e2, (World.frozen?_of_block (a := ⟨w.heap.size + 1 + 1, 0, none⟩) (hb'.block _ hlt)).trans z2'⟩, hB.trans (hb'.mono hB.size)⟩
      rcases List.mem_append.1 hy with g | g
      · exact hpre y g
      · simp at g; rw [g]; exact hin
  case done =>
    rintro D ys W hD rfl ⟨⟨hne, _, _, e2, z2'⟩, hB⟩ hK
    gi_wp2
    have hK' := (KeepsOthers.setCell W ⟨w.heap.size + 1 + 1, 0, none⟩ (.int .i64 (-1))).same D _ hK rfl
    refine ⟨by simp, .inl ⟨_, _, rfl, run_takeDeferred hK', ?_⟩⟩
    have hc5 := cell_kept (World.cell?_setCell_same' W ⟨w.heap.size + 1 + 1, 0, none⟩ (.int .i64 (-1)) (by rw [e2]; rfl)) (grownBy_putObj' _ D (.deferred none)) (fun r e => by cases e; exact ⟨_, hK', rfl⟩)
    refine ⟨.int .i64 (-1), ?_, ?_, (hB.setCell (p := ⟨w.heap.size + 1 + 1, 0, none⟩) (by show w.heap.size ≤ w.heap.size + 1 + 1; omega) _).trans (belowK_b (w := w) (Nat.le_refl _) _ D _ _ (by omega) hK' rfl rfl)⟩
    · simp [results, Try.f18, go_sem, hc5]
    · rw [HM.out, List.find?_eq_none.2 (fun x hx => by simpa using hne x hx)]; rfl
  case stop =>
    rintro D c pre W hD hpre ⟨⟨rfl, q, x, rfl, hq, hin, hcr⟩, hB⟩ hK
    gi_wp2
    refine ⟨by simp, .inl ⟨_, _, rfl, run_takeDeferred hK, ?_⟩⟩
    have hc5 := cell_kept hcr (grownBy_putObj' _ D (.deferred none)) (fun r e => by cases e; exact ⟨_, hK, rfl⟩)
    refine ⟨.int .i64 x, ?_, ?_, hB.trans (belowK_b (w := w) (Nat.le_refl _) W D _ _ (by omega) hK rfl rfl)⟩
    · simp [results, Try.f18, go_sem, hc5]
    · obtain ⟨rest, hr⟩ := hpre
      rw [HM.out, ← hr, List.append_assoc, List.find?_append, List.find?_eq_none.2 (fun y hy => by simpa using hq y hy)]
      simp [hin]
end Go.Proofs.Ytnaodfgchaccoaa
