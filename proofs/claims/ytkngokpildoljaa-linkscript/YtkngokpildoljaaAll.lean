/- Proved: contracts of All, Carried, Least. -/
import Derived.Test.YtkngokpildoljaaIts
namespace Go.Proofs.Ytkngokpildoljaa
open Go.RowKit Go.Shelf
set_option linter.unusedVariables false
attribute [local go_sem] Oper.semAt_some

theorem cell_of_box {W : World} {B : Nat} {v : Value} {t : TypeId} (h : W.heap[B]? = some (.cells #[v] t (0, 0))) : W.cell? ⟨B, 0, none⟩ = some v ∧ W.frozen? ⟨B, 0, none⟩ = false := by
  constructor <;> simp [World.cell?, World.frozen?, h]
theorem cell_new (W : World) (v : Value) (t : TypeId) : (W.alloc (.cells #[v] t)).cell? ⟨W.heap.size, 0, none⟩ = some v ∧ (W.alloc (.cells #[v] t)).frozen? ⟨W.heap.size, 0, none⟩ = false :=
  cell_of_box (World.alloc_heap_new W _)
theorem cell_al {W : World} {a : Addr} {v : Value} (o : Obj) (h : W.cell? a = some v) : (W.alloc o).cell? a = some v := cell_kept h (World.grownBy_alloc W o none) (fun r e => by cases e)
theorem frozen_al {W : World} {a : Addr} {v : Value} (o : Obj) (h : W.cell? a = some v) (hf : W.frozen? a = false) : (W.alloc o).frozen? a = false := (frozen_kept h (World.grownBy_alloc W o none) (fun r e => by cases e)).trans hf

theorem cell_set {W : World} {p : Addr} {v u : Value} (h : W.cell? p = some u) : (W.setCell p v).cell? p = some v := World.cell?_setCell_same' _ _ _ (by rw [h]; rfl)
theorem KpS.set {S : Nat → Prop} (W : World) (p : Addr) (v : Value) (h : ¬ S p.block) : KpS S W (W.setCell p v) :=
  ⟨by simp, fun b hb hlt => Below.heap_setCell _ _ _ _ (fun e => h (e ▸ hb))⟩
theorem KpS.alloc {S : Nat → Prop} {A W : World} (h : KpS S A W) (o : Obj) : KpS S A (W.alloc o) :=
  ⟨by have := h.1; simp; omega, fun b hb hlt => (Below.heap_alloc _ _ _ (Nat.lt_of_lt_of_le hlt h.1)).trans (h.2 b hb hlt)⟩

set_option maxRecDepth 100000 in
set_option maxHeartbeats 2000000 in
theorem all_any {n room : Nat} {L : Ln} {B : Nat} {w : World} (h : Nt n room L B w) :
    Calls Try.prog 20 #[.pointer (some ⟨B, 0, none⟩)] w fun e w' => e = .returned (.int .i64 (itms n L).length) ∧ Below w.heap.size w w' := by
  have A1 := fun W => items_any W B
  have hlen := itms_len h.ok
  have hB := h.lt
  obtain ⟨xs, hxs⟩ : ∃ xs, itms n L = xs := ⟨_, rfl⟩
  rw [hxs] at hlen ⊢
  have HXS : Hid _ := hxs
  clear hxs
  refine (callsIn_wide (n := 5)).1 ?_
  refine callsIn_of_wp_marks Try.func20 rfl trivial ?_ rfl
  simp only [Try.ntmps20, List.size_toArray, List.length_cons, List.length_nil, Nat.reduceAdd, Nat.reduceSub, Array.replicate_succ, Array.replicate_zero, List.push_toArray, List.append_toArray, List.nil_append, List.cons_append]
  gi_wp2_with (refine ⟨trivial, ?_⟩; gi_at_call 32; refine (callsIn_wide.2 (A1 _)).mono ?_; rintro e w' ⟨rfl, rfl⟩)
  have c0 := cell_new w (.int .i64 0) 3
  have c1 := cell_new (w.alloc (.cells #[.int .i64 0] 3)) (.pointer (some ⟨B, 0, none⟩)) 23
  simp only [World.size_alloc] at c1
  have hB0 : Below w.heap.size w ((w.alloc (.cells #[.int .i64 0] 3)).alloc (.cells #[.pointer (some ⟨B, 0, none⟩)] 23)) := Below.on (al w _) (al _ _)
  obtain ⟨W4, hW4⟩ : ∃ W4, (w.alloc (.cells #[.int .i64 0] 3)).alloc (.cells #[.pointer (some ⟨B, 0, none⟩)] 23) = W4 := ⟨_, rfl⟩
  have s4 : W4.heap.size = w.heap.size + 2 := by rw [← hW4]; simp
  have d0 : W4.cell? ⟨w.heap.size, 0, none⟩ = some (.int .i64 0) := by rw [← hW4]; exact cell_al _ c0.1
  have z0 : W4.frozen? ⟨w.heap.size, 0, none⟩ = false := by rw [← hW4]; exact frozen_al _ c0.1 c0.2
  have d1 : W4.cell? ⟨w.heap.size + 1, 0, none⟩ = some (.pointer (some ⟨B, 0, none⟩)) := by rw [← hW4]; exact c1.1
  rw [hW4] at hB0 ⊢
  have hN4 := h.below hB0
  have IT := iter_stops 4 (by omega) (w.heap.size + 1) B n room L (fun b => b < w.heap.size ∨ b = w.heap.size + 1) (.inl hB) (.inr rfl) W4 d1 hN4
  rw [HXS.out] at IT
  clear c0 c1 hW4 h hN4
  refine wpIn_rangeFunc_ownF rfl (by omega) (gf := 37) (lb := #[.pointer (some ⟨w.heap.size + 1, 0, none⟩)]) rfl trivial (enters_of Try.func37 (by kernel_rfl) rfl) IT
    (fun h k => h.trans k) (fun W l o o' h1 h2 h3 h4 => KpS.put (w := W4) (fun b hb => by omega) W l o o' h1 h2 h3 h4) (Below.refl _ _) (fun _ => rfl)
    (fun pre W => (W.cell? ⟨w.heap.size, 0, none⟩ = some (.int .i64 (pre.length : Int)) ∧ W.frozen? ⟨w.heap.size, 0, none⟩ = false) ∧ Below w.heap.size w W)
    (fun _ _ _ => False)
    (OwnFrom.and (Own.from (fun s A B row hs hg hr => ⟨cell_kept hs.1 hg hr, (frozen_kept hs.1 hg hr).trans hs.2⟩) _) (ownFrom_below (Nat.le_refl _) (by omega)))
    (fun _ _ _ _ _ hs _ _ => hs)
    ⟨⟨d0, z0⟩, hB0⟩
    (fun x => { tmps := #[.pointer (some ⟨B, 0, none⟩), undef, .int .i64 0, .pointer (some ⟨w.heap.size, 0, none⟩), .pointer (some ⟨B, 0, none⟩), .func (.func 37) #[] #[.pointer (some ⟨w.heap.size + 1, 0, none⟩)], iv x, .bool (x.k != 2), undef, undef, undef], defers := [] }) ?assign ?body ?done ?stop
  case assign =>
    intro l x W K hK
    gi_wp2
    simpa using hK
  case body =>
    rintro l pre x W ⟨⟨hcw, hfr⟩, hb⟩ hlt
    have hl2 : (pre.length : Int) < 1024 := by omega
    obtain ⟨m, hm⟩ : ∃ m, pre.length = m := ⟨_, rfl⟩
    rw [hm] at hcw hl2
    have HM : Hid _ := hm
    clear hm hlt
    gi_wp2
    exact ⟨KeepsOthers.setCell _ _ _, KpS.set _ _ _ (show ¬ (w.heap.size < w.heap.size ∨ w.heap.size = w.heap.size + 1) by omega), ⟨by rw [cell_set hcw]; simp [HM.out], by rw [World.frozen?_setCell]; exact hfr⟩, hb.setCell (p := ⟨w.heap.size, 0, none⟩) (by simp) _⟩
  case done =>
    rintro D ys W hD rfl ⟨⟨hcr, hfr⟩, hb⟩ hK
    gi_wp2
    refine ⟨by simp, .inl ⟨_, _, rfl, run_takeDeferred hK, ?_⟩⟩
    exact ⟨_, results_tmp rfl _ _ _, rfl, hb.trans (belowK_b (w := w) (Nat.le_refl _) W D _ _ (by omega) hK rfl rfl)⟩
  case stop =>
    rintro D c pre W _ _ h _
    exact h.elim
end Go.Proofs.Ytkngokpildoljaa
