/- Proved: the contract of Carried. -/
import Derived.Test.YtkngokpildoljaaAll
namespace Go.Proofs.Ytkngokpildoljaa
open Go.RowKit Go.Shelf
set_option linter.unusedVariables false
attribute [local go_sem] Oper.semAt_some

/-- Of that colour, and no bound. -/
def isC (c : Int) (x : It) : Bool := (x.k != 2) && (x.co == c)
def carr (c : Int) (l : List It) : Nat := (l.filter (isC c)).length
theorem carr_app (c : Int) (l : List It) (x : It) : carr c (l ++ [x]) = carr c l + (if isC c x = true then 1 else 0) := by
  unfold carr
  by_cases h : isC c x = true <;> simp [h]
theorem carr_le (c : Int) (l : List It) : carr c l ≤ l.length := List.length_filter_le _ _

theorem BoxT.own {W W' : World} {b : Nat} {x : It} {row : Option Nat} (h : BoxT W b x) (hg : W.grownBy W' row) (hr : ∀ r, row = some r → ∃ o : Obj, W.heap[r]? = some o ∧ o.isCells = false) : BoxT W' b x :=
  ⟨(hg.block b h.lt (fun e => by obtain ⟨o, ho, hc⟩ := hr b e.symm; rw [h.b] at ho; cases ho; cases hc)).trans h.b⟩
theorem keepsAlloc (B : Nat) (W : World) (o : Obj) : KeepsFrom B W (W.alloc o) := KeepsFrom.of_grownBy (World.grownBy_alloc W o none) (fun j e => by cases e)

set_option maxRecDepth 100000 in
set_option maxHeartbeats 2000000 in
theorem carried_any {n room : Nat} {L : Ln} {B : Nat} {w : World} (h : Nt n room L B w) (co : Int) :
    Calls Try.prog 22 #[.pointer (some ⟨B, 0, none⟩), .int .i64 co] w fun e w' => e = .returned (.int .i64 (carr co (itms n L))) ∧ Below w.heap.size w w' := by
  have A1 := fun W => items_any W B
  have hlen := itms_len h.ok
  have hB := h.lt
  obtain ⟨xs, hxs⟩ : ∃ xs, itms n L = xs := ⟨_, rfl⟩
  rw [hxs] at hlen ⊢
  have HXS : Hid _ := hxs
  clear hxs
  refine (callsIn_wide (n := 5)).1 ?_
  refine callsIn_of_wp_marks Try.func22 rfl trivial ?_ rfl
  simp only [Try.ntmps22, List.size_toArray, List.length_cons, List.length_nil, Nat.reduceAdd, Nat.reduceSub, Array.replicate_succ, Array.replicate_zero, List.push_toArray, List.append_toArray, List.nil_append, List.cons_append]
  gi_wp2_with (refine ⟨trivial, ?_⟩; gi_at_call 32; refine (callsIn_wide.2 (A1 _)).mono ?_; rintro e w' ⟨rfl, rfl⟩)
  have c0 := cell_new w (.int .i64 co) 3
  have c1 := cell_new (w.alloc (.cells #[.int .i64 co] 3)) (.int .i64 0) 3
  have c2 := cell_new ((w.alloc (.cells #[.int .i64 co] 3)).alloc (.cells #[.int .i64 0] 3)) (.pointer (some ⟨B, 0, none⟩)) 23
  simp only [World.size_alloc] at c1 c2
  have hB0 : Below w.heap.size w (((w.alloc (.cells #[.int .i64 co] 3)).alloc (.cells #[.int .i64 0] 3)).alloc (.cells #[.pointer (some ⟨B, 0, none⟩)] 23)) := Below.on (Below.on (al w _) (al _ _)) (al _ _)
  obtain ⟨W4, hW4⟩ : ∃ W4, ((w.alloc (.cells #[.int .i64 co] 3)).alloc (.cells #[.int .i64 0] 3)).alloc (.cells #[.pointer (some ⟨B, 0, none⟩)] 23) = W4 := ⟨_, rfl⟩
  have s4 : W4.heap.size = w.heap.size + 3 := by rw [← hW4]; simp
  have d0 : W4.cell? ⟨w.heap.size, 0, none⟩ = some (.int .i64 co) := by rw [← hW4]; exact cell_al _ (cell_al _ c0.1)
  have d1 : W4.cell? ⟨w.heap.size + 1, 0, none⟩ = some (.int .i64 0) := by rw [← hW4]; exact cell_al _ c1.1
  have z1 : W4.frozen? ⟨w.heap.size + 1, 0, none⟩ = false := by rw [← hW4]; exact frozen_al _ c1.1 c1.2
  have d2 : W4.cell? ⟨w.heap.size + 1 + 1, 0, none⟩ = some (.pointer (some ⟨B, 0, none⟩)) := by rw [← hW4]; exact c2.1
  rw [hW4] at hB0 ⊢
  have hN4 := h.below hB0
  have IT := iter_stops 4 (by omega) (w.heap.size + 1 + 1) B n room L (fun b => b < w.heap.size ∨ b = w.heap.size + 1 + 1) (.inl hB) (.inr rfl) W4 d2 hN4
  rw [HXS.out] at IT
  clear c0 c1 c2 hW4 h hN4
  refine wpIn_rangeFunc_ownH rfl (by omega) (gf := 37) (lb := #[.pointer (some ⟨w.heap.size + 1 + 1, 0, none⟩)]) rfl trivial (enters_of Try.func37 (by kernel_rfl) rfl) IT
    (fun h k => h.trans k) (fun W l o o' h1 h2 h3 h4 => KpS.put (w := W4) (fun b hb => by omega) W l o o' h1 h2 h3 h4) (Below.refl _ _) (fun _ => rfl)
    (fun pre W => (W.cell? ⟨w.heap.size, 0, none⟩ = some (.int .i64 co) ∧ W.cell? ⟨w.heap.size + 1, 0, none⟩ = some (.int .i64 (carr co pre : Int)) ∧ W.frozen? ⟨w.heap.size + 1, 0, none⟩ = false) ∧ Below w.heap.size w W)
    (fun _ _ _ => False)
    (OwnFrom.and (Own.from (fun s A B row hs hg hr => ⟨cell_kept hs.1 hg hr, cell_kept hs.2.1 hg hr, (frozen_kept hs.2.1 hg hr).trans hs.2.2⟩) _) (ownFrom_below (Nat.le_refl _) (by omega)))
    (fun _ _ _ _ _ hs _ _ => hs)
    ⟨⟨d0, d1, z1⟩, hB0⟩
    (fun x a' W => ∃ b, w.heap.size + 2 ≤ b ∧ BoxT W b x ∧ a' = { tmps := #[.pointer (some ⟨B, 0, none⟩), .int .i64 co, undef, .pointer (some ⟨w.heap.size, 0, none⟩), .int .i64 0, .pointer (some ⟨w.heap.size + 1, 0, none⟩), .pointer (some ⟨b, 0, none⟩), .bool (x.k != 2), .pointer (some ⟨B, 0, none⟩), .func (.func 37) #[] #[.pointer (some ⟨w.heap.size + 1 + 1, 0, none⟩)], iv x, .bool (x.k != 2), undef, undef, undef, undef, undef, undef, undef, undef, undef, undef], defers := [] })
    (fun x a' s A A' row hs hg hr => by
      obtain ⟨b, hb, hx, e⟩ := hs
      exact ⟨b, hb, hx.own hg (fun r e => (hr r e).2), e⟩) ?assign ?body ?done ?stop
  case assign =>
    rintro l pre x W K ⟨⟨hcw, hcr, hfr⟩, hb⟩ hK
    have hz : w.heap.size + 1 < W.heap.size := clt hcr
    simp only [List.zip_toArray, List.zip_cons_cons]
    gi_wp2
    exact hK _ _ (keepsAlloc _ _ _) ((KpS.refl _ _).alloc _) ⟨⟨cell_al _ hcw, cell_al _ hcr, frozen_al _ hcr hfr⟩, Below.on hb (al _ _)⟩ ⟨_, hz, BoxT.new W x, rfl⟩
  case body =>
    rintro l pre x a' W _ _ ⟨⟨hcw, hcr, hfr⟩, hb⟩ ⟨b, hbl, hbx, rfl⟩ hlt
    obtain ⟨e0, e1, e2, e3, e4, e5, e6, e7⟩ := hbx.cells
    have hca := carr_app co pre x
    have hcl := carr_le co pre
    have hl2 : (carr co pre : Int) < 1024 := by omega
    obtain ⟨m, hm⟩ : ∃ m, carr co pre = m := ⟨_, rfl⟩
    rw [hm] at hcr hl2 hca
    have HCA : Hid _ := hca
    clear hlt hbx hcl hca hm
    by_cases hk : x.k = 2
    · have d1 : (x.k != 2) = false := by simpa using hk
      have hi : isC co x = false := by simp [isC, d1]
      rw [d1]
      gi_wp2
      exact ⟨KeepsFrom.refl _ _, KpS.refl _ _, ⟨hcw, by rw [HCA.out, hi]; exact hcr, hfr⟩, hb⟩
    · have d1 : (x.k != 2) = true := by simpa using hk
      rw [d1]
      by_cases hc : x.co = co
      · have d2 : (x.co == co) = true := by simpa using hc
        have hi : isC co x = true := by simp [isC, d1, d2]
        gi_wp2
        exact ⟨(KeepsOthers.setCell _ _ _).from _, KpS.set _ _ _ (show ¬ (w.heap.size + 1 < w.heap.size ∨ w.heap.size + 1 = w.heap.size + 1 + 1) by omega), ⟨by rw [World.cell?_setCell_far _ _ _ _ (by simp)]; exact hcw, by rw [cell_set hcr, HCA.out, hi]; simp, by rw [World.frozen?_setCell]; exact hfr⟩, hb.setCell (p := ⟨w.heap.size + 1, 0, none⟩) (by simp) _⟩
      · have d2 : (x.co == co) = false := by simpa using hc
        have hi : isC co x = false := by simp [isC, d2]
        gi_wp2
        exact ⟨KeepsFrom.refl _ _, KpS.refl _ _, ⟨hcw, by rw [HCA.out, hi]; exact hcr, hfr⟩, hb⟩
  case done =>
    rintro D ys W hD rfl ⟨⟨hcw, hcr, hfr⟩, hb⟩ hK
    gi_wp2
    refine ⟨by simp, .inl ⟨_, _, rfl, run_takeDeferred hK, ?_⟩⟩
    exact ⟨_, results_tmp rfl _ _ _, rfl, hb.trans (belowK_b (w := w) (Nat.le_refl _) W D _ _ (by omega) hK rfl rfl)⟩
  case stop =>
    rintro D c pre W _ _ h _
    exact h.elim
end Go.Proofs.Ytkngokpildoljaa
