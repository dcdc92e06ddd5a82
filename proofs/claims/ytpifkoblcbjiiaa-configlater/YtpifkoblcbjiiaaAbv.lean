/- Proved: Above answers a new slice of what stands above a class (by slices.Collect over the iterator). -/
import Derived.Test.YtpifkoblcbjiiaaItr
namespace Go.Proofs.Ytpifkoblcbjiiaa
open Go.RowKit Go.Shelf
set_option linter.unusedVariables false
attribute [local go_sem] Oper.semAt_some

theorem row0 {W : World} {b0 : Nat} {e : TypeId} {size : Nat} {v : Value} {k : Nat} {xs : List Value} (h : W.ownsRow b0 e size v k xs) : W.ownsRow 0 e size v k xs := by
  refine ⟨h.1, ?_⟩
  rcases h.2 with g | ⟨g, cap, cur, h1, h2, h3⟩
  · exact .inl g
  · exact .inr ⟨g, cap, cur, h1, Nat.zero_le _, h3⟩
theorem row_ge {W : World} {b0 : Nat} {e : TypeId} {size : Nat} {v : Value} {k : Nat} {xs : List Value} (h : W.ownsRow b0 e size v k xs) {g : Nat} (hg : v.ownBlock = some g) : b0 ≤ g := by
  rcases h.2 with ⟨rfl, _⟩ | ⟨g', cap, cur, rfl, h2, _⟩
  · simp [Value.ownBlock] at hg
  · simp [Value.ownBlock] at hg; omega

set_option maxRecDepth 100000 in
set_option maxHeartbeats 2000000 in
/-- slices.AppendSeq(nil, ..) over the iterator. -/
theorem app_any (w : World) (Bp Ba n0 : Nat) (a : Option Addr) (c : Nat) (zs : List Int) (u : Int) (hn0 : n0 ≤ w.heap.size) (hp : w.cell? ⟨Bp, 0, none⟩ = some (.slice a zs.length c)) (ha : w.cell? ⟨Ba, 0, none⟩ = some (.int .i64 u)) (h : RdI w n0 a zs) (hl : zs.length ≤ 9223372036854775807) :
    Calls Try.prog 69 #[.slice none 0 0, .func (.func 70) #[] #[.pointer (some ⟨Bp, 0, none⟩), .pointer (some ⟨Ba, 0, none⟩)]] w fun e w' => ∃ v, e = .returned v ∧ w'.ownsRow w.heap.size 3 1 v (abv zs u).length ((abv zs u).map (Value.int .i64)) ∧ Below w.heap.size w w' := by
  have hBp : Bp < w.heap.size := clt hp
  have hBa : Ba < w.heap.size := clt ha
  have hAL := abv_len zs u
  obtain ⟨xs, hxs⟩ : ∃ xs, abv zs u = xs := ⟨_, rfl⟩
  rw [hxs] at hAL ⊢
  have HXS : Hid _ := hxs
  clear hxs
  obtain ⟨i0, hi, hz0, hz1, hz2⟩ := info_parts info3
  refine (callsIn_wide (n := 5)).1 ?_
  refine callsIn_of_wp_marks Try.func69 rfl trivial ?_ rfl
  simp only [Try.ntmps69, List.size_toArray, List.length_cons, List.length_nil, Nat.reduceAdd, Nat.reduceSub, Array.replicate_succ, Array.replicate_zero, List.push_toArray, List.append_toArray, List.nil_append, List.cons_append]
  gi_wp2
  have hB0 : Below w.heap.size w (w.alloc (.cells #[.slice none 0 0] 22)) := (Below.refl _ w).alloc (Nat.le_refl _) _
  have bO := Boxed.new w 22 (.slice none 0 0)
  have d2 := cell_al (.cells #[.slice none 0 0] 22) hp
  have d3 := cell_al (.cells #[.slice none 0 0] 22) ha
  obtain ⟨W3, hW3⟩ : ∃ W3, w.alloc (.cells #[.slice none 0 0] 22) = W3 := ⟨_, rfl⟩
  have s3 : W3.heap.size = w.heap.size + 1 := by rw [← hW3]; simp
  rw [hW3] at hB0 bO d2 d3 ⊢
  have RD := h.below (hB0.mono hn0)
  have IT := iter_stops 4 (by omega) Bp Ba n0 a c zs u (fun b => b < w.heap.size) hBp hBa (fun b hb => Nat.lt_of_lt_of_le hb hn0) W3 (by omega) d2 (by omega) d3 (by omega) RD hl
  rw [HXS.out] at IT
  clear hW3
  refine wpIn_rangeFunc_ownF rfl (by omega) (gf := 70) (lb := #[.pointer (some ⟨Bp, 0, none⟩), .pointer (some ⟨Ba, 0, none⟩)]) rfl trivial (enters_of Try.func70 (by kernel_rfl) rfl) IT
    (fun h k => h.trans k) (fun W l o o' h1 h2 h3 h4 => KpS.put (w := W3) (fun b hb => by omega) W l o o' h1 h2 h3 h4) (Below.refl _ _) (fun _ => rfl)
    (fun pre W => ((∃ v, Boxed W w.heap.size 22 v ∧ W.ownsRow (w.heap.size + 1) 3 1 v pre.length (pre.map (Value.int .i64)) ∧ True) ∧ True) ∧ Below w.heap.size w W)
    (fun _ _ _ => False)
    (OwnFrom.and (OwnFrom.and (Own.from (holdsRow_own (w.heap.size + 1) w.heap.size 22 3 1 (fun pre : List Int => pre.length) (fun pre => pre.map (Value.int .i64)) (fun pre v => True)) _) (Own.from (fun s A B row hs hg hr => trivial) _)) (ownFrom_below (Nat.le_refl _) (by omega)))
    (fun _ _ _ _ _ hs _ _ => hs)
    ⟨⟨⟨_, bO, World.ownsRow_nil _ _ _ _, trivial⟩, trivial⟩, hB0⟩
    (fun x => { tmps := #[.slice none 0 0, .func (.func 70) #[] #[.pointer (some ⟨Bp, 0, none⟩), .pointer (some ⟨Ba, 0, none⟩)], .pointer (some ⟨w.heap.size, 0, none⟩), undef, .slice none 0 0, .int .i64 x, .func (.func 70) #[] #[.pointer (some ⟨Bp, 0, none⟩), .pointer (some ⟨Ba, 0, none⟩)], .int .i64 x, undef, undef, undef, undef, undef], defers := [] }) ?assign ?body ?done ?stop
  case assign =>
    intro l x W K hK
    gi_wp2
    exact hK
  case body =>
    rintro l pre x W ⟨⟨⟨v, hv, hrow, _⟩, _⟩, hB⟩ hlt
    have hc := hv.cell
    have hsz : w.heap.size + 1 ≤ W.heap.size := clt hc
    gi_wp2_with (gi_at_builtin; refine wpListIn_append_own _ rfl _ _ 22 rfl (w.heap.size + 1) 3 i0 (.int .i64 0) 1 8 Try.underlying22 hi hz0 hz1 hz2 rfl (by decide) _ _ _ rfl (hrow.alloc _) ⟨W.heap.size, 0, none⟩ 1 1 [.int .i64 x] rfl rfl (cell_one_new _ _ _) (by simp [Value.oneCell']) (by unfold maxLen; omega) (by omega) (by simp; omega) ?_; intro v' w1 hown' hgrow _; obtain ⟨g', cap', rfl⟩ := ownsRow_succ hown'; obtain ⟨hv1, hv2, hr2, hk2, hb2⟩ := hv.appended (n₀ := 0) (by decide) (row0 hrow) (Nat.zero_le _) (Nat.zero_le _) (row0 hown') hgrow; have hc1 := hv1.cell; have hf1 := hv1.frozen)
    have hrow2 := hown'.kept (grownBy_setCell' w1 w.heap.size (.slice (some ⟨g', 0, none⟩) (pre.length + 1) cap')) (.inr (hv1.not_row (by decide) (row0 hown')).symm)
    have hbl : ∀ b, b < w.heap.size → (w1.setCell ⟨w.heap.size, 0, none⟩ (.slice (some ⟨g', 0, none⟩) (pre.length + 1) cap')).heap[b]? = W.heap[b]? := by
      intro b hb
      rw [Below.heap_setCell _ _ _ _ (by show b ≠ w.heap.size; omega), hgrow.block b (by simp; omega) (fun e => by have := row_ge hrow (g := b) e.symm; omega), Below.heap_alloc _ _ _ (by omega)]
    have hs1 := hgrow.size
    simp only [World.size_alloc] at hs1
    refine ⟨hk2, ⟨by simp; omega, fun b hb _ => hbl b hb⟩, ⟨⟨_, hv2, by simpa using hrow2, trivial⟩, trivial⟩, ?_⟩
    exact ⟨hgrow.os.trans hB.os, hgrow.tape.trans hB.tape, hgrow.output.trans hB.output, by have := hB.size; simp; omega, fun b hb => (hbl b hb).trans (hB.block b hb)⟩
  case done =>
    rintro D ys W hD rfl ⟨⟨⟨v, hv, hrow, _⟩, _⟩, hB⟩ hK
    have hc := hv.cell
    gi_wp2
    refine ⟨by simp, .inl ⟨_, _, rfl, run_takeDeferred hK, ?_⟩⟩
    have hrow' : W.ownsRow w.heap.size 3 1 v ys.length (ys.map (Value.int .i64)) := by
      refine ⟨hrow.1, ?_⟩
      rcases hrow.2 with g | ⟨g, cap, cur, h1, h2, h3⟩
      · exact .inl g
      · exact .inr ⟨g, cap, cur, h1, by omega, h3⟩
    exact ⟨_, results_tmp rfl _ _ _, v, rfl, ownsRow_putObj hrow' _ hK rfl, hB.trans (belowK_b (w := w) (Nat.le_refl _) W D _ _ (by omega) hK rfl rfl)⟩
  case stop =>
    rintro D c pre W _ _ h _
    exact h.elim

/-- slices.Collect over the iterator. -/
theorem col_any (w : World) (Bp Ba n0 : Nat) (a : Option Addr) (c : Nat) (zs : List Int) (u : Int) (hn0 : n0 ≤ w.heap.size) (hp : w.cell? ⟨Bp, 0, none⟩ = some (.slice a zs.length c)) (ha : w.cell? ⟨Ba, 0, none⟩ = some (.int .i64 u)) (h : RdI w n0 a zs) (hl : zs.length ≤ 9223372036854775807) :
    Calls Try.prog 51 #[.func (.func 70) #[] #[.pointer (some ⟨Bp, 0, none⟩), .pointer (some ⟨Ba, 0, none⟩)]] w fun e w' => ∃ a' c', e = .returned (.slice a' (abv zs u).length c') ∧ RdI w' w'.heap.size a' (abv zs u) ∧ Below w.heap.size w w' := by
  have A := app_any w Bp Ba n0 a c zs u hn0 hp ha h hl
  obtain ⟨xs, hxs⟩ : ∃ xs, abv zs u = xs := ⟨_, rfl⟩
  rw [hxs] at A ⊢
  clear hxs
  go_enter Try.func51, Try.ntmps51
  go_wp2_with (go_at_call 69; refine A.mono ?_; rintro e w' ⟨v, rfl, hrow, hB⟩; obtain ⟨a', c', rfl, hR⟩ := rdI_of_row hrow)
  go_ret
  exact ⟨a', c', rfl, hR, hB⟩

theorem above_any (w : World) (a : Option Addr) (c : Nat) (zs : List Int) (u : Int) (h : RdI w w.heap.size a zs) (hl : zs.length ≤ 9223372036854775807) :
    Calls Try.prog 30 #[.slice a zs.length c, .int .i64 u] w fun e w' => ∃ a' c', e = .returned (.slice a' (abv zs u).length c') ∧ RdI w' w'.heap.size a' (abv zs u) ∧ Below w.heap.size w w' := by
  have A1 := upw_any (.slice a zs.length c) u w rfl rfl
  have c2 := cell_new w (.slice a zs.length c) 22
  have c3 := cell_new (w.alloc (.cells #[.slice a zs.length c] 22)) (.int .i64 u) 3
  simp only [World.size_alloc] at c3
  have hB0 : Below w.heap.size w ((w.alloc (.cells #[.slice a zs.length c] 22)).alloc (.cells #[.int .i64 u] 3)) := ((Below.refl _ w).alloc (Nat.le_refl _) _).alloc (by simp) _
  have A := col_any ((w.alloc (.cells #[.slice a zs.length c] 22)).alloc (.cells #[.int .i64 u] 3)) w.heap.size (w.heap.size + 1) w.heap.size a c zs u (by simp; omega) (cell_al _ c2.1) c3.1 (h.below hB0) hl
  obtain ⟨xs, hxs⟩ : ∃ xs, abv zs u = xs := ⟨_, rfl⟩
  rw [hxs] at A ⊢
  clear hxs
  go_enter Try.func30, Try.ntmps30
  go_wp2_with (first | (go_at_call 52; refine A1.mono ?_; rintro e w' ⟨rfl, rfl⟩) | (go_at_call 51; refine A.mono ?_; rintro e w2 ⟨a', c', rfl, hR, hB⟩))
  go_ret
  exact ⟨a', c', rfl, hR, hB0.trans (hB.mono (by simp; omega))⟩
end Go.Proofs.Ytpifkoblcbjiiaa
