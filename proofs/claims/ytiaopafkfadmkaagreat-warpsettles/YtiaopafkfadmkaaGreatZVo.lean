/- Joined: the texts that follow, each with its own sentence. -/
import Derived.Test.YtiaopafkfadmkaaGreatZJa
import Derived.Test.YtiaopafkfadmkaaGreatZTm
import Derived.RangeFuncKeeps
import Derived.Maps.OwnIn
import Derived.Sort.MapsRangeIn
set_option linter.unusedVariables false
set_option maxRecDepth 100000
namespace Go.Proofs.YtiaopafkfadmkaaGreat.V
open Go.RowKit Go.Shelf Go.Maps
open Go.Proofs.YtiaopafkfadmkaaGreat.C (MapC keyed3)
attribute [local go_sem] Oper.semAt_some
def Vls (P : Int → Bool) (c : Int → Int) (xs : List Int) : Prop := (∀ j, P j = true → c j ∈ xs) ∧ ∀ y ∈ xs, ∃ j, P j = true ∧ y = c j
def Vlw (P : Int → Bool) (c : Int → Int) (left : Lit → Bool) (xs : List Int) : Prop := (∀ j, P j = true → left (.int .i64 j) = false → c j ∈ xs) ∧ ∀ y ∈ xs, ∃ j, P j = true ∧ y = c j
theorem Vlw.step {P : Int → Bool} {c : Int → Int} {left : Lit → Bool} {xs : List Int} (h : Vlw P c left xs) {x : Int} (hx : P x = true) : Vlw P c (fun z => left z && !z.sameKey (.int .i64 x)) (xs ++ [c x]) := by
 refine ⟨fun j hj hl => ?_, fun y hy => ?_⟩
 ·by_cases e : j = x
  ·subst e
   simp
  ·have : left (.int .i64 j) = false := by
    dsimp only at hl
    rw [Maps.sameKey_ne (C.lit_ne e)] at hl
    simpa using hl
   exact List.mem_append_left _ (h.1 j hj this)
 ·rcases List.mem_append.1 hy with g | g
  ·exact h.2 y g
  ·exact ⟨x, hx, by simpa using g⟩
set_option maxHeartbeats 2000000 in
theorem vals_in (n : Nat) (hn : 1 ≤ n) (l Bm b nn : Nat) {P : Int → Bool} {c : Int → Int} {D : DataW Unit} (J Jx : List Int → World → Prop)
  (hY : ∀ pre x W, J pre W → pre.length < Maps.size D → YieldAt Fence.wide (n - 1) Tryz.prog l #[.int .i64 x] W fun e W' => (e = .returned (.bool true) ∧ J (pre ++ [x]) W' ∧ KeepsWalks W W') ∨ (e = .returned (.bool false) ∧ Jx (pre ++ [x]) W'))
  (W : World) (hJ : AbidesFrom W.heap.size J) (hm : W.cell? ⟨Bm, 0, none⟩ = some (.map (some b))) (hM : MapC W b nn P c D) (h0 : J [] W) :
  CallsIn Fence.wide n Tryz.prog 127 #[.func (.yield l) #[] #[], .pointer (some ⟨Bm, 0, none⟩)] W fun e W' => (∃ v, e = .returned v) ∧ ((∃ xs, Vls P c xs ∧ J xs W') ∨ (∃ pre, True ∧ Jx pre W')) := by
 refine callsIn_of_wp Tryz.func127 rfl trivial ?_ rfl
 simp only [Tryz.ntmps127, List.size_toArray, List.length_cons, List.length_nil, Nat.reduceAdd, Nat.reduceSub, Array.replicate_succ, Array.replicate_zero, List.push_toArray, List.append_toArray, List.nil_append, List.cons_append]
 have hown := hM.own
 gi_wp2_with (first
  | (gi_at_range; refine wpListIn_range_own _ rfl _ 96 rfl 3 3 keyed3 Tryz.underlying96 _ b nn _ rfl hown ?_; intro w0 hrg0 hg0 hs0)
  | gi_in)
 go_frame
 gi_loopw [4] (fun _ wr => ∃ (left : Lit → Bool) (cnt : Nat) (ss : List Int), wr.ranges Tryz.prog 3 (plainElem Tryz.prog 3) b W.heap.size nn D left cnt ∧ ss.length + cnt ≤ Maps.size D ∧ Hid (Vlw P c left ss) ∧ J ss wr)
  (fun _ wr => wr.rangeLeft b W.heap.size)
 case atStart =>
  exact ⟨_, _, [], hrg0, by simp, ⟨fun j hj hl => (by rw [hM.has j, hj] at hl; cases hl), fun y hy => (by cases hy)⟩, hJ [] W w0 none h0 hg0 (fun r e => by cases e)⟩
 case round =>
  obtain ⟨left, cnt, ss, hrg, hcs, hC, hJs⟩ := hrel
  gi_wp2_with (first
   | (gi_at_next; refine wpListIn_next_ranges_ii _ rfl _ rfl 3 3 .i64 .i64 keyed3 Tryz.underlying3 Tryz.underlying3 b W.heap.size nn _ _ _ rfl hrg ?_ ?_)
   | gi_in)
  ·intro hc0 hl0
   gi_wp2
   go_end0
   exact ⟨⟨_, rfl⟩, .inl ⟨ss, ⟨fun j hj => hC.out.1 j hj (hl0 _), hC.out.2⟩, hJs⟩⟩
  ·intro x y w2 cnt2 hwx hwc hlx hat hrg2 hlt hg2 hs2 hen
   have hx : P x = true := by rw [← hM.has x]; exact Maps.has_true_of_atKey hat
   have hy : y = c x := by
    have e := (hat .nil).symm.trans (hM.val x hx .nil)
    simpa using e
   have hJ2 : J ss w2 := hJ ss wr w2 (some W.heap.size) hJs hg2 (fun r e => by cases e; exact ⟨Nat.le_refl _, hrg.iter_walk⟩)
   obtain ⟨fn, tmps, assign, body, hyy, hR⟩ := hY ss y w2 hJ2 (by omega)
   have hC2 : Hid (Vlw P c (fun z => left z && !z.sameKey (.int .i64 x)) (ss ++ [y])) := by rw [hy]; exact hC.out.step hx
   clear hs2 hx hy hat hlx hwx hwc
   gi_wp2
   refine hR.mono ?_
   rintro e W3 (⟨rfl, hJ3, hk3⟩ | ⟨rfl, hx3⟩)
   ·gi_wp2
    have hrg3 := hrg2.of_walks hk3
    go_roundw
    case rel => exact ⟨_, cnt2, ss ++ [y], hrg3, by simp; omega, hC2, hJ3⟩
    case measure => rw [hrg3.left_eq, hrg.left_eq]; exact hlt
   ·gi_wp2
    exact bodyPost_ret (results_none rfl _ _ _) rfl ⟨⟨_, rfl⟩, .inr ⟨_, trivial, hx3⟩⟩
theorem vals_stops (n : Nat) (hn : 1 ≤ n) (Bm b nn : Nat) {P : Int → Bool} {c : Int → Int} {D : DataW Unit} (w : World) (hm : w.cell? ⟨Bm, 0, none⟩ = some (.map (some b))) (hBm : Bm < w.heap.size) (hM : MapC w b nn P c D) :
  SeqStopsK Fence.wide n Tryz.prog 127 #[.pointer (some ⟨Bm, 0, none⟩)] (fun x : Int => #[Value.int .i64 x]) KeepsWalks (Vls P c) (fun _ => True) (Maps.size D) w := fun l J Jx W hW hJ _ hY h0 =>
 vals_in n hn l Bm b nn J Jx hY W hJ ((hW.cell (p := ⟨Bm, 0, none⟩) hBm).trans hm) (hM.keep (C.Fr.of_below (S := fun _ => False) hW) (fun g => g)) h0
set_option maxHeartbeats 2000000 in
theorem vapp_any (w : World) (Bm b nn : Nat) {P : Int → Bool} {c : Int → Int} {D : DataW Unit} (hm : w.cell? ⟨Bm, 0, none⟩ = some (.map (some b))) (hM : MapC w b nn P c D) (hnn : nn ≤ 1000) :
  Calls Tryz.prog 126 #[.slice none 0 0, .func (.func 127) #[] #[.pointer (some ⟨Bm, 0, none⟩)]] w fun e w' => ∃ v ys, e = .returned v ∧ Vls P c ys ∧ ys.length ≤ nn ∧ w'.ownsRow w.heap.size 3 1 v ys.length (ys.map (Value.int .i64)) ∧ Below w.heap.size w w' := by
 have hBm : Bm < w.heap.size := clt hm
 have hAL : Maps.size D ≤ nn := hM.own.size_le
 obtain ⟨i0, hi, hz0, hz1, hz2⟩ := info_parts info3
 refine (callsIn_wide (n := 5)).1 ?_
 refine callsIn_of_wp_marks Tryz.func126 rfl trivial ?_ rfl
 simp only [Tryz.ntmps126, List.size_toArray, List.length_cons, List.length_nil, Nat.reduceAdd, Nat.reduceSub, Array.replicate_succ, Array.replicate_zero, List.push_toArray, List.append_toArray, List.nil_append, List.cons_append]
 gi_wp2
 have hB0 : Below w.heap.size w (w.alloc (.cells #[.slice none 0 0] 22)) := (Below.refl _ w).alloc (Nat.le_refl _) _
 have bO := Boxed.new w 22 (.slice none 0 0)
 have d2 := cell_al (.cells #[.slice none 0 0] 22) hm
 obtain ⟨W3, hW3⟩ : ∃ W3, w.alloc (.cells #[.slice none 0 0] 22) = W3 := ⟨_, rfl⟩
 have s3 : W3.heap.size = w.heap.size + 1 := by rw [← hW3]; simp
 rw [hW3] at hB0 bO d2 ⊢
 have IT := vals_stops 4 (by omega) Bm b nn W3 d2 (by omega) (hM.keep (C.Fr.of_below (S := fun _ => False) hB0) (fun g => g))
 clear hW3
 refine wpIn_rangeFunc_ownF rfl (by omega) (gf := 127) (lb := #[.pointer (some ⟨Bm, 0, none⟩)]) rfl trivial (enters_of Tryz.func127 (by kernel_rfl) rfl) IT
  (fun h k => walksK_t h k) (fun W l o o' h1 h2 h3 h4 => walksK_b (w := W3) W l o o' h1 h2 h3 h4) (Below.refl _ _) (fun _ => rfl)
  (fun pre W => ((∃ v, Boxed W w.heap.size 22 v ∧ W.ownsRow (w.heap.size + 1) 3 1 v pre.length (pre.map (Value.int .i64)) ∧ pre.length ≤ nn) ∧ True) ∧ Below w.heap.size w W)
  (fun _ _ _ => False)
  (OwnFrom.and (OwnFrom.and (Own.from (holdsRow_own (w.heap.size + 1) w.heap.size 22 3 1 (fun pre : List Int => pre.length) (fun pre => pre.map (Value.int .i64)) (fun pre v => pre.length ≤ nn)) _) (Own.from (fun s A B row hs hg hr => trivial) _)) (ownFrom_below (Nat.le_refl _) (by omega)))
  (fun _ _ _ _ _ hs _ _ => hs)
  ⟨⟨⟨_, bO, World.ownsRow_nil _ _ _ _, by simp⟩, trivial⟩, hB0⟩
  (fun x => { tmps := #[.slice none 0 0, .func (.func 127) #[] #[.pointer (some ⟨Bm, 0, none⟩)], .pointer (some ⟨w.heap.size, 0, none⟩), undef, .slice none 0 0, .int .i64 x, .func (.func 127) #[] #[.pointer (some ⟨Bm, 0, none⟩)], .int .i64 x, undef, undef, undef, undef, undef], defers := [] }) ?assign ?body ?done ?stop
 case assign =>
  intro l x W K hK
  gi_wp2
  exact hK
 case body =>
  rintro l pre x W ⟨⟨⟨v, hv, hrow, hpn⟩, _⟩, hB⟩ hlt
  have hc := hv.cell
  have hsz : w.heap.size + 1 ≤ W.heap.size := clt hc
  gi_wp2_with (gi_at_builtin; refine wpListIn_append_own _ rfl _ _ 22 rfl (w.heap.size + 1) 3 i0 (.int .i64 0) 1 8 Tryz.underlying22 hi hz0 hz1 hz2 rfl (by decide) _ _ _ rfl (hrow.alloc _) ⟨W.heap.size, 0, none⟩ 1 1 [.int .i64 x] rfl rfl (cell_one_new _ _ _) (by simp [Value.oneCell']) (by unfold maxLen; omega) (by omega) (by simp; omega) ?_; intro v' w1 hown' hgrow _; obtain ⟨g', cap', rfl⟩ := ownsRow_succ hown'; obtain ⟨hv1, hv2, hr2, hk2, hb2⟩ := hv.appended (n₀ := 0) (by decide) (row0 hrow) (Nat.zero_le _) (Nat.zero_le _) (row0 hown') hgrow; have hc1 := hv1.cell; have hf1 := hv1.frozen)
  have hrow2 := hown'.kept (grownBy_setCell' w1 w.heap.size (.slice (some ⟨g', 0, none⟩) (pre.length + 1) cap')) (.inr (hv1.not_row (by decide) (row0 hown')).symm)
  have hbl : ∀ b, b < w.heap.size → (w1.setCell ⟨w.heap.size, 0, none⟩ (.slice (some ⟨g', 0, none⟩) (pre.length + 1) cap')).heap[b]? = W.heap[b]? := by
   intro b hb
   rw [Below.heap_setCell _ _ _ _ (by show b ≠ w.heap.size; omega), hgrow.block b (by simp; omega) (fun e => by have := row_ge hrow (g := b) e.symm; omega), Below.heap_alloc _ _ _ (by omega)]
  have hs1 := hgrow.size
  simp only [World.size_alloc] at hs1
  have hkw : KeepsWalks W (w1.setCell ⟨w.heap.size, 0, none⟩ (.slice (some ⟨g', 0, none⟩) (pre.length + 1) cap')) := by
   have hgv : (W.alloc (.cells #[.int .i64 x] 3)).grownBy w1 v.ownBlock := hgrow
   refine ((KeepsWalks.alloc W _).trans (KeepsWalks.of_grownBy hgv (fun j o e ho => ?_))).trans (KeepsWalks.setCell w1 _ _)
   rcases (hrow.alloc (.cells #[.int .i64 x] 3)).2 with ⟨e2, _⟩ | ⟨g, cap, cur, e2, _, h3, _⟩
   ·rw [e2] at e
    simp [Value.ownBlock] at e
   ·rw [e2] at e
    simp [Value.ownBlock] at e
    subst e
    rw [h3] at ho
    cases ho
    rfl
  refine ⟨hk2, hkw, ⟨⟨_, hv2, by simpa using hrow2, by simp; omega⟩, trivial⟩, ?_⟩
  exact ⟨hgrow.os.trans hB.os, hgrow.tape.trans hB.tape, hgrow.output.trans hB.output, by have := hB.size; simp; omega, fun b hb => (hbl b hb).trans (hB.block b hb)⟩
 case done =>
  rintro D' ys W hD hS ⟨⟨⟨v, hv, hrow, hyn⟩, _⟩, hB⟩ hK
  have hc := hv.cell
  gi_wp2
  refine ⟨by simp, .inl ⟨_, _, rfl, run_takeDeferred hK, ?_⟩⟩
  have hrow' : W.ownsRow w.heap.size 3 1 v ys.length (ys.map (Value.int .i64)) := by
   refine ⟨hrow.1, ?_⟩
   rcases hrow.2 with g | ⟨g, cap, cur, h1, h2, h3⟩
   ·exact .inl g
   ·exact .inr ⟨g, cap, cur, h1, by omega, h3⟩
  exact ⟨_, results_tmp rfl _ _ _, v, ys, rfl, hS, hyn, ownsRow_putObj hrow' _ hK rfl, hB.trans (belowK_b (w := w) (Nat.le_refl _) W D' _ _ (by omega) hK rfl rfl)⟩
 case stop =>
  rintro D' c' pre W _ _ h _
  exact h.elim
theorem vcol_any (w : World) (Bm b nn : Nat) {P : Int → Bool} {c : Int → Int} {D : DataW Unit} (hm : w.cell? ⟨Bm, 0, none⟩ = some (.map (some b))) (hM : MapC w b nn P c D) (hnn : nn ≤ 1000) :
  Calls Tryz.prog 78 #[.func (.func 127) #[] #[.pointer (some ⟨Bm, 0, none⟩)]] w fun e w' => ∃ v ys, e = .returned v ∧ Vls P c ys ∧ ys.length ≤ nn ∧ w'.ownsRow w.heap.size 3 1 v ys.length (ys.map (Value.int .i64)) ∧ Below w.heap.size w w' := by
 have A := vapp_any w Bm b nn hm hM hnn
 clear hM
 go_enter Tryz.func78, Tryz.ntmps78
 go_wp2_with (go_at_call 126; refine A.mono ?_; rintro e w' ⟨v, ys, rfl, h1, h2, h3, h4⟩; have HH : Hid (Vls P c ys ∧ ys.length ≤ nn ∧ w'.ownsRow w.heap.size 3 1 v ys.length (ys.map (Value.int .i64)) ∧ Below w.heap.size w w') := And.intro h1 (And.intro h2 (And.intro h3 h4)); clear h1 h2 h3 h4 A)
 go_ret
 exact ⟨v, ys, rfl, HH.out⟩
end Go.Proofs.YtiaopafkfadmkaaGreat.V
