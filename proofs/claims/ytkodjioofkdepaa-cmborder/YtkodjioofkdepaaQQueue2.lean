/- Proved: contracts of a Queue's Pop, Push and Remove. -/
import Derived.Test.YtkodjioofkdepaaQQueue
namespace Go.Proofs.Ytkodjioofkdepaa.Q
open Go.RowKit Go.Sort
set_option linter.unusedVariables false
set_option maxRecDepth 100000

abbrev zobj : Obj := .cells #[.int .i64 0, .int .i64 0, .int .i64 0, .int .i64 0, .int .i64 0, .int .i64 0] 36
abbrev six (W : World) (B : Nat) (a1 a2 a3 a4 a5 a6 : Value) : World := ((((((W.setCell ⟨B, 0, none⟩ a1).setCell ⟨B, 1, none⟩ a2).setCell ⟨B, 2, none⟩ a3).setCell ⟨B, 3, none⟩ a4).setCell ⟨B, 4, none⟩ a5).setCell ⟨B, 5, none⟩ a6)
theorem fr6 (W : World) (B : Nat) (a1 a2 a3 a4 a5 a6 : Value) : Fr (fun k => k = B) W (six W B a1 a2 a3 a4 a5 a6) :=
  ((((((Fr.refl (fun k => k = B) W).setCell _ _ (.inl rfl)).setCell _ _ (.inl rfl)).setCell _ _ (.inl rfl)).setCell _ _ (.inl rfl)).setCell _ _ (.inl rfl)).setCell _ _ (.inl rfl)
theorem zcell (w : World) (j : Nat) (hj : j < 6) : (w.alloc zobj).cell? ⟨w.heap.size, j, none⟩ = some (.int .i64 0) := by
  rw [World.cell?_alloc_new]
  match j, hj with
  | 0, _ => rfl
  | 1, _ => rfl
  | 2, _ => rfl
  | 3, _ => rfl
  | 4, _ => rfl
  | 5, _ => rfl
theorem zfrozen (w : World) (j : Nat) : (w.alloc zobj).frozen? ⟨w.heap.size, j, none⟩ = false := by
  unfold World.frozen?
  rw [heap_alloc_new]
  simp
/-- The queue behind what its pile became. -/
theorem IsQ.after {w0 w w' : World} {pb mb qb room : Nat} {v v' : Value} {d' s' : List M} (h0 : Below w0.heap.size w0 w) (c0 : w.cell? ⟨qb, 0, none⟩ = some (.int .i64 room)) (c1 : w.cell? ⟨qb, 1, none⟩ = some (.pointer (some ⟨pb, 0, none⟩))) (hqw : qb < w0.heap.size)
    (hq : ¬ FP pb mb v qb) (ha : After w pb mb v w' v' d') (hp : d'.Perm s') (hs : Srt s') (hr : room ≤ 64) (hl : s'.length ≤ room) :
    IsQ w' (fun k => k = qb ∨ FP pb mb v' k) qb room s' ∧ Step (fun k => k = qb ∨ FP pb mb v k) (fun k => k = qb ∨ FP pb mb v' k) w0 w' := by
  obtain ⟨h1, h2, h3, h4⟩ := ha
  have hqw' := cell_lt c0
  refine ⟨⟨pb, mb, v', d', (h3.cell (p := ⟨qb, 0, none⟩) hqw' hq).trans c0, (h3.cell (p := ⟨qb, 1, none⟩) hqw' hq).trans c1, h1, h2, hp, hs, ?_, hr, hl, rfl⟩, ?_, ?_⟩
  · intro g
    rcases h4 qb g with g | g
    · exact hq g
    · omega
  · exact (Fr.of_below h0).trans (h3.wide (S' := fun k => k = qb ∨ FP pb mb v k) (fun k hk => .inr hk)) (fun _ _ g => g)
  · rintro k (rfl | hk)
    · exact .inl (.inl rfl)
    · rcases h4 k hk with g | g
      · exact .inl (.inr g)
      · right; have := h0.size; omega
theorem Step.out {F F2 : Nat → Prop} {w w' w2 : World} {B : Nat} (h : Step F F2 w w') (hB : w.heap.size ≤ B) (hf : Fr (fun k => k = B) w' w2) : Step F F2 w w2 :=
  ⟨h.1.trans hf (fun i hi e => by omega), h.2⟩

set_option maxRecDepth 100000 in
set_option maxHeartbeats 1000000 in
theorem qpop_any {w : World} {F : Nat → Prop} {qb room : Nat} {s : List M} (h : IsQ w F qb room s) :
    Calls Try.prog 22 #[.pointer (some ⟨qb, 0, none⟩)] w fun e w' => e = .returned (.tuple #[mv (s.headD zeroM), .bool (!s.isEmpty)]) ∧ ∃ F2, IsQ w' F2 qb room s.tail ∧ Step F F2 w w' := by
  have h00 := h
  obtain ⟨pb, mb, v, d, c0, c1, hp, ho, hpm, hs, hq, hr, hl, rfl⟩ := h
  have hb0 : Below w.heap.size w (w.alloc zobj) := (Below.refl _ _).alloc (Nat.le_refl _) _
  have hQ1 := h00.below hb0
  have L' := qlen_any hQ1
  cases s with
  | nil =>
    simp only [List.length_nil] at L'
    clear hp ho hpm hs h00
    have R : IsQ (w.alloc zobj) (fun k => k = qb ∨ FP pb mb v k) qb room [] ∧ Step (fun k => k = qb ∨ FP pb mb v k) (fun k => k = qb ∨ FP pb mb v k) w (w.alloc zobj) := ⟨hQ1, Fr.of_below hb0, fun k hk => .inl hk⟩
    clear hQ1
    go_enter Try.func22, Try.ntmps22
    go_wp2_with (go_at_call 41; refine L'.mono ?_; rintro e w' ⟨rfl, rfl⟩)
    exact bodyPost_ret (v := .tuple #[mv zeroM, .bool false]) (by simp [results, Try.results22, go_sem]) rfl ⟨rfl, _, R.1, R.2⟩
  | cons x r =>
    have hx := heap_first hpm ho hs
    have hd : d.length = r.length + 1 := by rw [hpm.length_eq]; simp
    have hp1 := hp.below hb0
    have c0' := (hb0.cell (p := ⟨qb, 0, none⟩) (cell_lt c0)).trans c0
    have c1' := (hb0.cell (p := ⟨qb, 1, none⟩) (cell_lt c1)).trans c1
    have PP := hpop_any hp1 ho (by omega)
    rw [hx] at PP
    have hql := cell_lt c0
    simp only [List.length_cons] at L'
    have g0 : ¬ ((r.length : Int) + 1 = 0) := by omega
    have g1 : (((r.length : Int) + 1) == 0) = false := by simpa using g0
    have hlt : ∀ k, FP pb mb v k → k < w.heap.size := fun k hk => hp.lt k hk
    have hta := fun w x => assert30 x w
    obtain ⟨⟨a1, a2, a3⟩, a4, a5, a6⟩ := x
    dsimp only [mv] at PP
    have c1'' := c1'
    clear hp hx h00 hQ1
    go_enter Try.func22, Try.ntmps22
    go_wp2_with (go_at_call 41; refine L'.mono ?_; rintro e w' ⟨rfl, rfl⟩)
    refine PP.mono ?_
    rintro e w3 ⟨rfl, v', d', ha, hpd⟩
    have hB : ¬ FP pb mb v w.heap.size := fun g => Nat.lt_irrefl _ (hlt _ g)
    have zc : ∀ j, j < 6 → w3.cell? ⟨w.heap.size, j, none⟩ = some (.int .i64 0) := fun j hj => (ha.2.2.1.cell (p := ⟨w.heap.size, j, none⟩) (by simp) hB).trans (zcell w j hj)
    have zf : ∀ j, w3.frozen? ⟨w.heap.size, j, none⟩ = false := fun j => (ha.2.2.1.frozen (p := ⟨w.heap.size, j, none⟩) (by simp) hB).trans (zfrozen w j)
    obtain ⟨R1, R2⟩ := IsQ.after hb0 c0' c1' hql hq ha (perm_pop hpd hpm) (List.pairwise_cons.1 hs).2 hr (by simp at hl; omega)
    have z0 := zc 0 (by omega)
    have z1 := zc 1 (by omega)
    have z2 := zc 2 (by omega)
    have z3 := zc 3 (by omega)
    have z4 := zc 4 (by omega)
    have z5 := zc 5 (by omega)
    have f6 := fun b1 b2 b3 b4 b5 b6 => fr6 w3 w.heap.size b1 b2 b3 b4 b5 b6
    have nB : ∀ k, (k = qb ∨ FP pb mb v' k) → k ≠ w.heap.size := by
      rintro k (rfl | hk)
      · omega
      · rintro rfl
        rcases ha.2.2.2 _ hk with g | g
        · exact hB g
        · have e : (w.alloc zobj).heap.size = w.heap.size + 1 := by simp
          omega
    have R : ∀ b1 b2 b3 b4 b5 b6, IsQ (six w3 w.heap.size b1 b2 b3 b4 b5 b6) (fun k => k = qb ∨ FP pb mb v' k) qb room r ∧ Step (fun k => k = qb ∨ FP pb mb v k) (fun k => k = qb ∨ FP pb mb v' k) w (six w3 w.heap.size b1 b2 b3 b4 b5 b6) := fun b1 b2 b3 b4 b5 b6 =>
      ⟨R1.keep (f6 b1 b2 b3 b4 b5 b6) nB, R2.out (Nat.le_refl _) (f6 b1 b2 b3 b4 b5 b6)⟩
    have RA : Aside _ := R
    clear R R1 R2 f6 ha hpd hpm hs ho nB hB zc hlt PP L' c0' c1' c1'' hp1
    go_wp2_with fail
    exact bodyPost_ret (v := .tuple #[mv ((a1, a2, a3), a4, a5, a6), .bool true]) (by simp [results, Try.results22, go_sem, z0, z1, z2, z3, z4, z5]) rfl ⟨rfl, _, RA.out _ _ _ _ _ _⟩
end Go.Proofs.Ytkodjioofkdepaa.Q
