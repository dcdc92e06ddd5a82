/- Proved: a page of a calendar turned into another one; the contract of a calendar's take. -/
import Derived.Test.YtjkcdkoomipfkaaCal2
import Derived.Test.YtjkcdkoomipfkaaCal3
import Derived.Test.YtjkcdkoomipfkaaQueue2
namespace Go.Proofs.Ytjkcdkoomipfkaa
open Go.RowKit Go.Sort Go.Lib
set_option linter.unusedVariables false

/-- A message in a block of its own. -/
def BoxM (W : World) (B : Nat) (m : M) : Prop := (∀ j, j < 6 → W.cell? ⟨B, j, none⟩ = (enc m)[j]?) ∧ ∀ j, W.frozen? ⟨B, j, none⟩ = false
theorem BoxM.cells {W : World} {B : Nat} {m : M} (h : BoxM W B m) : W.cell? ⟨B, 0, none⟩ = some (.int .i64 m.1.1) ∧ W.cell? ⟨B, 1, none⟩ = some (.int .i64 m.1.2.1) ∧ W.cell? ⟨B, 2, none⟩ = some (.int .i64 m.1.2.2) ∧ W.cell? ⟨B, 3, none⟩ = some (.int .i64 m.2.1) ∧ W.cell? ⟨B, 4, none⟩ = some (.int .i64 m.2.2.1) ∧ W.cell? ⟨B, 5, none⟩ = some (.int .i64 m.2.2.2) :=
  ⟨h.1 0 (by omega), h.1 1 (by omega), h.1 2 (by omega), h.1 3 (by omega), h.1 4 (by omega), h.1 5 (by omega)⟩
theorem BoxM.lt {W : World} {B : Nat} {m : M} (h : BoxM W B m) : B < W.heap.size := cell_lt h.cells.1
theorem BoxM.made (W : World) (m : M) : BoxM (W.alloc (.cells #[.int .i64 m.1.1, .int .i64 m.1.2.1, .int .i64 m.1.2.2, .int .i64 m.2.1, .int .i64 m.2.2.1, .int .i64 m.2.2.2] 32)) W.heap.size m := by
  refine ⟨fun j hj => ?_, fun j => ?_⟩
  · simp only [World.cell?, heap_alloc_new]
    simp [enc]
  · unfold World.frozen?
    rw [heap_alloc_new]
    simp
theorem BoxM.keep {S : Nat → Prop} {W W2 : World} {B : Nat} {m : M} (h : BoxM W B m) (hf : Fr S W W2) (hS : ¬ S B) : BoxM W2 B m :=
  ⟨fun j hj => (hf.cell (p := ⟨B, j, none⟩) h.lt hS).trans (h.1 j hj), fun j => (hf.frozen (p := ⟨B, j, none⟩) h.lt hS).trans (h.2 j)⟩
theorem BoxM.below {W W2 : World} {B : Nat} {m : M} (h : BoxM W B m) (hb : Below W.heap.size W W2) : BoxM W2 B m := h.keep (S := fun _ => False) (Fr.of_below hb) (fun g => g)
theorem BoxM.put {W : World} {B : Nat} {m : M} (h : BoxM W B m) (x : M) : BoxM (six W B (.int .i64 x.1.1) (.int .i64 x.1.2.1) (.int .i64 x.1.2.2) (.int .i64 x.2.1) (.int .i64 x.2.2.1) (.int .i64 x.2.2.2)) B x := by
  obtain ⟨z0, z1, z2, z3, z4, z5⟩ := h.cells
  refine ⟨fun j hj => ?_, fun j => ?_⟩
  · match j, hj with
    | 0, _ => show _ = some (Value.int .i64 x.1.1); go_simp
    | 1, _ => show _ = some (Value.int .i64 x.1.2.1); go_simp
    | 2, _ => show _ = some (Value.int .i64 x.1.2.2); go_simp
    | 3, _ => show _ = some (Value.int .i64 x.2.1); go_simp
    | 4, _ => show _ = some (Value.int .i64 x.2.2.1); go_simp
    | 5, _ => show _ = some (Value.int .i64 x.2.2.2); go_simp
  · simp only [World.frozen?_setCell]; exact h.2 j
def turnV (vs : Nat → Value) (p : Nat) (v : Value) : Nat → Value := fun j => if j = p then v else vs j
theorem IsC.turn {w W : World} {qb room day : Nat} {vs : Nat → Value} {s s' : List M} (h : IsC w qb room day vs s) {p : Nat} (hp : p < 8) {v : Value} (hown : Own W v (pg day p s')) (hf : Fr (fun k => (vs p).ownBlock = some k) w W)
    (hloc : ∀ k, v.ownBlock = some k → (vs p).ownBlock = some k ∨ w.heap.size ≤ k) (hpg : ∀ j, j < 8 → j ≠ p → pg day j s' = pg day j s) (hsrt : Srt s') (hwf : ∀ m ∈ s', vt m.1.1 = true) (hlen : s'.length ≤ room) :
    IsC (W.setCell ⟨qb, 2 + p, none⟩ v) qb room day (turnV vs p v) s' ∧ Step (FC qb vs) (FC qb (turnV vs p v)) w (W.setCell ⟨qb, 2 + p, none⟩ v) := by
  have hql : qb < w.heap.size := h.lt qb (.inl rfl)
  have hnq := h.nq p hp
  have hvq : v.ownBlock ≠ some qb := fun e => (hloc qb e).elim hnq (fun g => by omega)
  have hc : ∀ j, W.cell? ⟨qb, j, none⟩ = w.cell? ⟨qb, j, none⟩ := fun j => hf.cell (p := ⟨qb, j, none⟩) hql hnq
  have hz : ∀ j, W.frozen? ⟨qb, j, none⟩ = w.frozen? ⟨qb, j, none⟩ := fun j => hf.frozen (p := ⟨qb, j, none⟩) hql hnq
  have f2 : Fr (fun k => k = qb) W (W.setCell ⟨qb, 2 + p, none⟩ v) := (Fr.refl _ W).setCell _ _ (.inl rfl)
  refine ⟨{ c0 := ?_, c1 := ?_, cp := ?_, fz := ?_, own := ?_, dj := ?_, nq := ?_, srt := hsrt, wf := hwf, rm := h.rm, len := hlen, d1 := h.d1, d2 := h.d2 }, ?_, ?_⟩
  · rw [ne_cell _ _ _ (by omega), hc]; exact h.c0
  · rw [ne_cell _ _ _ (by omega), hc]; exact h.c1
  · intro j hj
    unfold turnV
    by_cases e : j = p
    · subst e
      rw [if_pos rfl]
      exact World.cell?_setCell_same _ _ _ ((hc _).trans (h.cp j hj))
    · rw [if_neg e, ne_cell _ _ _ (by omega), hc]
      exact h.cp j hj
  · intro j
    rw [World.frozen?_setCell, hz]
    exact h.fz j
  · intro j hj
    unfold turnV
    by_cases e : j = p
    · subst e
      rw [if_pos rfl]
      exact hown.keep f2 (fun g hg e => hvq (by rw [hg, e]))
    · rw [if_neg e, hpg j hj e]
      exact ((h.own j hj).keep hf (fun g hg e2 => h.dj j p g hj hp e hg e2)).keep f2 (fun g hg e2 => h.nq j hj (by rw [hg, e2]))
  · intro i j g hi hj hij hg
    unfold turnV at hg ⊢
    by_cases e : i = p
    · rw [if_pos e] at hg
      have ej : j ≠ p := fun c => hij (e.trans c.symm)
      rw [if_neg ej]
      rcases hloc g hg with g1 | g1
      · exact h.dj p j g hp hj (Ne.symm ej) g1
      · intro c
        have := (h.own j hj).lt c
        omega
    · rw [if_neg e] at hg
      by_cases ej : j = p
      · rw [if_pos ej]
        intro c
        rcases hloc g c with g1 | g1
        · exact h.dj i p g hi hp e hg g1
        · have := (h.own i hi).lt hg
          omega
      · rw [if_neg ej]
        exact h.dj i j g hi hj hij hg
  · intro i hi
    unfold turnV
    by_cases e : i = p
    · rw [if_pos e]; exact hvq
    · rw [if_neg e]; exact h.nq i hi
  · exact (hf.wide (S' := FC qb vs) (fun k hk => .inr ⟨p, hp, hk⟩)).trans f2 (fun k _ hk => .inl hk)
  · rintro k (rfl | ⟨i, hi, hk⟩)
    · exact .inl (.inl rfl)
    · unfold turnV at hk
      by_cases e : i = p
      · rw [if_pos e] at hk
        rcases hloc k hk with g | g
        · exact .inl (.inr ⟨p, hp, g⟩)
        · exact .inr g
      · rw [if_neg e] at hk
        exact .inl (.inr ⟨i, hi, hk⟩)

set_option maxRecDepth 100000 in
set_option maxHeartbeats 2000000 in
theorem take_any {w : World} {qb room day : Nat} {vs : Nat → Value} {s : List M} (h : IsC w qb room day vs s) {p i : Nat} (hp : p < 8) (hi : i < (pg day p s).length) (s' : List M) (hpp : pg day p s' = (pg day p s).take i ++ (pg day p s).drop (i + 1)) (hpg : ∀ j, j < 8 → j ≠ p → pg day j s' = pg day j s)
    (hsrt : Srt s') (hsub : ∀ m ∈ s', m ∈ s) (hle : s'.length ≤ s.length) :
    Calls Try.prog 40 #[.pointer (some ⟨qb, 0, none⟩), .int .i64 p, .int .i64 i] w fun e w' => e = .returned (mv (nth (pg day p s) i)) ∧ ∃ vs', IsC w' qb room day vs' s' ∧ Step (FC qb vs) (FC qb vs') w w' := by
  have mixed : Try.prog.follows .mixedOrders = true := by kernel_rfl
  have hql : qb < w.heap.size := h.lt qb (.inl rfl)
  have hlen := h.len
  have hrm := h.rm
  have hpl := pg_len_le day p s
  have cp := h.cp p hp
  have op := h.own p hp
  obtain ⟨g, cap, hv, hg⟩ := own_nonempty op hi
  obtain ⟨x, hx⟩ : ∃ x, nth (pg day p s) i = x := ⟨_, rfl⟩
  rw [hv] at cp op
  obtain ⟨x0, x1, x2, x3, x4, x5⟩ := own_cell op hi (x := x) (by rw [← nth_get]; exact hx)
  obtain ⟨k, hk⟩ : ∃ k, (pg day p s).length = k + 1 := ⟨(pg day p s).length - 1, by omega⟩
  have hne : g ≠ qb := fun e => h.nq p hp (by rw [hv, e]; rfl)
  rw [hx]
  -- the worlds on the way
  obtain ⟨w2, hw2⟩ : ∃ w2, w2 = (w.alloc (.cells #[.int .i64 0, .int .i64 0, .int .i64 0, .int .i64 0, .int .i64 0, .int .i64 0] 32)).alloc (.cells #[.int .i64 x.1.1, .int .i64 x.1.2.1, .int .i64 x.1.2.2, .int .i64 x.2.1, .int .i64 x.2.2.1, .int .i64 x.2.2.2] 32) := ⟨_, rfl⟩
  have b2 : Below w.heap.size w w2 := by rw [hw2]; exact ((Below.refl _ w).alloc (Nat.le_refl _) _).alloc (by simp) _
  have c2 : w2.cell? ⟨qb, 2 + p, none⟩ = some (.slice (some ⟨g, 0, none⟩) (k + 1) cap) := by rw [← hk]; exact (b2.cell (p := ⟨qb, 2 + p, none⟩) hql).trans cp
  have z2 : ∀ j, w2.frozen? ⟨qb, j, none⟩ = false := fun j => (World.frozen?_of_block (b2.block _ hql)).trans (h.fz j)
  have op2 : Own w2.drew (.slice (some ⟨g, 0, none⟩) (k + 1) cap) (pg day p s) := by rw [← hk]; exact (op.keep (S := fun _ => False) (Fr.of_below b2) (fun _ _ g => g)).keep (S := fun _ => False) (Fr.refl _ _).drew (fun _ _ g => g)
  have D := sdel_any op2 (by omega) hi
  have s2 : w2.heap.size = w.heap.size + 2 := by rw [hw2]; simp
  have n0 : BoxM w2 w.heap.size ((0, 0, 0), 0, 0, 0) := by
    rw [hw2]
    exact (BoxM.made w ((0, 0, 0), 0, 0, 0)).below ((Below.refl _ _).alloc (Nat.le_refl _) _)
  have n1 : BoxM w2 (w.heap.size + 1) x := by
    rw [hw2]
    have := BoxM.made (w.alloc (.cells #[.int .i64 0, .int .i64 0, .int .i64 0, .int .i64 0, .int .i64 0, .int .i64 0] 32)) x
    rw [World.size_alloc] at this
    exact this
  have T := fun (W : World) (hW : Own W (.slice (some ⟨g, 0, none⟩) k cap) (pg day p s')) (hf : Fr (fun j => (vs p).ownBlock = some j) w W) => h.turn hp hW hf (fun j hj => .inl (by rw [hv]; exact hj)) hpg hsrt (fun m hm => h.wf m (hsub m hm)) (by omega)
  have hgv : (vs p).ownBlock = some g := by rw [hv]; rfl
  have HT : Aside _ := T
  have HL : Aside (∀ t j, t < 8 → (vs t).ownBlock = some j → j < w.heap.size) := fun t j ht hj => h.lt j (.inr ⟨t, ht, hj⟩)
  have HW : Hid _ := hw2
  rw [← hpp] at D
  have hq2 : qb < w2.drew.heap.size := by show qb < w2.heap.size; omega
  have hp8 : (p : Int) < 8 := by omega
  have hik : (i : Int) < (k : Int) + 1 := by omega
  rw [hk] at cp
  clear hw2 op op2 T hv h hx hpp hpg
  go_enter Try.func40, Try.ntmps40
  go_wp2_with fail
  rw [← HW.out]
  clear x0 x1 x2 x3 x4 x5
  have hi1 : IntKind.i64.wrap ((i : Int) + 1) = (i : Int) + 1 := by rw [IntKind.wrap_i64]; omega
  go_region_with (first | (go_at_call 62; refine D.mono ?_; rintro e wD ⟨rfl, oD, fD⟩; have cD := (fD.cell (p := ⟨qb, 2 + p, none⟩) hq2 (Ne.symm hne)).trans c2; have zD := (fD.frozen (p := ⟨qb, 2 + p, none⟩) hq2 (Ne.symm hne)).trans (z2 _)))
  have f2 : Fr (fun _ => False) w w2.drew := (Fr.of_below b2).drew
  have fW : Fr (fun j => (vs p).ownBlock = some j) w wD := (f2.wide (S' := fun j => (vs p).ownBlock = some j) (fun j hj => hj.elim)).trans fD (fun j _ e => by rw [hgv, e])
  obtain ⟨iT, sT⟩ := HT.out wD oD fW
  obtain ⟨W3, hW3⟩ : ∃ W3, wD.setCell ⟨qb, 2 + p, none⟩ (.slice (some ⟨g, 0, none⟩) k cap) = W3 := ⟨_, rfl⟩
  have f3 : Fr (fun j => j = qb ∨ j = g) w2 W3 := by
    rw [← hW3]
    exact ((Fr.refl _ w2).drew.trans (fD.wide (S' := fun j => j = qb ∨ j = g) (fun j hj => .inr hj)) (fun _ _ e => e)).setCell _ _ (.inl (.inl rfl))
  rw [hW3] at iT sT ⊢
  have hN : ¬ (w.heap.size = qb ∨ w.heap.size = g) := by omega
  have hN1 : ¬ (w.heap.size + 1 = qb ∨ w.heap.size + 1 = g) := by omega
  have m0 := n0.keep f3 hN
  have m1 := n1.keep f3 hN1
  obtain ⟨y0, y1, y2, y3, y4, y5⟩ := m1.cells
  obtain ⟨z0, z1, z2', z3, z4, z5⟩ := m0.cells
  have zz := m0.2
  dsimp only at z0 z1 z2' z3 z4 z5
  have R : ∀ b1 b2 b3 b4 b5 b6, IsC (six W3 w.heap.size b1 b2 b3 b4 b5 b6) qb room day (turnV vs p (.slice (some ⟨g, 0, none⟩) k cap)) s' ∧ Step (FC qb vs) (FC qb (turnV vs p (.slice (some ⟨g, 0, none⟩) k cap))) w (six W3 w.heap.size b1 b2 b3 b4 b5 b6) := fun b1 b2 b3 b4 b5 b6 => by
    have hno : ∀ j, FC qb (turnV vs p (.slice (some ⟨g, 0, none⟩) k cap)) j → ¬ (j = w.heap.size) := by
      rintro j (rfl | ⟨t, ht, hj⟩) e
      · omega
      · unfold turnV at hj
        split at hj
        · simp [Value.ownBlock] at hj; omega
        · have := HL.out t j ht hj
          omega
    exact ⟨iT.keep (fr6 W3 w.heap.size b1 b2 b3 b4 b5 b6) hno, sT.1.trans (fr6 W3 w.heap.size b1 b2 b3 b4 b5 b6) (fun j hj e => by omega), sT.2⟩
  have HR : Aside _ := R
  clear R hW3 f3 m0 m1 iT sT HT D n0 n1 oD fD cD zD fW f2 b2 z2 c2
  go_wp2
  refine bodyPost_ret (v := mv x) (by simp [results, Try.results40, go_sem, z0, z1, z2', z3, z4, z5]) rfl ⟨rfl, _, HR.out _ _ _ _ _ _⟩
end Go.Proofs.Ytjkcdkoomipfkaa
