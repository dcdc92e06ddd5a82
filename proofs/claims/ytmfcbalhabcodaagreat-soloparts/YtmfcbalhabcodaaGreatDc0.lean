/- Proved: contracts of the document's ahead and Put. -/
import Derived.Test.YtmfcbalhabcodaaGreatTws
import Derived.Test.YtmfcbalhabcodaaGreatJSpD
namespace Go.Proofs.YtmfcbalhabcodaaGreat
open Go.RowKit Go.Shelf
set_option linter.unusedVariables false

theorem kcmp_cases (a b : M) : (kcmp (ky a) (ky b) < 0 ∧ ahd a b = true) ∨ (kcmp (ky a) (ky b) = 0 ∧ ahd a b = decide (a.dst < b.dst)) ∨ (0 < kcmp (ky a) (ky b) ∧ ahd a b = false) := by
  have h := klt_toT a b
  have h2 : H.klt (toT a) (toT b) = decide (or2 (kcmp (ky a) (ky b)) (cmpI a.dst b.dst) < 0) := rfl
  rw [h2] at h
  rcases (by omega : kcmp (ky a) (ky b) < 0 ∨ kcmp (ky a) (ky b) = 0 ∨ 0 < kcmp (ky a) (ky b)) with g | g | g
  · left
    refine ⟨g, ?_⟩
    rw [← h]
    unfold or2
    rw [if_pos (by omega)]
    exact decide_eq_true g
  · right; left
    refine ⟨g, ?_⟩
    rw [← h, g]
    unfold or2
    rw [if_neg (by omega)]
    unfold cmpI
    by_cases e : a.dst < b.dst
    · rw [if_pos e, decide_eq_true e]; rfl
    · rw [if_neg e, decide_eq_false e]
      split <;> rfl
  · right; right
    refine ⟨g, ?_⟩
    rw [← h]
    unfold or2
    rw [if_pos (by omega)]
    exact decide_eq_false (by omega)

set_option maxRecDepth 100000 in
set_option maxHeartbeats 1000000 in
theorem ahead_any (a b : M) (w : World) :
    Calls Tryz.prog 54 #[mv a, mv b] w fun e w' => e = .returned (.bool (ahd a b)) ∧ Below w.heap.size w w' := by
  have hc := fun W => refcmp_any (ky a) (ky b) W
  have hk := kcmp_cases a b
  obtain ⟨k, hkk⟩ : ∃ k, kcmp (ky a) (ky b) = k := ⟨_, rfl⟩
  obtain ⟨R, hR⟩ : ∃ R, ahd a b = R := ⟨_, rfl⟩
  simp only [hkk] at hc
  rw [hkk, hR] at hk
  rw [hR]
  obtain ⟨W0, hW0⟩ : ∃ W0, W0 = (w.alloc (.cells #[.int .i64 a.t, .int .i64 a.fr, .int .i64 a.sq, .int .i64 a.dst, .int .i64 a.cl, .int .i64 a.bd] 38)).alloc (.cells #[.int .i64 b.t, .int .i64 b.fr, .int .i64 b.sq, .int .i64 b.dst, .int .i64 b.cl, .int .i64 b.bd] 38) := ⟨_, rfl⟩
  have hb0 : Below w.heap.size w W0 := by rw [hW0]; exact ((Below.refl _ w).alloc (Nat.le_refl _) _).alloc (by simp) _
  have sA : w.heap.size < W0.heap.size := by rw [hW0]; simp; omega
  have sB : w.heap.size + 1 < W0.heap.size := by rw [hW0]; simp
  have HX : Hid (∀ W, Below W0.heap.size W0 W → W.cell? ⟨w.heap.size, 3, none⟩ = some (.int .i64 a.dst) ∧ W.cell? ⟨w.heap.size + 1, 3, none⟩ = some (.int .i64 b.dst)) := fun W hW => by
    refine ⟨(hW.cell (p := ⟨w.heap.size, 3, none⟩) sA).trans ?_, (hW.cell (p := ⟨w.heap.size + 1, 3, none⟩) sB).trans ?_⟩ <;> (rw [hW0]; go_simp)
  have HC : Hid _ := hc
  dsimp only [kv, ky] at HC
  have HW0 : Hid _ := hW0
  have HB0 : Hid _ := hb0
  obtain ⟨at', afr, asq, adst, acl, abd⟩ := a
  obtain ⟨bt, bfr, bsq, bdst, bcl, bbd⟩ := b
  dsimp only [mv] at HC HX HW0 hk ⊢
  clear hc hkk hR hb0 hW0 sA sB
  go_enter Tryz.func54, Tryz.ntmps54
  go_wp2_with fail
  rw [← HW0.out]
  refine (HC.out W0).mono ?_
  rintro e w1 ⟨rfl, hb1⟩
  obtain ⟨x3, y3⟩ := HX.out w1 hb1
  have HB1 : Hid (Below w.heap.size w w1) := (Hid.out HB0).trans (hb1.mono (Hid.out HB0).size)
  clear hb1
  rcases hk with ⟨g, rfl⟩ | ⟨g, rfl⟩ | ⟨g, rfl⟩
  · have d1 : decide (k < 0) = true := decide_eq_true g
    go_wp2_with fail
    go_ret
    exact ⟨rfl, HB1.out⟩
  · subst g
    go_wp2_with fail
    go_ret
    exact ⟨rfl, HB1.out⟩
  · have d1 : decide (k < 0) = false := decide_eq_false (by omega)
    have d2 : (k == 0) = false := by simp; omega
    have d3 : ¬ k < 0 := by omega
    go_wp2_with fail
    go_ret
    exact ⟨rfl, HB1.out⟩

theorem put1_cons_yes {x y : M} {r : List M} (h : ahd x y = true) : put1 x (y :: r) = x :: y :: r := by rw [put1, if_pos h]
theorem put1_cons_no {x y : M} {r : List M} (h : ahd x y = false) : put1 x (y :: r) = y :: put1 x r := by rw [put1, if_neg (by rw [h]; decide)]
theorem drop_cons {l : List M} {k : Nat} (h : k < l.length) : l.drop k = nthM l k :: l.drop (k + 1) := by
  rw [List.drop_eq_getElem_cons h]
  simp [nthM, h]
end Go.Proofs.YtmfcbalhabcodaaGreat
