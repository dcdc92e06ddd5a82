/- Proved: contracts of the program's base and output of a member. -/
import Derived.Test.YtmkhgihhledegaaTmp
import Derived.Test.YtmkhgihhledegaaDij
namespace Go.Proofs.Ytmkhgihhledegaa
open Go.RowKit Go.Shelf
open L (Mb outM base look cnt vadd cnt_lo cnt_hi cnt_mid)
set_option linter.unusedVariables false

def mv (m : Mb) : Value := .agg #[.bool m.re, .bool m.co, .int .i64 m.ti, .int .i64 m.lo, .int .i64 m.ki, .int .i64 m.ak, .int .i64 m.fi]
/-- The program's base. -/
def pba (m : Mb) (b : Int) : Int := if m.ki = 1 ∨ (m.ki = 2 ∨ m.ki = 3) ∧ m.co = false then m.ak else if m.ki = 2 ∨ m.ki = 3 then max m.ti (min (min (min 1125899906842624 (cnt m.ak)) (cnt m.fi)) (cnt b)) else m.ti
theorem cnt_max (a b : Int) : cnt (max a b) = max (cnt a) (cnt b) := by
  have h1 := @L.cnt_mono a b
  have h2 := @L.cnt_mono b a
  by_cases h : a ≤ b
  · rw [show max a b = b by omega]; have := h1 h; omega
  · rw [show max a b = a by omega]; have := h2 (by omega); omega
theorem pba_is (m : Mb) {b : Int} (hb : cnt b = b) : cnt (pba m b) = base m b := by
  unfold pba L.base
  have h1 := cnt_hi m.ak
  unfold L.inf at h1
  split
  · rfl
  · split
    · rw [cnt_max, hb, show min (1125899906842624 : Int) (cnt m.ak) = cnt m.ak by omega]
      congr 1
      have g1 := L.cnt_cnt m.ak
      have g2 := L.cnt_cnt m.fi
      rcases Int.le_total (cnt m.ak) (cnt m.fi) with p | p
      · rw [show min (cnt m.ak) (cnt m.fi) = cnt m.ak by omega]
        rcases Int.le_total (cnt m.ak) b with q | q
        · rw [show min (cnt m.ak) b = cnt m.ak by omega, g1]
        · rw [show min (cnt m.ak) b = b by omega, hb]
      · rw [show min (cnt m.ak) (cnt m.fi) = cnt m.fi by omega]
        rcases Int.le_total (cnt m.fi) b with q | q
        · rw [show min (cnt m.fi) b = cnt m.fi by omega, g2]
        · rw [show min (cnt m.fi) b = b by omega, hb]
    · rfl
theorem outM_cnt (m : Mb) (b : Int) : cnt (outM m b) = outM m b := by
  unfold L.outM
  split
  · unfold L.vadd; exact L.cnt_cnt _
  · exact L.cnt_inf
theorem outM_is (m : Mb) (hr : m.re = true) {b : Int} (hb : cnt b = b) : vadd (pba m b) (min (max m.lo 1) 1048576) = outM m b := by
  have h := pba_is m hb
  unfold L.outM
  rw [if_pos hr, show L.look m = min (max m.lo 1) 1048576 by unfold L.look; omega]
  unfold L.vadd
  have g := L.cnt_cnt (pba m b)
  rw [h] at g
  rw [h, g]
  congr 1
  omega
set_option maxHeartbeats 1000000 in
theorem base_any (m : Mb) (b : Int) (w : World) :
    Calls Try.prog 24 #[mv m, .int .i64 b] w fun e w' => e = .returned (.int .i64 (pba m b)) ∧ Below w.heap.size w w' := by
  obtain ⟨r, co, ti, lo, ki, ak, fi⟩ := m
  unfold mv pba
  dsimp only
  obtain ⟨W0, hW0⟩ : ∃ W0, w.alloc (.cells #[.bool r, .bool co, .int .i64 ti, .int .i64 lo, .int .i64 ki, .int .i64 ak, .int .i64 fi] 33) = W0 := ⟨_, rfl⟩
  have HB : Hid (Below w.heap.size w W0) := by rw [← hW0]; exact al _ _
  have nb : W0.heap[w.heap.size]? = some (.cells #[.bool r, .bool co, .int .i64 ti, .int .i64 lo, .int .i64 ki, .int .i64 ak, .int .i64 fi] 33) := by rw [← hW0]; exact (MapKept.heap_alloc w _).1
  obtain ⟨q, hq⟩ : ∃ q, w.heap.size = q := ⟨_, rfl⟩
  rw [hq] at nb
  have hql : q < W0.heap.size := by rw [← hW0, ← hq]; simp
  have e1 : W0.cell? ⟨q, 1, none⟩ = some (.bool co) := by simp [World.cell?, nb]
  have e2 : W0.cell? ⟨q, 2, none⟩ = some (.int .i64 ti) := by simp [World.cell?, nb]
  have e4 : W0.cell? ⟨q, 4, none⟩ = some (.int .i64 ki) := by simp [World.cell?, nb]
  have e5 : W0.cell? ⟨q, 5, none⟩ = some (.int .i64 ak) := by simp [World.cell?, nb]
  have e6 : W0.cell? ⟨q, 6, none⟩ = some (.int .i64 fi) := by simp [World.cell?, nb]
  have HQ : Hid (w.heap.size = q) := hq
  have HB0 := HB.out
  clear nb
  by_cases k1 : ki = 1
  · rw [if_pos (.inl k1)]
    have d1 : (ki == 1) = true := by simpa using k1
    clear k1
    go_enter Try.func24, Try.ntmps24
    go_wp2
    go_ret
    exact ⟨rfl, HB.out⟩
  have d1 : (ki == 1) = false := by simpa using k1
  by_cases k23 : ki = 2 ∨ ki = 3
  · have hk : ((ki == 2) = true ∧ (ki == 3) = false) ∨ ((ki == 2) = false ∧ (ki == 3) = true) := by
      rcases k23 with e | e
      · left; subst e; decide
      · right; subst e; decide
    cases co
    · rw [if_pos (.inr ⟨k23, rfl⟩)]
      clear k1 k23
      rcases hk with ⟨d2, d3⟩ | ⟨d2, d3⟩
      all_goals
        go_enter Try.func24, Try.ntmps24
        go_wp2
        go_ret
        exact ⟨rfl, HB.out⟩
    · rw [if_neg (fun g => by rcases g with g | g; exact k1 g; cases g.2), if_pos k23]
      have LE : Hid (∀ (X : World) (a : Nat), X.heap[a]? = some (.cells #[.int .i64 ak, .int .i64 fi, .int .i64 b] 3) → Calls Try.prog 20 #[.slice (some ⟨a, 0, none⟩) 3 3] X fun e w' => e = .returned (.int .i64 (min (min (min 1125899906842624 (cnt ak)) (cnt fi)) (cnt b))) ∧ X = w') := fun X a hX => by
        have hr2 : RdN cI (fun _ => True) X (some ⟨a, 0, none⟩) [ak, fi, b] := RdN.of_flat (Array.getElem?_eq_some_iff.1 hX).1 trivial (fun j u hj => by
          simp only [World.cell?, hX]
          simp only [Ytmkhgihhledegaa.flat, cI, encI, List.flatMap_cons, List.flatMap_nil, List.append_nil, List.singleton_append] at hj
          simpa using hj)
        exact least_any (c := 3) hr2 (by simp)
      clear k1 k23
      obtain ⟨z, hz⟩ : ∃ z, min (min (min 1125899906842624 (cnt ak)) (cnt fi)) (cnt b) = z := ⟨_, rfl⟩
      rw [hz] at LE ⊢
      clear hz
      obtain ⟨W2, hW2⟩ : ∃ W2, W0.alloc (.cells #[.int .i64 ak, .int .i64 fi, .int .i64 b] 3) = W2 := ⟨_, rfl⟩
      have HK : Below W0.heap.size W0 W2 := by rw [← hW2]; exact al _ _
      have KEEP0 : Hid (Below w.heap.size w W0.drew ∧ W0.drew.cell? ⟨q, 2, none⟩ = some (.int .i64 ti) ∧ W0.drew.cell? ⟨q, 5, none⟩ = some (.int .i64 ak) ∧ W0.drew.cell? ⟨q, 6, none⟩ = some (.int .i64 fi)) := ⟨HB0.drew, e2, e5, e6⟩
      have KEEP1 : Hid (Below w.heap.size w W2.drew ∧ W2.drew.cell? ⟨q, 2, none⟩ = some (.int .i64 ti) ∧ W2.drew.cell? ⟨q, 5, none⟩ = some (.int .i64 ak) ∧ W2.drew.cell? ⟨q, 6, none⟩ = some (.int .i64 fi)) := ⟨(Below.on HB0 HK).drew, (HK.cell (p := ⟨q, 2, none⟩) hql).trans e2, (HK.cell (p := ⟨q, 5, none⟩) hql).trans e5, (HK.cell (p := ⟨q, 6, none⟩) hql).trans e6⟩
      have LE2 : Hid (Calls Try.prog 20 #[.slice (some ⟨W0.heap.size, 0, none⟩) 3 3] W2.drew fun e w' => e = .returned (.int .i64 z) ∧ W2.drew = w') := LE.out _ _ (by rw [← hW2]; exact (MapKept.heap_alloc W0 _).1)
      rw [← hW2] at KEEP1 LE2
      clear HK hW2 LE
      rcases hk with ⟨d2, d3⟩ | ⟨d2, d3⟩
      all_goals
        go_enter Try.func24, Try.ntmps24
        go_wp2_with fail
        go_region_held3 (fun w' => Below w.heap.size w w' ∧ w'.cell? ⟨q, 2, none⟩ = some (.int .i64 ti) ∧ w'.cell? ⟨q, 5, none⟩ = some (.int .i64 ak) ∧ w'.cell? ⟨q, 6, none⟩ = some (.int .i64 fi)) (first | exact Hid.out KEEP0 | exact Hid.out KEEP1 | (go_keep; done)) ((go_at_call 20; refine (Hid.out LE2).mono ?_; rintro e w' ⟨rfl, rfl⟩))
        go_wp2
        go_ret
        exact ⟨rfl, KEEP1.out.1⟩
  · rw [if_neg (fun g => by rcases g with g | g; exact k1 g; exact k23 g.1), if_neg k23]
    have d2 : (ki == 2) = false := by simp; omega
    have d3 : (ki == 3) = false := by simp; omega
    clear k1 k23
    go_enter Try.func24, Try.ntmps24
    go_wp2
    go_ret
    exact ⟨rfl, HB.out⟩
/-- What a member sends nothing below, by the program. -/
def pou (m : Mb) (b : Int) : Int := if m.re = true then vadd (pba m b) (min (max m.lo 1) 1048576) else 1125899906842624
theorem pou_is (m : Mb) {b : Int} (hb : cnt b = b) : pou m b = outM m b := by
  unfold pou
  split
  · exact outM_is m (by assumption) hb
  · unfold L.outM
    rw [if_neg (by assumption)]
set_option maxHeartbeats 1000000 in
theorem pout_any (m : Mb) (b : Int) (w : World) :
    Calls Try.prog 16 #[mv m, .int .i64 b] w fun e w' => e = .returned (.int .i64 (pou m b)) ∧ Below w.heap.size w w' := by
  have BA := base_any m b
  unfold pou
  obtain ⟨pb, hpb⟩ : ∃ pb, pba m b = pb := ⟨_, rfl⟩
  rw [hpb]
  simp only [hpb] at BA
  clear hpb
  obtain ⟨r, co, ti, lo, ki, ak, fi⟩ := m
  unfold mv at BA ⊢
  dsimp only at BA ⊢
  obtain ⟨lk, hlk⟩ : ∃ lk, min (max lo 1) 1048576 = lk := ⟨_, rfl⟩
  obtain ⟨W0, hW0⟩ : ∃ W0, w.alloc (.cells #[.bool r, .bool co, .int .i64 ti, .int .i64 lo, .int .i64 ki, .int .i64 ak, .int .i64 fi] 33) = W0 := ⟨_, rfl⟩
  have HB : Hid (Below w.heap.size w W0) := by rw [← hW0]; exact al _ _
  have nb : W0.heap[w.heap.size]? = some (.cells #[.bool r, .bool co, .int .i64 ti, .int .i64 lo, .int .i64 ki, .int .i64 ak, .int .i64 fi] 33) := by rw [← hW0]; exact (MapKept.heap_alloc w _).1
  obtain ⟨q, hq⟩ : ∃ q, w.heap.size = q := ⟨_, rfl⟩
  rw [hq] at nb
  have hql : q < W0.heap.size := by rw [← hW0, ← hq]; simp
  have e0 : W0.cell? ⟨q, 0, none⟩ = some (.bool r) := by simp [World.cell?, nb]
  have e1 : W0.cell? ⟨q, 1, none⟩ = some (.bool co) := by simp [World.cell?, nb]
  have e2 : W0.cell? ⟨q, 2, none⟩ = some (.int .i64 ti) := by simp [World.cell?, nb]
  have e3 : W0.cell? ⟨q, 3, none⟩ = some (.int .i64 lo) := by simp [World.cell?, nb]
  have e4 : W0.cell? ⟨q, 4, none⟩ = some (.int .i64 ki) := by simp [World.cell?, nb]
  have e5 : W0.cell? ⟨q, 5, none⟩ = some (.int .i64 ak) := by simp [World.cell?, nb]
  have e6 : W0.cell? ⟨q, 6, none⟩ = some (.int .i64 fi) := by simp [World.cell?, nb]
  have HQ : Hid (w.heap.size = q) := hq
  clear nb
  cases r
  · rw [if_neg (by decide)]
    go_enter Try.func16, Try.ntmps16
    go_wp2
    go_ret
    exact ⟨rfl, HB.out⟩
  · rw [if_pos rfl, hlk]
    have HK : Hid (∀ W, Below W0.heap.size W0 W → Below w.heap.size w W ∧ W.cell? ⟨q, 0, none⟩ = some (.bool true) ∧ W.cell? ⟨q, 1, none⟩ = some (.bool co) ∧ W.cell? ⟨q, 2, none⟩ = some (.int .i64 ti) ∧ W.cell? ⟨q, 3, none⟩ = some (.int .i64 lo) ∧ W.cell? ⟨q, 4, none⟩ = some (.int .i64 ki) ∧ W.cell? ⟨q, 5, none⟩ = some (.int .i64 ak) ∧ W.cell? ⟨q, 6, none⟩ = some (.int .i64 fi)) := fun W hW => ⟨Below.on HB.out hW, (hW.cell (p := ⟨q, 0, none⟩) hql).trans e0, (hW.cell (p := ⟨q, 1, none⟩) hql).trans e1, (hW.cell (p := ⟨q, 2, none⟩) hql).trans e2, (hW.cell (p := ⟨q, 3, none⟩) hql).trans e3, (hW.cell (p := ⟨q, 4, none⟩) hql).trans e4, (hW.cell (p := ⟨q, 5, none⟩) hql).trans e5, (hW.cell (p := ⟨q, 6, none⟩) hql).trans e6⟩
    have KEEP0 : Hid (Below w.heap.size w W0.drew ∧ W0.drew.cell? ⟨q, 0, none⟩ = some (.bool true) ∧ W0.drew.cell? ⟨q, 1, none⟩ = some (.bool co) ∧ W0.drew.cell? ⟨q, 2, none⟩ = some (.int .i64 ti) ∧ W0.drew.cell? ⟨q, 3, none⟩ = some (.int .i64 lo) ∧ W0.drew.cell? ⟨q, 4, none⟩ = some (.int .i64 ki) ∧ W0.drew.cell? ⟨q, 5, none⟩ = some (.int .i64 ak) ∧ W0.drew.cell? ⟨q, 6, none⟩ = some (.int .i64 fi)) := HK.out _ (Below.refl _ _).drew
    have HD : Hid (Below W0.heap.size W0 W0.drew) := (Below.refl _ _).drew
    have AD : Hid (∀ W : World, Calls Try.prog 23 #[.int .i64 pb, .int .i64 lk] W fun e w' => e = .returned (.int .i64 (vadd pb lk)) ∧ W = w') := fun W => add_any pb lk W
    have BA2 : Hid (Calls Try.prog 24 #[.agg #[.bool true, .bool co, .int .i64 ti, .int .i64 lo, .int .i64 ki, .int .i64 ak, .int .i64 fi], .int .i64 b] W0.drew fun e w' => e = .returned (.int .i64 pb) ∧ Below W0.drew.heap.size W0.drew w') := BA _
    clear BA
    go_enter Try.func16, Try.ntmps16
    go_wp2_with fail
    go_region_held3 (fun w' => Below w.heap.size w w' ∧ w'.cell? ⟨q, 0, none⟩ = some (.bool true) ∧ w'.cell? ⟨q, 1, none⟩ = some (.bool co) ∧ w'.cell? ⟨q, 2, none⟩ = some (.int .i64 ti) ∧ w'.cell? ⟨q, 3, none⟩ = some (.int .i64 lo) ∧ w'.cell? ⟨q, 4, none⟩ = some (.int .i64 ki) ∧ w'.cell? ⟨q, 5, none⟩ = some (.int .i64 ak) ∧ w'.cell? ⟨q, 6, none⟩ = some (.int .i64 fi)) (first | exact Hid.out KEEP0 | exact Hid.out KEEP1 | (go_keep; done)) (first | (go_at_call 24; refine (Hid.out BA2).mono ?_; rintro e w1 ⟨rfl, h1⟩; have KEEP1 : Hid _ := (Hid.out HK) w1 ((Hid.out HD).trans h1); clear h1) | (go_at_call 23; refine (Hid.out AD _).mono ?_; rintro e w' ⟨rfl, rfl⟩))
    all_goals
      go_wp2
      go_ret
      exact ⟨rfl, KEEP1.out.1⟩
end Go.Proofs.Ytmkhgihhledegaa
