/- Proved: the contract of the document's Decide. -/
import Derived.Test.YtmciameckbbgaaaGdo
namespace Go.Proofs.Ytmciameckbbgaaa
open Go.RowKit Go.Shelf
open D (Gr dec many Up)
set_option linter.unusedVariables false

set_option maxRecDepth 100000 in
set_option maxHeartbeats 2000000 in
theorem ddec_any {N : Nat → Prop} {w : World} {a : Option Addr} {c n : Nat} {q : List Int} (hq : RdN cI N w a q) (hn : q.length = n) (hm : n ≤ 100000) (k ask time bound : Int) :
    Calls Try.prog 11 #[.int .i64 k, .int .i64 ask, .int .i64 time, .int .i64 bound, .slice a n c] w fun e w' => e = .returned (grV (dec k ask time bound q)) ∧ Below w.heap.size w w' := by
  have MA : Hid (∀ t (W : World), Below w.heap.size w W → Calls Try.prog 15 #[.slice a n c, .int .i64 t] W fun e w' => e = .returned (.int .i64 (many q t)) ∧ w' = W) := fun t W hW => (many_any (hq.below hW) hn hm t).mono fun e w' ⟨he, hw⟩ => ⟨he, hw.symm⟩
  obtain ⟨g, hg⟩ : ∃ g, dec k ask time bound q = g := ⟨_, rfl⟩
  rw [hg]
  have hg' := hg
  unfold D.dec at hg'
  have HW : Hid (Below w.heap.size w w) := Below.refl _ _
  have HWD : Hid (Below w.heap.size w w.drew) := (Below.refl _ _).drew
  by_cases b1 : k = 1 ∧ bound > ask
  · rw [if_pos b1] at hg'
    have d1 : (k == 1) = true := by simpa using b1.1
    have d2 : bound > ask := b1.2
    have d3 : ask < bound := b1.2
    have HG : Hid (g = ⟨true, ask, many q ask⟩) := hg'.symm
    clear b1 hg hg'
    go_enter Try.func11, Try.ntmps11
    go_wp2_with (go_at_call 15; refine (Hid.out MA _ _ (Hid.out HW)).mono ?_; rintro e w' ⟨rfl, rfl⟩)
    go_ret3
    exact ⟨by rw [HG.out]; rfl, Below.refl _ _⟩
  rw [if_neg b1] at hg'
  by_cases k2 : k = 2
  · subst k2
    by_cases n0 : 0 < n
    · obtain ⟨x, hx⟩ : ∃ x, q.getD 0 0 = x := ⟨_, rfl⟩
      obtain ⟨b, off, rfl, hb, cx⟩ := RdN.int hq (by rw [hn]; exact n0) hx
      have hn0 : (0 : Int) < (n : Int) := by omega
      rw [hx, hn] at hg'
      by_cases x1 : x ≤ ask
      · rw [if_pos ⟨rfl, n0, x1⟩] at hg'
        by_cases x2 : bound > x
        · rw [if_pos x2] at hg'
          have x3 : x < bound := x2
          have HG : Hid (g = ⟨true, max time x, many q x⟩) := hg'.symm
          have cx0 : w.cell? ⟨b, off, none⟩ = some (.int .i64 x) := by simpa using cx
          clear b1 hg hg' hx
          go_enter Try.func11, Try.ntmps11
          go_wp2_with fail
          go_quiet ((go_at_call 15; refine Calls.quiet_of_same (Hid.out MA _ _ (by first | exact Hid.out HW | exact ⟨rfl, rfl, rfl, Nat.le_refl _, fun _ _ => rfl⟩))))
          go_wp2_with fail
          go_ret3
          exact ⟨by rw [HG.out]; rfl, ⟨rfl, rfl, rfl, Nat.le_refl _, fun _ _ => rfl⟩⟩
        · rw [if_neg x2] at hg'
          have x3 : ¬ x < bound := x2
          have HG : Hid (g = ⟨false, 0, 0⟩) := hg'.symm
          have cx0 : w.cell? ⟨b, off, none⟩ = some (.int .i64 x) := by simpa using cx
          clear b1 hg hg' hx
          go_enter Try.func11, Try.ntmps11
          go_wp2_with fail
          go_ret3
          exact ⟨by rw [HG.out]; rfl, Below.refl _ _⟩
      · rw [if_neg (fun h => x1 h.2.2)] at hg'
        have cx0 : w.cell? ⟨b, off, none⟩ = some (.int .i64 x) := by simpa using cx
        by_cases x2 : bound > ask
        · rw [if_pos ⟨rfl, x2⟩] at hg'
          have x3 : ask < bound := x2
          have HG : Hid (g = ⟨true, ask, 0⟩) := hg'.symm
          clear b1 hg hg' hx
          go_enter Try.func11, Try.ntmps11
          go_wp2_with fail
          go_ret3
          exact ⟨by rw [HG.out]; rfl, Below.refl _ _⟩
        · rw [if_neg (fun h => x2 h.2), if_neg (by decide)] at hg'
          have x3 : ¬ ask < bound := x2
          have HG : Hid (g = ⟨false, 0, 0⟩) := hg'.symm
          clear b1 hg hg' hx
          go_enter Try.func11, Try.ntmps11
          go_wp2_with fail
          go_ret3
          exact ⟨by rw [HG.out]; rfl, Below.refl _ _⟩
    · obtain rfl : n = 0 := by omega
      rw [hn, if_neg (fun h => n0 h.2.1)] at hg'
      by_cases x2 : bound > ask
      · rw [if_pos ⟨rfl, x2⟩] at hg'
        have x3 : ask < bound := x2
        have HG : Hid (g = ⟨true, ask, 0⟩) := hg'.symm
        clear b1 hg hg' hn
        go_enter Try.func11, Try.ntmps11
        go_wp2_with fail
        go_ret3
        exact ⟨by rw [HG.out]; rfl, Below.refl _ _⟩
      · rw [if_neg (fun h => x2 h.2), if_neg (by decide)] at hg'
        have x3 : ¬ ask < bound := x2
        have HG : Hid (g = ⟨false, 0, 0⟩) := hg'.symm
        clear b1 hg hg' hn
        go_enter Try.func11, Try.ntmps11
        go_wp2_with fail
        go_ret3
        exact ⟨by rw [HG.out]; rfl, Below.refl _ _⟩
  rw [if_neg (fun h => k2 h.1), if_neg (fun h => k2 h.1)] at hg'
  have d2 : (k == 2) = false := by simpa using k2
  have d1 : ((k == 1) = true ∧ ¬ bound > ask ∧ ¬ ask < bound ∧ (k == 3) = false) ∨ (k == 1) = false := by
    by_cases e : k = 1
    · left; subst e; exact ⟨rfl, fun h => b1 ⟨rfl, h⟩, fun h => b1 ⟨rfl, h⟩, rfl⟩
    · right; simpa using e
  by_cases k3 : k = 3
  · subst k3
    rw [if_pos rfl] at hg'
    by_cases n0 : 0 < n
    · obtain ⟨x, hx⟩ : ∃ x, q.getD 0 0 = x := ⟨_, rfl⟩
      obtain ⟨b, off, rfl, hb, cx⟩ := RdN.int hq (by rw [hn]; exact n0) hx
      have hn0 : (0 : Int) < (n : Int) := by omega
      rw [hx, hn, if_pos n0] at hg'
      have cx0 : w.cell? ⟨b, off, none⟩ = some (.int .i64 x) := by simpa using cx
      have HG : Hid (g = ⟨true, max time (min ask (min bound x)), n⟩) := by
        show _ = _
        rw [← hg', show min (min ask bound) x = min ask (min bound x) by omega]
      clear b1 hg hg' hx d1 d2 k2
      go_enter Try.func11, Try.ntmps11
      go_wp2_with fail
      go_ret3
      exact ⟨by rw [HG.out]; rfl, Below.refl _ _⟩
    · obtain rfl : n = 0 := by omega
      rw [hn, if_neg n0] at hg'
      have HG : Hid (g = ⟨true, max time (min ask bound), 0⟩) := hg'.symm
      clear b1 hg hg' hn d1 d2 k2
      go_enter Try.func11, Try.ntmps11
      go_wp2_with fail
      go_ret3
      exact ⟨by rw [HG.out]; rfl, Below.refl _ _⟩
  · rw [if_neg k3] at hg'
    have d3 : (k == 3) = false := by simpa using k3
    have HG : Hid (g = ⟨false, 0, 0⟩) := hg'.symm
    clear b1 hg hg' k2 k3
    rcases d1 with ⟨d1, x1, x2, _⟩ | d1
    all_goals
      go_enter Try.func11, Try.ntmps11
      go_wp2_with fail
      go_ret3
      exact ⟨by rw [HG.out]; rfl, Below.refl _ _⟩
end Go.Proofs.Ytmciameckbbgaaa
