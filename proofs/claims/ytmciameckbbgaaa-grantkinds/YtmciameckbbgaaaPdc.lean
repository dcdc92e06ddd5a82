/- Proved: the contracts of the program's decideTime, decideNext, least and Decide; where what waits does not fall. -/
import Derived.Test.YtmciameckbbgaaaPsc
namespace Go.Proofs.Ytmciameckbbgaaa
open Go.RowKit Go.Shelf
open D (Gr dec many Up)
set_option linter.unusedVariables false

/-- What decideTime answers. -/
def dT (ask bound : Int) (q : List Int) : Gr := if bound > ask then ⟨true, ask, many q ask⟩ else D.no
/-- What decideNext answers. -/
def dN (ask time bound : Int) (q : List Int) : Gr := if 0 < q.length ∧ q.getD 0 0 ≤ ask then (if bound > q.getD 0 0 then ⟨true, max time (q.getD 0 0), many q (q.getD 0 0)⟩ else D.no) else if bound > ask then ⟨true, ask, 0⟩ else D.no
/-- The least of what is asked, the bound and the first that waits. -/
def lsT (ask bound : Int) (q : List Int) : Int := if 0 < q.length then min (min ask bound) (q.getD 0 0) else min ask bound
theorem dec_T {ask time bound : Int} {q : List Int} : dec 1 ask time bound q = dT ask bound q := D.dec1
theorem dec_N {ask time bound : Int} {q : List Int} : dec 2 ask time bound q = dN ask time bound q := by
  unfold D.dec dN
  rw [if_neg (fun h => by have := h.1; omega)]
  by_cases h : 0 < q.length ∧ q.getD 0 0 ≤ ask
  · rw [if_pos ⟨rfl, h⟩, if_pos h]
  · rw [if_neg (fun g => h g.2), if_neg h]
    by_cases b : bound > ask
    · rw [if_pos ⟨rfl, b⟩, if_pos b]
    · rw [if_neg (fun g => b g.2), if_neg b, if_neg (by decide)]
theorem dec_A {ask time bound : Int} {q : List Int} : dec 3 ask time bound q = ⟨true, max time (lsT ask bound q), q.length⟩ := by
  unfold D.dec lsT
  rw [if_neg (fun h => by have := h.1; omega), if_neg (fun h => by have := h.1; omega), if_neg (fun h => by have := h.1; omega), if_pos rfl]
theorem dec_O {k ask time bound : Int} {q : List Int} (h1 : k ≠ 1) (h2 : k ≠ 2) (h3 : k ≠ 3) : dec k ask time bound q = D.no := by
  unfold D.dec
  rw [if_neg (fun h => h1 h.1), if_neg (fun h => h2 h.1), if_neg (fun h => h2 h.1), if_neg h3]
set_option maxHeartbeats 1000000 in
theorem pdt_any {N : Nat → Prop} {w : World} {a : Option Addr} {c n : Nat} {q : List Int} (hq : RdN cI N w a q) (hu : Up q) (hn : q.length = n) (hm : n ≤ 100000) (ask bound : Int) :
    Calls Try.prog 12 #[.int .i64 ask, .int .i64 bound, .slice a n c] w fun e w' => e = .returned (grV (dT ask bound q)) ∧ Below w.heap.size w w' := by
  have U := upto_any (c := c) hq hu hn hm ask
  by_cases b : bound > ask
  · have b2 : ¬ bound ≤ ask := by omega
    have e : dT ask bound q = ⟨true, ask, many q ask⟩ := if_pos b
    rw [e]
    obtain ⟨r, hr⟩ : ∃ r, many q ask = r := ⟨_, rfl⟩
    rw [hr] at U ⊢
    clear hr e hq hu hn b
    go_enter Try.func12, Try.ntmps12
    go_wp2_with (go_at_call 16; refine U.mono ?_; rintro e w' ⟨rfl, h1⟩; have B1 : Hid _ := h1; clear h1 U)
    go_ret3
    exact ⟨rfl, B1.out⟩
  · have b2 : bound ≤ ask := by omega
    have e : dT ask bound q = D.no := if_neg b
    rw [e]
    clear e hq hu hn b U
    go_enter Try.func12, Try.ntmps12
    go_wp2
    go_ret3
    exact ⟨rfl, Below.refl _ _⟩
set_option maxHeartbeats 1000000 in
theorem plst_any {N : Nat → Prop} {w : World} {a : Option Addr} {c n : Nat} {q : List Int} (hq : RdN cI N w a q) (hn : q.length = n) (hm : n ≤ 100000) (ask bound : Int) :
    Calls Try.prog 14 #[.int .i64 ask, .int .i64 bound, .slice a n c] w fun e w' => e = .returned (.int .i64 (lsT ask bound q)) ∧ w = w' := by
  by_cases n0 : 0 < n
  · obtain ⟨x, hx⟩ : ∃ x, q.getD 0 0 = x := ⟨_, rfl⟩
    obtain ⟨b, off, rfl, hb, cx⟩ := RdN.int hq (by rw [hn]; exact n0) hx
    have hn0 : ¬ ((n : Int) = 0) := by omega
    have hn1 : (0 : Int) < (n : Int) := by omega
    have hnb : ((n : Int) == 0) = false := by simpa using hn0
    have cx0 : w.cell? ⟨b, off, none⟩ = some (.int .i64 x) := by simpa using cx
    have e : Aside (lsT ask bound q = min (min ask bound) x) := by
      show lsT ask bound q = _
      unfold lsT
      rw [if_pos (by omega), hx]
    clear hq hn hx
    go_enter Try.func14, Try.ntmps14
    go_wp2_with fail
    all_goals go_ret
    all_goals exact ⟨by rw [e.out]; exact congrArg Ending.returned (congrArg (Value.int .i64) (by omega)), rfl⟩
  · obtain rfl : n = 0 := by omega
    have e : Aside (lsT ask bound q = min ask bound) := by
      show lsT ask bound q = _
      unfold lsT
      rw [if_neg (by omega)]
    clear hq hn
    go_enter Try.func14, Try.ntmps14
    go_wp2_with fail
    all_goals go_ret
    all_goals exact ⟨by rw [e.out]; exact congrArg Ending.returned (congrArg (Value.int .i64) (by omega)), rfl⟩
set_option maxHeartbeats 2000000 in
theorem pdn_any {N : Nat → Prop} {w : World} {a : Option Addr} {c n : Nat} {q : List Int} (hq : RdN cI N w a q) (hu : Up q) (hn : q.length = n) (hm : n ≤ 100000) (ask time bound : Int) :
    Calls Try.prog 13 #[.int .i64 ask, .int .i64 time, .int .i64 bound, .slice a n c] w fun e w' => e = .returned (grV (dN ask time bound q)) ∧ Below w.heap.size w w' := by
  have T := pdt_any (w := w) (N := N) (a := none) (c := 0) (n := 0) (q := []) (RdN.nil _ _ _ _) (fun i j h1 h2 => by simp at h2) rfl (by omega) ask bound
  obtain ⟨g0, hg0⟩ : ∃ g, dT ask bound [] = g := ⟨_, rfl⟩
  rw [hg0] at T
  obtain ⟨gi, gt, gn⟩ := g0
  unfold grV at T
  dsimp only at T
  have e0 : Aside ((if bound > ask then (⟨true, ask, 0⟩ : Gr) else D.no) = ⟨gi, gt, gn⟩) := by rw [← hg0]; rfl
  clear hg0
  by_cases n0 : 0 < n
  · obtain ⟨x, hx⟩ : ∃ x, q.getD 0 0 = x := ⟨_, rfl⟩
    have U := upto_any (c := c) hq hu hn hm x
    obtain ⟨r, hr⟩ : ∃ r, many q x = r := ⟨_, rfl⟩
    rw [hr] at U
    have E : Aside (dN ask time bound q = if x ≤ ask then (if bound > x then ⟨true, max time x, r⟩ else D.no) else ⟨gi, gt, gn⟩) := by
      show dN ask time bound q = _
      unfold dN
      rw [e0.out, hx, hr]
      by_cases h : x ≤ ask
      · rw [if_pos ⟨by omega, h⟩, if_pos h]
      · rw [if_neg (fun g => h g.2), if_neg h]
    clear hr e0
    obtain ⟨b, off, rfl, hb, cx⟩ := RdN.int hq (by rw [hn]; exact n0) hx
    have hn0 : ¬ ((n : Int) = 0) := by omega
    have hn1 : (0 : Int) < (n : Int) := by omega
    have hnb : ((n : Int) == 0) = false := by simpa using hn0
    have cx0 : w.cell? ⟨b, off, none⟩ = some (.int .i64 x) := by simpa using cx
    clear hq hu hn hx cx
    by_cases xa : x ≤ ask
    · have xa2 : ¬ x > ask := by omega
      have xa3 : ¬ ask < x := by omega
      by_cases xb : bound > x
      · have xb2 : ¬ bound ≤ x := by omega
        have E2 : Aside (dN ask time bound q = ⟨true, max time x, r⟩) := by
          show _ = _
          rw [E.out, if_pos xa, if_pos xb]
        clear E T xb
        go_enter Try.func13, Try.ntmps13
        go_wp2_with (go_at_call 16; refine U.mono ?_; rintro e w' ⟨rfl, h1⟩; have B1 : Hid _ := h1; clear h1 U)
        go_ret3
        exact ⟨by rw [E2.out]; first | rfl | (show Ending.returned (.tuple #[.bool true, .int .i64 (max x time), .int .i64 r]) = _; rw [Int.max_comm]), B1.out⟩
      · have xb2 : bound ≤ x := by omega
        have E2 : Aside (dN ask time bound q = D.no) := by
          show _ = _
          rw [E.out, if_pos xa, if_neg xb]
        clear E T U xb
        go_enter Try.func13, Try.ntmps13
        go_wp2
        go_ret3
        exact ⟨by rw [E2.out]; rfl, Below.refl _ _⟩
    · have xa2 : x > ask := by omega
      have xa3 : ask < x := by omega
      have E2 : Aside (dN ask time bound q = ⟨gi, gt, gn⟩) := by
        show _ = _
        rw [E.out, if_neg xa]
      clear E U
      go_enter Try.func13, Try.ntmps13
      go_wp2_with (go_at_call 12; refine T.mono ?_; rintro e w' ⟨rfl, h1⟩; have B1 : Hid _ := h1; clear h1 T)
      go_ret3
      exact ⟨by rw [E2.out]; rfl, B1.out⟩
  · obtain rfl : n = 0 := by omega
    have E2 : Aside (dN ask time bound q = ⟨gi, gt, gn⟩) := by
      show dN ask time bound q = _
      unfold dN
      rw [if_neg (fun g => by omega)]
      exact e0.out
    clear hq hu hn e0
    go_enter Try.func13, Try.ntmps13
    go_wp2_with (go_at_call 12; refine T.mono ?_; rintro e w' ⟨rfl, h1⟩; have B1 : Hid _ := h1; clear h1 T)
    go_ret3
    exact ⟨by rw [E2.out]; rfl, B1.out⟩
set_option maxHeartbeats 2000000 in
theorem pdec_any {N : Nat → Prop} {w : World} {a : Option Addr} {c n : Nat} {q : List Int} (hq : RdN cI N w a q) (hu : Up q) (hn : q.length = n) (hm : n ≤ 1000) (k ask time bound : Int) :
    Calls Try.prog 10 #[.int .i64 k, .int .i64 ask, .int .i64 time, .int .i64 bound, .slice a n c] w fun e w' => e = .returned (grV (dec k ask time bound q)) ∧ Below w.heap.size w w' := by
  by_cases k1 : k = 1
  · subst k1
    have T := pdt_any (c := c) hq hu hn (by omega) ask bound
    rw [dec_T]
    obtain ⟨g, hg⟩ : ∃ g, dT ask bound q = g := ⟨_, rfl⟩
    rw [hg] at T ⊢
    obtain ⟨gi, gt, gn⟩ := g
    unfold grV at T ⊢
    dsimp only at T ⊢
    clear hg hq hu hn
    go_enter Try.func10, Try.ntmps10
    go_wp2_with (go_at_call 12; refine T.mono ?_; rintro e w' ⟨rfl, h1⟩; have B1 : Hid _ := h1; clear h1 T)
    go_ret3
    exact ⟨rfl, B1.out⟩
  by_cases k2 : k = 2
  · subst k2
    have T := pdn_any (c := c) hq hu hn (by omega) ask time bound
    rw [dec_N]
    obtain ⟨g, hg⟩ : ∃ g, dN ask time bound q = g := ⟨_, rfl⟩
    rw [hg] at T ⊢
    obtain ⟨gi, gt, gn⟩ := g
    unfold grV at T ⊢
    dsimp only at T ⊢
    clear hg hq hu hn k1
    go_enter Try.func10, Try.ntmps10
    go_wp2_with (go_at_call 13; refine T.mono ?_; rintro e w' ⟨rfl, h1⟩; have B1 : Hid _ := h1; clear h1 T)
    go_ret3
    exact ⟨rfl, B1.out⟩
  by_cases k3 : k = 3
  · subst k3
    have T := plst_any (c := c) hq hn (by omega) ask bound
    rw [dec_A, hn]
    obtain ⟨x, hx⟩ : ∃ x, lsT ask bound q = x := ⟨_, rfl⟩
    rw [hx] at T ⊢
    clear hx hq hu hn k1 k2
    go_enter Try.func10, Try.ntmps10
    go_wp2_with (go_at_call 14; refine T.mono ?_; rintro e w' ⟨rfl, rfl⟩)
    go_ret3
    exact ⟨rfl, Below.refl _ _⟩
  rw [dec_O k1 k2 k3]
  have d1 : (k == 1) = false := by simpa using k1
  have d2 : (k == 2) = false := by simpa using k2
  have d3 : (k == 3) = false := by simpa using k3
  clear hq hu hn k1 k2 k3
  go_enter Try.func10, Try.ntmps10
  go_wp2
  go_ret3
  exact ⟨rfl, Below.refl _ _⟩
end Go.Proofs.Ytmciameckbbgaaa
