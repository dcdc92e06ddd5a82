/- Joined: the texts that follow, each with its own sentence. -/
import Derived.Test.YtiaopafkfadmkaaGreatZAa
import Derived.Shelf.SlSortCmp.QuietGrown
import Derived.Test.YtiaopafkfadmkaaGreatZAc
set_option linter.unusedVariables false
set_option maxRecDepth 100000
namespace Go.Proofs.YtiaopafkfadmkaaGreat.A
open Go.Proofs.YtiaopafkfadmkaaGreat.B
open Go.RowKit Go.Shelf Go.Sort
set_option maxHeartbeats 2000000 in
theorem bsfK {w : World} {v : Value} {l : List E} (h : OwR cE 126 w v l) (hlen : l.length ≤ 64) (k : K) (hs : SrtP (l.map E.p)) :
  Calls Tryz.prog 223 #[v, kv k, .func (.func 116) #[] #[]] w fun e w' => ∃ z : Bool, e = .returned (.tuple #[.int .i64 (cut (bef k) (l.map E.p)), .bool z]) ∧ Below w.heap.size w w' := by
 have mixed : Tryz.prog.follows .mixedOrders = true := by kernel_rfl
 obtain ⟨k1, k2, k3⟩ := k
 have P1 : Aside (∀ i, i ≤ l.length → (∀ t, t < i → bef (k1, k2, k3) (nth cE l t).p = true) → (∀ t, i ≤ t → t < l.length → bef (k1, k2, k3) (nth cE l t).p = false) → cut (bef (k1, k2, k3)) (l.map E.p) = i) := fun i hi h1 h2 => cutE_unique i hi h1 h2
 have P3 : Aside (∀ a b, a ≤ b → b < l.length → bef (k1, k2, k3) (nth cE l b).p = true → bef (k1, k2, k3) (nth cE l a).p = true) := fun a b h1 h2 h3 => bef_mono hs h1 h2 h3
 obtain ⟨p, hp⟩ : ∃ p, cut (bef (k1, k2, k3)) (l.map E.p) = p := ⟨_, rfl⟩
 rw [hp] at P1 ⊢
 clear hp hs
 have eg : ∀ args w, (callFunc 116 args).run Tryz.prog w = .ok (.enter 116 args) w := enters_of Tryz.func116 (by kernel_rfl) rfl
 obtain ⟨w0, hw0⟩ : ∃ w0, w0 = w.alloc (.cells #[.int .i64 k1, .int .i64 k2, .int .i64 k3] 37) := ⟨_, rfl⟩
 have s0 : w0.heap.size = w.heap.size + 1 := by rw [hw0]; simp
 have b0 : Below w.heap.size w w0 := by rw [hw0]; exact al _ _
 have c0 : w0.cell? ⟨w.heap.size, 0, none⟩ = some (.int .i64 k1) := by rw [hw0]; simp only [World.cell?, heap_alloc_new]; rfl
 have c1 : w0.cell? ⟨w.heap.size, 1, none⟩ = some (.int .i64 k2) := by rw [hw0]; simp only [World.cell?, heap_alloc_new]; rfl
 have c2 : w0.cell? ⟨w.heap.size, 2, none⟩ = some (.int .i64 k3) := by rw [hw0]; simp only [World.cell?, heap_alloc_new]; rfl
 have hown0 : OwR cE 126 w0 v l := h.below b0
 have hend : Aside (∀ q os, Below w.heap.size w (grow (w0.drewN q) os)) := fun q os => Below.on b0 (below_grow _ _ _)
 have HW : Hid (w0 = w.alloc (.cells #[.int .i64 k1, .int .i64 k2, .int .i64 k3] 37)) := hw0
 clear hw0
 obtain ⟨a, cap, rfl, _⟩ := h.rd (N := fun _ => True) (fun _ _ => trivial)
 have HE : Aside _ := hend
 have HOWN : Hid (OwR cE 126 w0 (.slice a l.length cap) l) := hown0
 clear hend h hown0
 go_enter Tryz.func223, Tryz.ntmps223
 go_wp2_with fail
 rw [← HW.out]
 go_loopw [9, 10] (fun s9 s10 wr => ∃ lo hi : Nat, s9 = .int .i64 lo ∧ s10 = .int .i64 hi ∧ lo ≤ hi ∧ hi ≤ l.length ∧ (∃ q os, wr = grow (w0.drewN q) os) ∧ Aside ((∀ t, t < lo → bef (k1, k2, k3) (nth cE l t).p = true) ∧ (∀ t, hi ≤ t → t < l.length → bef (k1, k2, k3) (nth cE l t).p = false))) (fun s9 s10 _ => (intOf s10).toNat - (intOf s9).toNat)
 case atStart => exact ⟨0, l.length, rfl, rfl, Nat.zero_le _, Nat.le_refl _, ⟨0, #[], by rw [grow_empty]; rfl⟩, (⟨fun t ht => absurd ht (Nat.not_lt_zero _), fun t h1 h2 => by omega⟩ : (∀ t, t < 0 → bef (k1, k2, k3) (nth cE l t).p = true) ∧ (∀ t, l.length ≤ t → t < l.length → bef (k1, k2, k3) (nth cE l t).p = false))⟩
 case round =>
  obtain ⟨lo, hi, rfl, rfl, hlh, hin, ⟨q, os, rfl⟩, I⟩ := hrel
  have hbq : Below w0.heap.size w0 (grow (w0.drewN q) os) := below_grow _ _ _
  have hown : OwR cE 126 (grow (w0.drewN q) os) (.slice a l.length cap) l := HOWN.out.below hbq
  have d0 := (hbq.cell (p := ⟨w.heap.size, 0, none⟩) (by rw [s0]; exact Nat.lt_succ_self _)).trans c0
  have d1 := (hbq.cell (p := ⟨w.heap.size, 1, none⟩) (by rw [s0]; exact Nat.lt_succ_self _)).trans c1
  have d2 := (hbq.cell (p := ⟨w.heap.size, 2, none⟩) (by rw [s0]; exact Nat.lt_succ_self _)).trans c2
  have hBw : w.heap.size < (grow (w0.drewN q) os).heap.size := by have := hbq.size; omega
  have hgg : ∀ q' os', grow ((grow (w0.drewN q) os).drewN q') os' = grow (w0.drewN (q + q')) (os ++ os') := fun q' os' => by
   show grow (grow ((w0.drewN q).drewN q') os) os' = _; rw [grow_grow, World.drewN_drewN]
  have HG : Aside _ := hgg
  clear hgg
  obtain ⟨wr, hwr⟩ : ∃ wr, grow (w0.drewN q) os = wr := ⟨_, rfl⟩
  rw [hwr] at hown d0 d1 d2 hBw ⊢
  have HR : Aside _ := hwr
  clear hwr hbq
  have Y0 := fun n os => cell_grown (n := n) (os := os) (a := ⟨w.heap.size, 0, none⟩) hBw d0
  have Y1 := fun n os => cell_grown (n := n) (os := os) (a := ⟨w.heap.size, 1, none⟩) hBw d1
  have Y2 := fun n os => cell_grown (n := n) (os := os) (a := ⟨w.heap.size, 2, none⟩) hBw d2
  clear d0 d1 d2
  by_cases hlt : lo < hi
  ·obtain ⟨mid, hm⟩ : ∃ mid : Nat, mid = (lo + hi) / 2 := ⟨_, rfl⟩
   have hm1 : lo ≤ mid := by omega
   have hm2 : mid < hi := by omega
   have hm4 : ((lo : Int) + (hi : Int)) / 2 = (mid : Int) := by omega
   have hm5 : (mid : Int) < (l.length : Int) := by omega
   clear hm
   obtain ⟨x, hx⟩ : ∃ x, nth cE l (mid) = x := ⟨_, rfl⟩
   obtain ⟨g, hv, hg, x0, x1, x2, x3, x4, x5, x6, x7, x8, x9⟩ := hown.entry (i := mid) (by omega) hx
   subst hv
   have HX : Aside (nth cE l mid = x) := hx
   have hc := fun W => side_key x (k1, k2, k3) W
   obtain ⟨r, hr⟩ : ∃ r, kcmp x.p.m.1 (k1, k2, k3) = r := ⟨_, rfl⟩
   rw [hr] at hc
   have HK : Aside _ := bef_dec x.p (k1, k2, k3) r hr
   clear hx hr
   have X0 := fun n os => cell_grown (n := n) (os := os) (a := ⟨g, mid * 10, none⟩) hg x0
   have X1 := fun n os => cell_grown (n := n) (os := os) (a := ⟨g, mid * 10 + 1, none⟩) hg x1
   have X2 := fun n os => cell_grown (n := n) (os := os) (a := ⟨g, mid * 10 + 2, none⟩) hg x2
   have X3 := fun n os => cell_grown (n := n) (os := os) (a := ⟨g, mid * 10 + 3, none⟩) hg x3
   have X4 := fun n os => cell_grown (n := n) (os := os) (a := ⟨g, mid * 10 + 4, none⟩) hg x4
   have X5 := fun n os => cell_grown (n := n) (os := os) (a := ⟨g, mid * 10 + 5, none⟩) hg x5
   have X6 := fun n os => cell_grown (n := n) (os := os) (a := ⟨g, mid * 10 + 6, none⟩) hg x6
   have X7 := fun n os => cell_grown (n := n) (os := os) (a := ⟨g, mid * 10 + 7, none⟩) hg x7
   have X8 := fun n os => cell_grown (n := n) (os := os) (a := ⟨g, mid * 10 + 8, none⟩) hg x8
   have X9 := fun n os => cell_grown (n := n) (os := os) (a := ⟨g, mid * 10 + 9, none⟩) hg x9
   clear x0 x1 x2 x3 x4 x5 x6 x7 x8 x9 hown
   have hlt' : (lo : Int) < (hi : Int) := by omega
   obtain ⟨⟨⟨⟨y1, y2, y3⟩, y4, y5, y6⟩, y7, y8, y9, yos⟩, yoa, yoc⟩ := x
   by_cases hrl : r < 0
   ·go_wp2_with fail
    go_quiet_grown (first | (go_at_fn 116; refine Calls.grown_of (hc _)))
    go_wp2
    go_roundw
    case rel =>
     refine ⟨mid + 1, hi, by go_num, rfl, by omega, hin, ?_, ?_⟩
     ·exact ⟨_, _, by rw [← HR.out, HG.out]⟩
     ·refine (⟨fun t ht => ?_, I.out.2⟩ : (∀ t, t < mid + 1 → bef (k1, k2, k3) (nth cE l t).p = true) ∧ (∀ t, hi ≤ t → t < l.length → bef (k1, k2, k3) (nth cE l t).p = false))
      exact P3.out t mid (by omega) (by omega) (by rw [HX.out, HK.out]; simpa using hrl)
    case measure => simp [intOf]; omega
   ·go_wp2_with fail
    go_quiet_grown (first | (go_at_fn 116; refine Calls.grown_of (hc _)))
    go_wp2
    go_roundw
    case rel =>
     refine ⟨lo, mid, rfl, rfl, by omega, by omega, ?_, ?_⟩
     ·exact ⟨_, _, by rw [← HR.out, HG.out]⟩
     ·refine (⟨I.out.1, fun t ht htl => ?_⟩ : (∀ t, t < lo → bef (k1, k2, k3) (nth cE l t).p = true) ∧ (∀ t, mid ≤ t → t < l.length → bef (k1, k2, k3) (nth cE l t).p = false))
      cases hkt : bef (k1, k2, k3) (nth cE l t).p
      ·rfl
      ·have := P3.out mid t ht htl hkt
       rw [HX.out, HK.out] at this
       simp at this
       omega
    case measure => simp [intOf]; omega
  ·obtain rfl : hi = lo := by omega
   have hp : p = hi := P1.out hi hin I.out.1 I.out.2
   subst hp
   have hnl : ¬ ((p : Int) < (p : Int)) := by omega
   by_cases hn : p < l.length
   ·obtain ⟨x, hx⟩ : ∃ x, nth cE l (p) = x := ⟨_, rfl⟩
    obtain ⟨g, hv, hg, x0, x1, x2, x3, x4, x5, x6, x7, x8, x9⟩ := hown.entry (i := p) (by omega) hx
    subst hv
    have HX : Aside (nth cE l p = x) := hx
    have hc := fun W => side_key x (k1, k2, k3) W
    obtain ⟨r, hr⟩ : ∃ r, kcmp x.p.m.1 (k1, k2, k3) = r := ⟨_, rfl⟩
    rw [hr] at hc
    have HK : Aside _ := bef_dec x.p (k1, k2, k3) r hr
    clear hx hr
    have X0 := fun n os => cell_grown (n := n) (os := os) (a := ⟨g, p * 10, none⟩) hg x0
    have X1 := fun n os => cell_grown (n := n) (os := os) (a := ⟨g, p * 10 + 1, none⟩) hg x1
    have X2 := fun n os => cell_grown (n := n) (os := os) (a := ⟨g, p * 10 + 2, none⟩) hg x2
    have X3 := fun n os => cell_grown (n := n) (os := os) (a := ⟨g, p * 10 + 3, none⟩) hg x3
    have X4 := fun n os => cell_grown (n := n) (os := os) (a := ⟨g, p * 10 + 4, none⟩) hg x4
    have X5 := fun n os => cell_grown (n := n) (os := os) (a := ⟨g, p * 10 + 5, none⟩) hg x5
    have X6 := fun n os => cell_grown (n := n) (os := os) (a := ⟨g, p * 10 + 6, none⟩) hg x6
    have X7 := fun n os => cell_grown (n := n) (os := os) (a := ⟨g, p * 10 + 7, none⟩) hg x7
    have X8 := fun n os => cell_grown (n := n) (os := os) (a := ⟨g, p * 10 + 8, none⟩) hg x8
    have X9 := fun n os => cell_grown (n := n) (os := os) (a := ⟨g, p * 10 + 9, none⟩) hg x9
    clear x0 x1 x2 x3 x4 x5 x6 x7 x8 x9 hown
    have hn' : (p : Int) < (l.length : Int) := by omega
    have hdn : decide ((p : Int) < (l.length : Int)) = true := by simpa using hn
    obtain ⟨⟨⟨⟨y1, y2, y3⟩, y4, y5, y6⟩, y7, y8, y9, yos⟩, yoa, yoc⟩ := x
    go_wp2_with fail
    go_quiet_grown (first | (go_at_fn 116; refine Calls.grown_of (hc _)))
    go_wp2
    refine bodyPost_ret (v := .tuple #[.int .i64 p, .bool (r == 0)]) (by simp [results, Tryz.results223, go_sem]) rfl ⟨_, rfl, ?_⟩
    rw [← HR.out, HG.out]
    exact HE.out _ _
   ·have hdn : decide ((p : Int) < (l.length : Int)) = false := by simp; omega
    have hn' : ¬ ((p : Int) < (l.length : Int)) := by omega
    obtain rfl : p = l.length := by omega
    clear hown P1 P3 I Y0 Y1 Y2 hdn hn' hnl hn hin hlh
    go_wp2_with fail
    go_quiet (fail)
    go_wp2
    refine bodyPost_ret (v := .tuple #[.int .i64 l.length, .bool false]) (by simp [results, Tryz.results223, go_sem]) rfl ⟨false, rfl, ?_⟩
    rw [← HR.out, ← grow_empty (World.drewN _ _), HG.out]
    exact HE.out _ _
end Go.Proofs.YtiaopafkfadmkaaGreat.A
namespace Go.Proofs.YtiaopafkfadmkaaGreat.A
open Go.Proofs.YtiaopafkfadmkaaGreat.B
open Go.RowKit Go.Shelf Go.Sort
set_option maxHeartbeats 2000000 in
theorem bsfT {w : World} {v : Value} {l : List E} (h : OwR cE 126 w v l) (hlen : l.length ≤ 64) (tm : Int) (hs : SrtP (l.map E.p)) :
  Calls Tryz.prog 119 #[v, .int .i64 tm, .func (.func 115) #[] #[]] w fun e w' => ∃ z : Bool, e = .returned (.tuple #[.int .i64 (cut (low tm) (l.map E.p)), .bool z]) ∧ Below w.heap.size w w' := by
 have mixed : Tryz.prog.follows .mixedOrders = true := by kernel_rfl
 have P1 : Aside (∀ i, i ≤ l.length → (∀ t, t < i → low tm (nth cE l t).p = true) → (∀ t, i ≤ t → t < l.length → low tm (nth cE l t).p = false) → cut (low tm) (l.map E.p) = i) := fun i hi h1 h2 => cutE_unique i hi h1 h2
 have P3 : Aside (∀ a b, a ≤ b → b < l.length → low tm (nth cE l b).p = true → low tm (nth cE l a).p = true) := fun a b h1 h2 h3 => low_mono hs h1 h2 h3
 obtain ⟨p, hp⟩ : ∃ p, cut (low tm) (l.map E.p) = p := ⟨_, rfl⟩
 rw [hp] at P1 ⊢
 clear hp hs
 have eg : ∀ args w, (callFunc 115 args).run Tryz.prog w = .ok (.enter 115 args) w := enters_of Tryz.func115 (by kernel_rfl) rfl
 obtain ⟨w0, hw0⟩ : ∃ w0, w0 = w := ⟨_, rfl⟩
 have hown0 : OwR cE 126 w0 v l := by rw [hw0]; exact h
 have hend : Aside (∀ q os, Below w.heap.size w (grow (w0.drewN q) os)) := fun q os => by rw [hw0]; exact below_grow _ _ _
 have HW : Hid (w0 = w) := hw0
 clear hw0
 obtain ⟨a, cap, rfl, _⟩ := h.rd (N := fun _ => True) (fun _ _ => trivial)
 have HE : Aside _ := hend
 have HOWN : Hid (OwR cE 126 w0 (.slice a l.length cap) l) := hown0
 clear hend h hown0
 go_enter Tryz.func119, Tryz.ntmps119
 go_wp2_with fail
 rw [← HW.out]
 go_loopw [9, 10] (fun s9 s10 wr => ∃ lo hi : Nat, s9 = .int .i64 lo ∧ s10 = .int .i64 hi ∧ lo ≤ hi ∧ hi ≤ l.length ∧ (∃ q os, wr = grow (w0.drewN q) os) ∧ Aside ((∀ t, t < lo → low tm (nth cE l t).p = true) ∧ (∀ t, hi ≤ t → t < l.length → low tm (nth cE l t).p = false))) (fun s9 s10 _ => (intOf s10).toNat - (intOf s9).toNat)
 case atStart => exact ⟨0, l.length, rfl, rfl, Nat.zero_le _, Nat.le_refl _, ⟨0, #[], by rw [grow_empty]; rfl⟩, (⟨fun t ht => absurd ht (Nat.not_lt_zero _), fun t h1 h2 => by omega⟩ : (∀ t, t < 0 → low tm (nth cE l t).p = true) ∧ (∀ t, l.length ≤ t → t < l.length → low tm (nth cE l t).p = false))⟩
 case round =>
  obtain ⟨lo, hi, rfl, rfl, hlh, hin, ⟨q, os, rfl⟩, I⟩ := hrel
  have hbq : Below w0.heap.size w0 (grow (w0.drewN q) os) := below_grow _ _ _
  have hown : OwR cE 126 (grow (w0.drewN q) os) (.slice a l.length cap) l := HOWN.out.below hbq
  have hgg : ∀ q' os', grow ((grow (w0.drewN q) os).drewN q') os' = grow (w0.drewN (q + q')) (os ++ os') := fun q' os' => by
   show grow (grow ((w0.drewN q).drewN q') os) os' = _; rw [grow_grow, World.drewN_drewN]
  have HG : Aside _ := hgg
  clear hgg
  obtain ⟨wr, hwr⟩ : ∃ wr, grow (w0.drewN q) os = wr := ⟨_, rfl⟩
  rw [hwr] at hown ⊢
  have HR : Aside _ := hwr
  clear hwr hbq
  by_cases hlt : lo < hi
  ·obtain ⟨mid, hm⟩ : ∃ mid : Nat, mid = (lo + hi) / 2 := ⟨_, rfl⟩
   have hm1 : lo ≤ mid := by omega
   have hm2 : mid < hi := by omega
   have hm4 : ((lo : Int) + (hi : Int)) / 2 = (mid : Int) := by omega
   have hm5 : (mid : Int) < (l.length : Int) := by omega
   clear hm
   obtain ⟨x, hx⟩ : ∃ x, nth cE l (mid) = x := ⟨_, rfl⟩
   obtain ⟨g, hv, hg, x0, x1, x2, x3, x4, x5, x6, x7, x8, x9⟩ := hown.entry (i := mid) (by omega) hx
   subst hv
   have HX : Aside (nth cE l mid = x) := hx
   have hc := fun W => side_time x tm W
   obtain ⟨r, hr⟩ : ∃ r, cmpI x.p.m.1.1 tm = r := ⟨_, rfl⟩
   rw [hr] at hc
   have HK : Aside _ := low_dec x.p tm r hr
   clear hx hr
   clear hown
   have hlt' : (lo : Int) < (hi : Int) := by omega
   obtain ⟨⟨⟨⟨y1, y2, y3⟩, y4, y5, y6⟩, y7, y8, y9, yos⟩, yoa, yoc⟩ := x
   by_cases hrl : r < 0
   ·go_wp2_with (go_at_fn 115; refine (hc _).mono ?_; rintro e w2 ⟨rfl, q2, os2, rfl⟩)
    go_roundw
    case rel =>
     refine ⟨mid + 1, hi, by go_num, rfl, by omega, hin, ?_, ?_⟩
     ·exact ⟨_, _, by rw [← HR.out, HG.out]⟩
     ·refine (⟨fun t ht => ?_, I.out.2⟩ : (∀ t, t < mid + 1 → low tm (nth cE l t).p = true) ∧ (∀ t, hi ≤ t → t < l.length → low tm (nth cE l t).p = false))
      exact P3.out t mid (by omega) (by omega) (by rw [HX.out, HK.out]; simpa using hrl)
    case measure => simp [intOf]; omega
   ·go_wp2_with (go_at_fn 115; refine (hc _).mono ?_; rintro e w2 ⟨rfl, q2, os2, rfl⟩)
    go_roundw
    case rel =>
     refine ⟨lo, mid, rfl, rfl, by omega, by omega, ?_, ?_⟩
     ·exact ⟨_, _, by rw [← HR.out, HG.out]⟩
     ·refine (⟨I.out.1, fun t ht htl => ?_⟩ : (∀ t, t < lo → low tm (nth cE l t).p = true) ∧ (∀ t, mid ≤ t → t < l.length → low tm (nth cE l t).p = false))
      cases hkt : low tm (nth cE l t).p
      ·rfl
      ·have := P3.out mid t ht htl hkt
       rw [HX.out, HK.out] at this
       simp at this
       omega
    case measure => simp [intOf]; omega
  ·obtain rfl : hi = lo := by omega
   have hp : p = hi := P1.out hi hin I.out.1 I.out.2
   subst hp
   have hnl : ¬ ((p : Int) < (p : Int)) := by omega
   by_cases hn : p < l.length
   ·obtain ⟨x, hx⟩ : ∃ x, nth cE l (p) = x := ⟨_, rfl⟩
    obtain ⟨g, hv, hg, x0, x1, x2, x3, x4, x5, x6, x7, x8, x9⟩ := hown.entry (i := p) (by omega) hx
    subst hv
    have HX : Aside (nth cE l p = x) := hx
    have hc := fun W => side_time x tm W
    obtain ⟨r, hr⟩ : ∃ r, cmpI x.p.m.1.1 tm = r := ⟨_, rfl⟩
    rw [hr] at hc
    have HK : Aside _ := low_dec x.p tm r hr
    clear hx hr
    clear hown
    have hn' : (p : Int) < (l.length : Int) := by omega
    have hdn : decide ((p : Int) < (l.length : Int)) = true := by simpa using hn
    obtain ⟨⟨⟨⟨y1, y2, y3⟩, y4, y5, y6⟩, y7, y8, y9, yos⟩, yoa, yoc⟩ := x
    go_wp2_with (go_at_fn 115; refine (hc _).mono ?_; rintro e w2 ⟨rfl, q2, os2, rfl⟩)
    refine bodyPost_ret (v := .tuple #[.int .i64 p, .bool (r == 0)]) (by simp [results, Tryz.results119, go_sem]) rfl ⟨_, rfl, ?_⟩
    rw [← HR.out, HG.out]
    exact HE.out _ _
   ·have hdn : decide ((p : Int) < (l.length : Int)) = false := by simp; omega
    have hn' : ¬ ((p : Int) < (l.length : Int)) := by omega
    obtain rfl : p = l.length := by omega
    clear hown P1 P3 I hdn hn' hnl hn hin hlh
    go_wp2
    refine bodyPost_ret (v := .tuple #[.int .i64 l.length, .bool false]) (by simp [results, Tryz.results119, go_sem]) rfl ⟨false, rfl, ?_⟩
    rw [← HR.out]
    exact HE.out _ _
end Go.Proofs.YtiaopafkfadmkaaGreat.A
namespace Go.Proofs.YtiaopafkfadmkaaGreat.A
open Go.Proofs.YtiaopafkfadmkaaGreat.B
open Go.RowKit Go.Shelf Go.Sort
def gonK (k : K) (L : List P) : List P := (L.filter (fun x => !bef k x)).reverse
def gonT (t : Int) (L : List P) : List P := L.filter (low t)
theorem map_cut {l : List E} {n : Nat} : (l.take n).map E.p = (l.map E.p).take n ∧ (l.drop n).map E.p = (l.map E.p).drop n := ⟨by simp, by simp⟩
def OutP (X : Nat → Prop) (w : World) (fl : Int) (G R : List P) (b : Nat) (v : Value) (e : Ending) (w' : World) : Prop :=
 ∃ a c v', e = .returned (.slice a G.length c) ∧ Gon (fun k => ¬ X k ∧ ¬ D b v' k) w' a G ∧ PP X w' fl R b v' ∧ Mw (D b v) (D b v') w w'
theorem back_fin {X : Nat → Prop} {w w3 w4 : World} {fl : Int} {l : List E} {b : Nat} {v v' : Value} {k : K} {i j : Nat} {a : Option Addr} {c : Nat} (hs : SrtP (l.map E.p)) (hi : cut (bef k) (l.map E.p) = i) (hj : l.length = j) (hxl : ∀ k, X k → k < w.heap.size)
  (ho : OwR cE 126 w4 (.slice a (j - i) c) ((l.drop i).take (j - i)).reverse) (hf : Fr (fun k => (Value.slice a (j - i) c).ownBlock = some k) w3 w4) (hn : ∀ k, (Value.slice a (j - i) c).ownBlock = some k → w.heap.size ≤ k)
  (hp : PQ (XG X (.slice a (j - i) c)) w3 fl (l.take i ++ l.drop j) b v') (hm : Mw (D b v) (D b v') w w3) (hx : ∀ x ∈ (l.drop i).take (j - i), Out (fun k => ¬ XG X (.slice a (j - i) c) k ∧ ¬ D b v' k) w3 x) :
  OutP X w fl (gonK k (l.map E.p)) ((l.map E.p).filter (bef k)) b v (.returned (.slice a (j - i) c)) w4 := by
 obtain ⟨e1, e2⟩ := cls_cut (cls_bef hs k)
 rw [hi] at e1 e2
 have hij : i ≤ j := by rw [← hi, ← hj]; have := cut_le (bef k) (l.map E.p); simpa using this
 have e3 : (l.drop i).take (j - i) = l.drop i := List.take_of_length_le (by rw [List.length_drop]; omega)
 rw [e3] at ho hx
 have e4 : l.take i ++ l.drop j = l.take i := by rw [List.drop_of_length_le (by omega), List.append_nil]
 rw [e4] at hp
 have eg : gonK k (l.map E.p) = (l.drop i).reverse.map E.p := by unfold gonK; rw [e2, List.map_reverse, map_cut.2]
 have hgl : (gonK k (l.map E.p)).length = j - i := by rw [eg]; simp; omega
 have kf : ∀ x, Out (fun k => ¬ XG X (.slice a (j - i) c) k ∧ ¬ D b v' k) w3 x → Out (fun k => ¬ X k ∧ ¬ D b v' k) w4 x := fun x h => h.keep hf (fun k _ g => ⟨fun e => g.1 (Or.inr e), fun e => g.1 (Or.inl e), g.2⟩)
 refine ⟨a, c, v', by rw [hgl], ⟨(l.drop i).reverse, eg.symm, ho.look.2.wide (fun k _ e => ?_), fun x hx' => kf x (hx x (List.mem_reverse.1 hx'))⟩, ⟨l.take i, by rw [e1, map_cut.1], hp.keep hf (fun k e => Or.inr e) (fun k _ e => Or.inl e) (fun k e => ?_), hs.filter _⟩, ?_⟩
 ·refine ⟨fun e2 => ?_, fun d => hp.dx d (Or.inr e)⟩
  have := hxl k e2
  have := hn k e
  omega
 ·exact Nat.lt_of_lt_of_le (hxl k e) (Nat.le_trans hm.fr.size hf.size)
 ·exact ⟨hm.fr.trans hf (fun i hi e => by have := hn i e; omega), hm.new⟩
theorem settle_fin {X : Nat → Prop} {w w3 : World} {fl : Int} {l : List E} {b : Nat} {v v' : Value} {t : Int} {j : Nat} {a : Option Addr} {c : Nat} (hs : SrtP (l.map E.p)) (hj : cut (low t) (l.map E.p) = j) (hxl : ∀ k, X k → k < w.heap.size)
  (ho : OwR cE 126 w3 (.slice a (j - 0) c) ((l.drop 0).take (j - 0))) (hn : ∀ k, (Value.slice a (j - 0) c).ownBlock = some k → w.heap.size ≤ k)
  (hp : PQ (XG X (.slice a (j - 0) c)) w3 fl (l.take 0 ++ l.drop j) b v') (hm : Mw (D b v) (D b v') w w3) (hx : ∀ x ∈ (l.drop 0).take (j - 0), Out (fun k => ¬ XG X (.slice a (j - 0) c) k ∧ ¬ D b v' k) w3 x) :
  OutP X w fl (gonT t (l.map E.p)) ((l.map E.p).filter (fun x => !low t x)) b v (.returned (.slice a (j - 0) c)) w3 := by
 obtain ⟨e1, e2⟩ := cls_cut (cls_low hs t)
 rw [hj] at e1 e2
 rw [Nat.sub_zero] at *
 rw [List.drop_zero] at ho hx
 rw [List.take_zero, List.nil_append] at hp
 have hjl : j ≤ l.length := by rw [← hj]; have := cut_le (low t) (l.map E.p); simpa using this
 have eg : gonT t (l.map E.p) = (l.take j).map E.p := by unfold gonT; rw [e1, map_cut.1]
 have hgl : (gonT t (l.map E.p)).length = j := by rw [eg]; simp; omega
 refine ⟨a, c, v', by rw [hgl], ⟨l.take j, eg.symm, ho.look.2.wide (fun k _ e => ?_), fun x hx' => (hx x hx').wide (fun k _ g => ⟨fun e => g.1 (Or.inl e), g.2⟩)⟩, ⟨l.drop j, by rw [e2, map_cut.2], hp.keep (Fr.refl (fun _ => False) _) (fun k e => e.elim) (fun k _ e => Or.inl e) (fun k e => ?_), hs.filter _⟩, hm⟩
 ·refine ⟨fun e2 => ?_, fun d => hp.dx d (Or.inr e)⟩
  have := hxl k e2
  have := hn k e
  omega
 ·exact Nat.lt_of_lt_of_le (hxl k e) hm.fr.size
set_option maxHeartbeats 2000000 in
theorem back_any {X : Nat → Prop} {w : World} {fl : Int} {L : List P} {b : Nat} {v : Value} (h : PP X w fl L b v) (k : K) :
  Calls Tryz.prog 203 #[.pointer (some ⟨b, 0, none⟩), kv k] w (OutP X w fl (gonK k L) (L.filter (bef k)) b v) := by
 have mixed : Tryz.prog.follows .mixedOrders = true := by kernel_rfl
 obtain ⟨l, rfl, hq, hs⟩ := h
 obtain ⟨k1, k2, k3⟩ := k
 obtain ⟨a, c, rfl, _⟩ := hq.row.rd (N := fun _ => True) (fun _ _ => trivial)
 obtain ⟨i, hi⟩ : ∃ i, cut (bef (k1, k2, k3)) (l.map E.p) = i := ⟨_, rfl⟩
 have hil : i ≤ l.length := by rw [← hi]; have := cut_le (bef (k1, k2, k3)) (l.map E.p); simpa using this
 obtain ⟨w1, hw1⟩ : ∃ w1, w1 = w.alloc (.cells #[.int .i64 k1, .int .i64 k2, .int .i64 k3] 37) := ⟨_, rfl⟩
 have hb1 : Below w.heap.size w w1 := by rw [hw1]; exact al _ _
 have hq1 := hq.below hb1
 have B0 : w1.heap[w.heap.size]? = some (.cells #[.int .i64 k1, .int .i64 k2, .int .i64 k3] 37) := by rw [hw1]; exact newB _ _
 have HBS : Hid (∀ W, Below w1.heap.size w1 W → Calls Tryz.prog 223 #[.slice a l.length c, kv (k1, k2, k3), .func (.func 116) #[] #[]] W fun e w' => ∃ z : Bool, e = .returned (.tuple #[.int .i64 i, .bool z]) ∧ Below W.heap.size W w') := fun W hW => by
  have := bsfK (hq1.row.below hW) hq.cap (k1, k2, k3) hs
  rw [hi] at this
  exact this
 have HTK : Hid (∀ W, Below w1.heap.size w1 W → Calls Tryz.prog 120 #[.pointer (some ⟨b, 0, none⟩), .int .i64 i, .int .i64 l.length] W (TakenP X W fl l b (.slice a l.length c) i l.length)) := fun W hW => taken_any (hq1.below hW) hil (Nat.le_refl _)
 have HRD : Hid (∀ W, Below w1.heap.size w1 W → W.cell? ⟨b, 0, none⟩ = some (.slice a l.length c) ∧ W.cell? ⟨w.heap.size, 0, none⟩ = some (.int .i64 k1) ∧ W.cell? ⟨w.heap.size, 1, none⟩ = some (.int .i64 k2) ∧ W.cell? ⟨w.heap.size, 2, none⟩ = some (.int .i64 k3)) := fun W hW => by
  have B := (hW.block w.heap.size (Array.getElem?_eq_some_iff.1 B0).1).trans B0
  exact ⟨(hq1.below hW).c0, cellB B 0, cellB B 1, cellB B 2⟩
 have HFIN : Hid (∀ {W w3 w4 : World} {v' : Value} {a2 : Option Addr} {c2 : Nat}, Below w1.heap.size w1 W → OwR cE 126 w4 (.slice a2 (l.length - i) c2) ((l.drop i).take (l.length - i)).reverse → Fr (fun k => (Value.slice a2 (l.length - i) c2).ownBlock = some k) w3 w4 → (∀ k, (Value.slice a2 (l.length - i) c2).ownBlock = some k → W.heap.size ≤ k) →
   PQ (XG X (.slice a2 (l.length - i) c2)) w3 fl (l.take i ++ l.drop l.length) b v' → Mw (D b (.slice a l.length c)) (D b v') W w3 → (∀ x ∈ (l.drop i).take (l.length - i), Out (fun k => ¬ XG X (.slice a2 (l.length - i) c2) k ∧ ¬ D b v' k) w3 x) →
   OutP X w fl (gonK (k1, k2, k3) (l.map E.p)) ((l.map E.p).filter (bef (k1, k2, k3))) b (.slice a l.length c) (.returned (.slice a2 (l.length - i) c2)) w4) := by
  intro W w3 w4 v' a2 c2 hW h1 h2 h3 h4 h5 h6
  have hbW : Below w.heap.size w W := Below.on hb1 hW
  exact back_fin hs hi rfl hq.xl h1 h2 (fun k e => Nat.le_trans hbW.size (h3 k e)) h4 ((Mw.below hbW).trans h5) h6
 have hcap := hq.cap
 obtain ⟨x0, x1, x2, x3⟩ := HRD.out w1 (Below.refl _ _)
 have HW : Hid (w1 = w.alloc (.cells #[.int .i64 k1, .int .i64 k2, .int .i64 k3] 37)) := hw1
 have HCAP : Hid (l.length ≤ 64) := hcap
 dsimp only [kv]
 clear hw1 B0 hb1 hq1 hq hs hi hcap hil
 go_enter Tryz.func203, Tryz.ntmps203
 go_wp2_with fail
 rw [← HW.out]
 have BS : Hid (Calls Tryz.prog 223 #[.slice a l.length c, .agg #[.int .i64 k1, .int .i64 k2, .int .i64 k3], .func (.func 116) #[] #[]] w1.drew fun e w' => ∃ z : Bool, e = .returned (.tuple #[.int .i64 i, .bool z]) ∧ Below w1.heap.size w1 w') := (HBS.out w1.drew (Below.refl _ w1).drew).mono fun e w' ⟨z, he, hb⟩ => ⟨z, he, ⟨hb.os, hb.tape, hb.output, hb.size, hb.block⟩⟩
 go_region_held3 (fun w' => w'.cell? ⟨b, 0, none⟩ = some (.slice a l.length c) ∧ w'.cell? ⟨w.heap.size, 0, none⟩ = some (.int .i64 k1) ∧ w'.cell? ⟨w.heap.size, 1, none⟩ = some (.int .i64 k2) ∧ w'.cell? ⟨w.heap.size, 2, none⟩ = some (.int .i64 k3)) (first | (go_keep; done) | exact Hid.out KEEP) (first
  | (go_at_call 223; refine (Hid.out BS).mono ?_; rintro e w2 ⟨z, rfl, hb3⟩; have HB2 : Hid (Below w1.heap.size w1 w2) := hb3; have KEEP : Hid (w2.cell? ⟨b, 0, none⟩ = some (.slice a l.length c) ∧ w2.cell? ⟨w.heap.size, 0, none⟩ = some (.int .i64 k1) ∧ w2.cell? ⟨w.heap.size, 1, none⟩ = some (.int .i64 k2) ∧ w2.cell? ⟨w.heap.size, 2, none⟩ = some (.int .i64 k3)) := Hid.out HRD _ hb3; clear hb3 BS))
 go_wp2_with (first
  | (go_at_call 120; refine (Hid.out HTK _ (Hid.out HB2)).mono ?_; rintro e w3 ⟨a2, c2, v', rfl, ho, hn, hp, hm, hx⟩; have HO : Hid (OwR cE 126 w3 (.slice a2 (l.length - i) c2) ((l.drop i).take (l.length - i))) := ho; have HN : Hid (∀ k, (Value.slice a2 (l.length - i) c2).ownBlock = some k → w2.heap.size ≤ k) := hn; have HP : Hid (PQ (XG X (.slice a2 (l.length - i) c2)) w3 fl (l.take i ++ l.drop l.length) b v') := hp; have HM : Hid (Mw (D b (.slice a l.length c)) (D b v') w2 w3) := hm; have HX : Hid (∀ x ∈ (l.drop i).take (l.length - i), Out (fun k => ¬ XG X (.slice a2 (l.length - i) c2) k ∧ ¬ D b v' k) w3 x) := hx; clear ho hn hp hm hx)
  | (go_at_call 224; refine (rev_any (Hid.out HO) (by simp only [List.length_take, List.length_drop]; have := HCAP.out; omega)).mono ?_; rintro e w4 ⟨rfl, ho4, hf4⟩; have HO4 : Hid (OwR cE 126 w4 (.slice a2 (l.length - i) c2) ((l.drop i).take (l.length - i)).reverse) := ho4; have HF4 : Hid (Fr (fun k => (Value.slice a2 (l.length - i) c2).ownBlock = some k) w3 w4) := hf4; clear ho4 hf4))
 go_ret
 exact HFIN.out HB2.out HO4.out HF4.out HN.out HP.out HM.out HX.out
end Go.Proofs.YtiaopafkfadmkaaGreat.A
