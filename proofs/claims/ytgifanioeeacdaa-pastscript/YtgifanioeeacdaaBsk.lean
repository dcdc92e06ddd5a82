/- Proved: the contract of slices.BinarySearchFunc of entries by a key. -/
import Derived.Test.YtgifanioeeacdaaSid
import Derived.Test.YtgifanioeeacdaaCut
import Derived.Shelf.SlSortCmp.QuietGrown
namespace Go.Proofs.Ytgifanioeeacdaa
open Go.RowKit Go.Shelf Go.Sort
set_option linter.unusedVariables false
set_option maxRecDepth 100000 in
set_option maxHeartbeats 2000000 in
theorem bsfK {w : World} {v : Value} {l : List E} (h : OwR cE 34 w v l) (hlen : l.length ≤ 64) (k : K) (hs : SrtP (l.map E.p)) :
    Calls Try.prog 29 #[v, kv k, .func (.func 27) #[] #[]] w fun e w' => ∃ z : Bool, e = .returned (.tuple #[.int .i64 (cut (bef k) (l.map E.p)), .bool z]) ∧ Below w.heap.size w w' := by
  have mixed : Try.prog.follows .mixedOrders = true := by kernel_rfl
  obtain ⟨k1, k2, k3⟩ := k
  have P1 : Aside (∀ i, i ≤ l.length → (∀ t, t < i → bef (k1, k2, k3) (nth cE l t).p = true) → (∀ t, i ≤ t → t < l.length → bef (k1, k2, k3) (nth cE l t).p = false) → cut (bef (k1, k2, k3)) (l.map E.p) = i) := fun i hi h1 h2 => cutE_unique i hi h1 h2
  have P3 : Aside (∀ a b, a ≤ b → b < l.length → bef (k1, k2, k3) (nth cE l b).p = true → bef (k1, k2, k3) (nth cE l a).p = true) := fun a b h1 h2 h3 => bef_mono hs h1 h2 h3
  obtain ⟨p, hp⟩ : ∃ p, cut (bef (k1, k2, k3)) (l.map E.p) = p := ⟨_, rfl⟩
  rw [hp] at P1 ⊢
  clear hp hs
  have eg : ∀ args w, (callFunc 27 args).run Try.prog w = .ok (.enter 27 args) w := enters_of Try.func27 (by kernel_rfl) rfl
  obtain ⟨w0, hw0⟩ : ∃ w0, w0 = w.alloc (.cells #[.int .i64 k1, .int .i64 k2, .int .i64 k3] 29) := ⟨_, rfl⟩
  have s0 : w0.heap.size = w.heap.size + 1 := by rw [hw0]; simp
  have b0 : Below w.heap.size w w0 := by rw [hw0]; exact al _ _
  have c0 : w0.cell? ⟨w.heap.size, 0, none⟩ = some (.int .i64 k1) := by rw [hw0]; simp only [World.cell?, heap_alloc_new]; rfl
  have c1 : w0.cell? ⟨w.heap.size, 1, none⟩ = some (.int .i64 k2) := by rw [hw0]; simp only [World.cell?, heap_alloc_new]; rfl
  have c2 : w0.cell? ⟨w.heap.size, 2, none⟩ = some (.int .i64 k3) := by rw [hw0]; simp only [World.cell?, heap_alloc_new]; rfl
  have hown0 : OwR cE 34 w0 v l := h.below b0
  have hend : Aside (∀ q os, Below w.heap.size w (grow (w0.drewN q) os)) := fun q os => Below.on b0 (below_grow _ _ _)
  have HW : Hid (w0 = w.alloc (.cells #[.int .i64 k1, .int .i64 k2, .int .i64 k3] 29)) := hw0
  clear hw0
  obtain ⟨a, cap, rfl, _⟩ := h.rd (N := fun _ => True) (fun _ _ => trivial)
  have HE : Aside _ := hend
  have HOWN : Hid (OwR cE 34 w0 (.slice a l.length cap) l) := hown0
  clear hend h hown0
  go_enter Try.func29, Try.ntmps29
  go_wp2_with fail
  rw [← HW.out]
  go_loopw [9, 10] (fun s9 s10 wr => ∃ lo hi : Nat, s9 = .int .i64 lo ∧ s10 = .int .i64 hi ∧ lo ≤ hi ∧ hi ≤ l.length ∧ (∃ q os, wr = grow (w0.drewN q) os) ∧ Aside ((∀ t, t < lo → bef (k1, k2, k3) (nth cE l t).p = true) ∧ (∀ t, hi ≤ t → t < l.length → bef (k1, k2, k3) (nth cE l t).p = false))) (fun s9 s10 _ => (intOf s10).toNat - (intOf s9).toNat)
  case atStart => exact ⟨0, l.length, rfl, rfl, Nat.zero_le _, Nat.le_refl _, ⟨0, #[], by rw [grow_empty]; rfl⟩, (⟨fun t ht => absurd ht (Nat.not_lt_zero _), fun t h1 h2 => by omega⟩ : (∀ t, t < 0 → bef (k1, k2, k3) (nth cE l t).p = true) ∧ (∀ t, l.length ≤ t → t < l.length → bef (k1, k2, k3) (nth cE l t).p = false))⟩
  case round =>
    obtain ⟨lo, hi, rfl, rfl, hlh, hin, ⟨q, os, rfl⟩, I⟩ := hrel
    have hbq : Below w0.heap.size w0 (grow (w0.drewN q) os) := below_grow _ _ _
    have hown : OwR cE 34 (grow (w0.drewN q) os) (.slice a l.length cap) l := HOWN.out.below hbq
    have d0 := (hbq.cell (p := ⟨w.heap.size, 0, none⟩) (by rw [s0]; exact Nat.lt_succ_self _)).trans c0
    have d1 := (hbq.cell (p := ⟨w.heap.size, 1, none⟩) (by rw [s0]; exact Nat.lt_succ_self _)).trans c1
    have d2 := (hbq.cell (p := ⟨w.heap.size, 2, none⟩) (by rw [s0]; exact Nat.lt_succ_self _)).trans c2
    have hBw : w.heap.size < (grow (w0.drewN q) os).heap.size := by have := hbq.size; omega
    have hgg : ∀ q' os', grow ((grow (w0.drewN q) os).drewN q') os' = grow (w0.drewN (q + q')) (os ++ os') := fun q' os' => by
      show grow (grow ((w0.drewN q).drewN q') os) os' = _; rw [grow_grow, World.drewN_drewN]
    have HG : Aside _ := hgg
    clear hgg
    obtain ⟨wr, hwr⟩ : ∃ wr, grow (w0.drewN q) os = wr := ⟨_, rfl⟩
    rw [hwr] at hown d0 d1 d2 hBw ⊢
    have HR : Aside _ := hwr
    clear hwr hbq
    have Y0 := fun n os => cell_grown (n := n) (os := os) (a := ⟨w.heap.size, 0, none⟩) hBw d0
    have Y1 := fun n os => cell_grown (n := n) (os := os) (a := ⟨w.heap.size, 1, none⟩) hBw d1
    have Y2 := fun n os => cell_grown (n := n) (os := os) (a := ⟨w.heap.size, 2, none⟩) hBw d2
    clear d0 d1 d2
    by_cases hlt : lo < hi
    · obtain ⟨mid, hm⟩ : ∃ mid : Nat, mid = (lo + hi) / 2 := ⟨_, rfl⟩
      have hm1 : lo ≤ mid := by omega
      have hm2 : mid < hi := by omega
      have hm4 : ((lo : Int) + (hi : Int)) / 2 = (mid : Int) := by omega
      have hm5 : (mid : Int) < (l.length : Int) := by omega
      clear hm
      obtain ⟨x, hx⟩ : ∃ x, nth cE l (mid) = x := ⟨_, rfl⟩
      obtain ⟨g, hv, hg, x0, x1, x2, x3, x4, x5, x6, x7, x8, x9⟩ := hown.entry (i := mid) (by omega) hx
      subst hv
      have HX : Aside (nth cE l mid = x) := hx
      have hc := fun W => side_key x (k1, k2, k3) W
      obtain ⟨r, hr⟩ : ∃ r, kcmp x.p.m.1 (k1, k2, k3) = r := ⟨_, rfl⟩
      rw [hr] at hc
      have HK : Aside _ := bef_dec x.p (k1, k2, k3) r hr
      clear hx hr
      have X0 := fun n os => cell_grown (n := n) (os := os) (a := ⟨g, mid * 10, none⟩) hg x0
      have X1 := fun n os => cell_grown (n := n) (os := os) (a := ⟨g, mid * 10 + 1, none⟩) hg x1
      have X2 := fun n os => cell_grown (n := n) (os := os) (a := ⟨g, mid * 10 + 2, none⟩) hg x2
      have X3 := fun n os => cell_grown (n := n) (os := os) (a := ⟨g, mid * 10 + 3, none⟩) hg x3
      have X4 := fun n os => cell_grown (n := n) (os := os) (a := ⟨g, mid * 10 + 4, none⟩) hg x4
      have X5 := fun n os => cell_grown (n := n) (os := os) (a := ⟨g, mid * 10 + 5, none⟩) hg x5
      have X6 := fun n os => cell_grown (n := n) (os := os) (a := ⟨g, mid * 10 + 6, none⟩) hg x6
      have X7 := fun n os => cell_grown (n := n) (os := os) (a := ⟨g, mid * 10 + 7, none⟩) hg x7
      have X8 := fun n os => cell_grown (n := n) (os := os) (a := ⟨g, mid * 10 + 8, none⟩) hg x8
      have X9 := fun n os => cell_grown (n := n) (os := os) (a := ⟨g, mid * 10 + 9, none⟩) hg x9
      clear x0 x1 x2 x3 x4 x5 x6 x7 x8 x9 hown
      have hlt' : (lo : Int) < (hi : Int) := by omega
      obtain ⟨⟨⟨⟨y1, y2, y3⟩, y4, y5, y6⟩, y7, y8, y9, yos⟩, yoa, yoc⟩ := x
      by_cases hrl : r < 0
      · go_wp2_with fail
        go_quiet_grown (first | (go_at_fn 27; refine Calls.grown_of (hc _)))
        go_wp2
        go_roundw
        case rel =>
          refine ⟨mid + 1, hi, by go_num, rfl, by omega, hin, ?_, ?_⟩
          · exact ⟨_, _, by rw [← HR.out, HG.out]⟩
          · refine (⟨fun t ht => ?_, I.out.2⟩ : (∀ t, t < mid + 1 → bef (k1, k2, k3) (nth cE l t).p = true) ∧ (∀ t, hi ≤ t → t < l.length → bef (k1, k2, k3) (nth cE l t).p = false))
            exact P3.out t mid (by omega) (by omega) (by rw [HX.out, HK.out]; simpa using hrl)
        case measure => simp [intOf]; omega
      · go_wp2_with fail
        go_quiet_grown (first | (go_at_fn 27; refine Calls.grown_of (hc _)))
        go_wp2
        go_roundw
        case rel =>
          refine ⟨lo, mid, rfl, rfl, by omega, by omega, ?_, ?_⟩
          · exact ⟨_, _, by rw [← HR.out, HG.out]⟩
          · refine (⟨I.out.1, fun t ht htl => ?_⟩ : (∀ t, t < lo → bef (k1, k2, k3) (nth cE l t).p = true) ∧ (∀ t, mid ≤ t → t < l.length → bef (k1, k2, k3) (nth cE l t).p = false))
            cases hkt : bef (k1, k2, k3) (nth cE l t).p
            · rfl
            · have := P3.out mid t ht htl hkt
              rw [HX.out, HK.out] at this
              simp at this
              omega
        case measure => simp [intOf]; omega
    · obtain rfl : hi = lo := by omega
      have hp : p = hi := P1.out hi hin I.out.1 I.out.2
      subst hp
      have hnl : ¬ ((p : Int) < (p : Int)) := by omega
      by_cases hn : p < l.length
      · obtain ⟨x, hx⟩ : ∃ x, nth cE l (p) = x := ⟨_, rfl⟩
        obtain ⟨g, hv, hg, x0, x1, x2, x3, x4, x5, x6, x7, x8, x9⟩ := hown.entry (i := p) (by omega) hx
        subst hv
        have HX : Aside (nth cE l p = x) := hx
        have hc := fun W => side_key x (k1, k2, k3) W
        obtain ⟨r, hr⟩ : ∃ r, kcmp x.p.m.1 (k1, k2, k3) = r := ⟨_, rfl⟩
        rw [hr] at hc
        have HK : Aside _ := bef_dec x.p (k1, k2, k3) r hr
        clear hx hr
        have X0 := fun n os => cell_grown (n := n) (os := os) (a := ⟨g, p * 10, none⟩) hg x0
        have X1 := fun n os => cell_grown (n := n) (os := os) (a := ⟨g, p * 10 + 1, none⟩) hg x1
        have X2 := fun n os => cell_grown (n := n) (os := os) (a := ⟨g, p * 10 + 2, none⟩) hg x2
        have X3 := fun n os => cell_grown (n := n) (os := os) (a := ⟨g, p * 10 + 3, none⟩) hg x3
        have X4 := fun n os => cell_grown (n := n) (os := os) (a := ⟨g, p * 10 + 4, none⟩) hg x4
        have X5 := fun n os => cell_grown (n := n) (os := os) (a := ⟨g, p * 10 + 5, none⟩) hg x5
        have X6 := fun n os => cell_grown (n := n) (os := os) (a := ⟨g, p * 10 + 6, none⟩) hg x6
        have X7 := fun n os => cell_grown (n := n) (os := os) (a := ⟨g, p * 10 + 7, none⟩) hg x7
        have X8 := fun n os => cell_grown (n := n) (os := os) (a := ⟨g, p * 10 + 8, none⟩) hg x8
        have X9 := fun n os => cell_grown (n := n) (os := os) (a := ⟨g, p * 10 + 9, none⟩) hg x9
        clear x0 x1 x2 x3 x4 x5 x6 x7 x8 x9 hown
        have hn' : (p : Int) < (l.length : Int) := by omega
        have hdn : decide ((p : Int) < (l.length : Int)) = true := by simpa using hn
        obtain ⟨⟨⟨⟨y1, y2, y3⟩, y4, y5, y6⟩, y7, y8, y9, yos⟩, yoa, yoc⟩ := x
        go_wp2_with fail
        go_quiet_grown (first | (go_at_fn 27; refine Calls.grown_of (hc _)))
        go_wp2
        refine bodyPost_ret (v := .tuple #[.int .i64 p, .bool (r == 0)]) (by simp [results, Try.results29, go_sem]) rfl ⟨_, rfl, ?_⟩
        rw [← HR.out, HG.out]
        exact HE.out _ _
      · have hdn : decide ((p : Int) < (l.length : Int)) = false := by simp; omega
        have hn' : ¬ ((p : Int) < (l.length : Int)) := by omega
        obtain rfl : p = l.length := by omega
        clear hown P1 P3 I Y0 Y1 Y2 hdn hn' hnl hn hin hlh
        go_wp2_with fail
        go_quiet (fail)
        go_wp2
        refine bodyPost_ret (v := .tuple #[.int .i64 l.length, .bool false]) (by simp [results, Try.results29, go_sem]) rfl ⟨false, rfl, ?_⟩
        rw [← HR.out, ← grow_empty (World.drewN _ _), HG.out]
        exact HE.out _ _
end Go.Proofs.Ytgifanioeeacdaa
