/- Proved: the contract of slices.BinarySearchFunc at messages and a key. -/
import Derived.Test.YtjkcdkoomipfkaaFind
import Derived.Deep.LoopGhost
namespace Go.Proofs.Ytjkcdkoomipfkaa
open Go.RowKit Go.Sort
set_option linter.unusedVariables false

theorem klt_dec (a b : K) (r : Int) (h : kcmp a b = r) : klt a b = decide (r < 0) := by rw [← h]; rfl
theorem keq_dec (a b : K) (r : Int) (h : kcmp a b = r) : (a = b ↔ r = 0) := by
  constructor
  · rintro rfl
    rw [← h, kcmp_self]
  · intro hr
    refine keq_of ?_ ?_
    · rw [klt_dec a b r h]; simp; omega
    · have := kcmp_pos a b
      cases hk : klt b a
      · rfl
      · rw [hk] at this
        have := this.2 rfl
        omega

set_option maxRecDepth 100000 in
set_option maxHeartbeats 2000000 in
theorem bsf_any {w : World} {v : Value} {l : List M} (h : Own w v l) (hs : Srt l) (hlen : l.length ≤ 1000) (k : K) :
    Calls Try.prog 56 #[v, kv k, .func (.func 57) #[] #[]] w fun e w' => e = .returned (.tuple #[.int .i64 (pos l k), .bool (hasK l k)]) ∧ ∃ q os, w' = grow (w.drewN q) os := by
  have mixed : Try.prog.follows .mixedOrders = true := by kernel_rfl
  have P1 := fun i => @pos_unique l k i
  have P2 := pos_has hs k
  have P3 := fun a b => @srt_mono l hs k a b
  obtain ⟨p, hp⟩ : ∃ p, pos l k = p := ⟨_, rfl⟩
  obtain ⟨z, hz⟩ : ∃ z, hasK l k = z := ⟨_, rfl⟩
  rw [hp, hz] at P2 ⊢
  rw [hp] at P1
  have P1' : Aside _ := P1
  have P2' : Aside _ := P2
  have P3' : Aside _ := P3
  clear P1 P2 P3 hp hz hs
  have HC := fun x W => fkey_any x k W
  have eg : ∀ args w, (callFunc 57 args).run Try.prog w = .ok (.enter 57 args) w := enters_of Try.func57 (by kernel_rfl) rfl
  obtain ⟨k1, k2, k3⟩ := k
  obtain ⟨w0, hw0⟩ : ∃ w0, w0 = w.alloc (.cells #[.int .i64 k1, .int .i64 k2, .int .i64 k3] 30) := ⟨_, rfl⟩
  have s0 : w0.heap.size = w.heap.size + 1 := by rw [hw0]; simp
  have b0 : Below w.heap.size w w0 := by rw [hw0]; exact (Below.refl _ _).alloc (Nat.le_refl _) _
  have c0 : w0.cell? ⟨w.heap.size, 0, none⟩ = some (.int .i64 k1) := by rw [hw0]; simp only [World.cell?, heap_alloc_new]; rfl
  have c1 : w0.cell? ⟨w.heap.size, 1, none⟩ = some (.int .i64 k2) := by rw [hw0]; simp only [World.cell?, heap_alloc_new]; rfl
  have c2 : w0.cell? ⟨w.heap.size, 2, none⟩ = some (.int .i64 k3) := by rw [hw0]; simp only [World.cell?, heap_alloc_new]; rfl
  have hown0 : Own w0 v l := h.keep (S := fun _ => False) (Fr.of_below b0) (fun _ _ g => g)
  have hend : ∀ q os, grow (w0.drewN q) os = grow (w.drewN q) (#[.cells #[.int .i64 k1, .int .i64 k2, .int .i64 k3] 30] ++ os) := fun q os => by
    rw [hw0, alloc_eq_grow, ← grow_grow]; rfl
  obtain ⟨a, cap, rfl, _⟩ := h.rd
  have HW : Hid _ := hw0
  have HE : Aside _ := hend
  clear hw0 hend h
  go_enter Try.func56, Try.ntmps56
  go_wp2_with fail
  rw [← HW.out]
  go_loopw [9, 10] (fun s9 s10 wr => ∃ lo hi : Nat, s9 = .int .i64 lo ∧ s10 = .int .i64 hi ∧ lo ≤ hi ∧ hi ≤ l.length ∧ (∃ q os, wr = grow (w0.drewN q) os) ∧ Aside ((∀ t, t < lo → klt (nth l t).1 (k1, k2, k3) = true) ∧ (∀ t, hi ≤ t → t < l.length → klt (nth l t).1 (k1, k2, k3) = false))) (fun s9 s10 _ => (intOf s10).toNat - (intOf s9).toNat)
  case atStart => exact ⟨0, l.length, rfl, rfl, Nat.zero_le _, Nat.le_refl _, ⟨0, #[], by rw [grow_empty]; rfl⟩, (⟨fun t ht => absurd ht (Nat.not_lt_zero _), fun t h1 h2 => by omega⟩ : (∀ t, t < 0 → klt (nth l t).1 (k1, k2, k3) = true) ∧ (∀ t, l.length ≤ t → t < l.length → klt (nth l t).1 (k1, k2, k3) = false))⟩
  case round =>
    obtain ⟨lo, hi, rfl, rfl, hlh, hin, ⟨q, os, rfl⟩, I⟩ := hrel
    have hbq : Below w0.heap.size w0 (grow (w0.drewN q) os) := below_grow _ _ _
    have hown := hown0.keep (S := fun _ => False) (Fr.of_below hbq) (fun _ _ g => g)
    have d0 := (hbq.cell (p := ⟨w.heap.size, 0, none⟩) (by rw [s0]; exact Nat.lt_succ_self _)).trans c0
    have d1 := (hbq.cell (p := ⟨w.heap.size, 1, none⟩) (by rw [s0]; exact Nat.lt_succ_self _)).trans c1
    have d2 := (hbq.cell (p := ⟨w.heap.size, 2, none⟩) (by rw [s0]; exact Nat.lt_succ_self _)).trans c2
    have hBw : w.heap.size < (grow (w0.drewN q) os).heap.size := by have := hbq.size; omega
    have hgg : ∀ q' os', grow ((grow (w0.drewN q) os).drewN q') os' = grow (w0.drewN (q + q')) (os ++ os') := fun q' os' => by
      show grow (grow ((w0.drewN q).drewN q') os) os' = _; rw [grow_grow, World.drewN_drewN]
    have HG : Aside _ := hgg
    clear hgg
    obtain ⟨wr, hwr⟩ : ∃ wr, grow (w0.drewN q) os = wr := ⟨_, rfl⟩
    rw [hwr] at hown d0 d1 d2 hBw ⊢
    have HR : Aside _ := hwr
    clear hwr hbq
    have Y0 := fun n os => cell_grown (n := n) (os := os) (a := ⟨w.heap.size, 0, none⟩) hBw d0
    have Y1 := fun n os => cell_grown (n := n) (os := os) (a := ⟨w.heap.size, 1, none⟩) hBw d1
    have Y2 := fun n os => cell_grown (n := n) (os := os) (a := ⟨w.heap.size, 2, none⟩) hBw d2
    clear d0 d1 d2
    by_cases hlt : lo < hi
    · obtain ⟨g, cap', hv, hg⟩ := own_nonempty hown (i := (lo + hi) / 2) (by omega)
      obtain ⟨rfl, rfl⟩ : a = some ⟨g, 0, none⟩ ∧ cap = cap' := by simpa using hv
      clear hv
      obtain ⟨x, hx⟩ : ∃ x, nth l ((lo + hi) / 2) = x := ⟨_, rfl⟩
      obtain ⟨x0, x1, x2, x3, x4, x5⟩ := own_cell hown (x := x) (i := (lo + hi) / 2) (by omega) (by rw [← nth_get]; exact hx)
      have HX : Aside _ := hx
      have hc := fun W => HC x W
      obtain ⟨r, hr⟩ : ∃ r, kcmp x.1 (k1, k2, k3) = r := ⟨_, rfl⟩
      rw [hr] at hc
      have hk := klt_dec _ _ r hr
      have HK : Aside _ := hk
      clear hx hr hk
      obtain ⟨mid, hm⟩ : ∃ mid : Nat, mid = (lo + hi) / 2 := ⟨_, rfl⟩
      have hm1 : lo ≤ mid := by omega
      have hm2 : mid < hi := by omega
      have hm4 : ((lo : Int) + (hi : Int)) / 2 = (mid : Int) := by omega
      have hm5 : (mid : Int) < (l.length : Int) := by omega
      rw [← hm] at x0 x1 x2 x3 x4 x5 HX
      clear hm
      have X0 := fun n os => cell_grown (n := n) (os := os) (a := ⟨g, mid * 6, none⟩) hg x0
      have X1 := fun n os => cell_grown (n := n) (os := os) (a := ⟨g, mid * 6 + 1, none⟩) hg x1
      have X2 := fun n os => cell_grown (n := n) (os := os) (a := ⟨g, mid * 6 + 2, none⟩) hg x2
      have X3 := fun n os => cell_grown (n := n) (os := os) (a := ⟨g, mid * 6 + 3, none⟩) hg x3
      have X4 := fun n os => cell_grown (n := n) (os := os) (a := ⟨g, mid * 6 + 4, none⟩) hg x4
      have X5 := fun n os => cell_grown (n := n) (os := os) (a := ⟨g, mid * 6 + 5, none⟩) hg x5
      clear x0 x1 x2 x3 x4 x5
      have hlt' : (lo : Int) < (hi : Int) := by omega
      by_cases hrl : r < 0
      · go_wp2_with fail
        go_quiet_grown (first | (go_at_fn 57; refine Calls.grown_of (hc _)))
        go_wp2
        go_roundw
        case rel =>
          refine ⟨mid + 1, hi, by go_num, rfl, by omega, hin, ?_, ?_⟩
          · exact ⟨_, _, by rw [← HR.out, HG.out]⟩
          · refine (⟨fun t ht => ?_, I.out.2⟩ : (∀ t, t < mid + 1 → klt (nth l t).1 (k1, k2, k3) = true) ∧ (∀ t, hi ≤ t → t < l.length → klt (nth l t).1 (k1, k2, k3) = false))
            exact P3'.out t mid (by omega) (by omega) (by rw [HX.out, HK.out]; simpa using hrl)
        case measure => simp [intOf]; omega
      · go_wp2_with fail
        go_quiet_grown (first | (go_at_fn 57; refine Calls.grown_of (hc _)))
        go_wp2
        go_roundw
        case rel =>
          refine ⟨lo, mid, rfl, rfl, by omega, by omega, ?_, ?_⟩
          · exact ⟨_, _, by rw [← HR.out, HG.out]⟩
          · refine (⟨I.out.1, fun t ht htl => ?_⟩ : (∀ t, t < lo → klt (nth l t).1 (k1, k2, k3) = true) ∧ (∀ t, mid ≤ t → t < l.length → klt (nth l t).1 (k1, k2, k3) = false))
            cases hkt : klt (nth l t).1 (k1, k2, k3)
            · rfl
            · have := P3'.out mid t ht htl hkt
              rw [HX.out, HK.out] at this
              simp at this
              omega
        case measure => simp [intOf]; omega
    · obtain rfl : hi = lo := by omega
      have hp : p = hi := P1'.out hi hin I.out.1 I.out.2
      subst hp
      have hnl : ¬ ((p : Int) < (p : Int)) := by omega
      by_cases hn : p < l.length
      · obtain ⟨g, cap', hv, hg⟩ := own_nonempty hown (i := p) hn
        obtain ⟨rfl, rfl⟩ : a = some ⟨g, 0, none⟩ ∧ cap = cap' := by simpa using hv
        clear hv
        obtain ⟨x, hx⟩ : ∃ x, nth l p = x := ⟨_, rfl⟩
        obtain ⟨x0, x1, x2, x3, x4, x5⟩ := own_cell hown (x := x) (i := p) hn (by rw [← nth_get]; exact hx)
        have HX : Aside _ := hx
        have hc := fun W => HC x W
        obtain ⟨r, hr⟩ : ∃ r, kcmp x.1 (k1, k2, k3) = r := ⟨_, rfl⟩
        rw [hr] at hc
        have hk := keq_dec _ _ r hr
        have HK : Aside _ := hk
        clear hx hr hk
        have X0 := fun n os => cell_grown (n := n) (os := os) (a := ⟨g, p * 6, none⟩) hg x0
        have X1 := fun n os => cell_grown (n := n) (os := os) (a := ⟨g, p * 6 + 1, none⟩) hg x1
        have X2 := fun n os => cell_grown (n := n) (os := os) (a := ⟨g, p * 6 + 2, none⟩) hg x2
        have X3 := fun n os => cell_grown (n := n) (os := os) (a := ⟨g, p * 6 + 3, none⟩) hg x3
        have X4 := fun n os => cell_grown (n := n) (os := os) (a := ⟨g, p * 6 + 4, none⟩) hg x4
        have X5 := fun n os => cell_grown (n := n) (os := os) (a := ⟨g, p * 6 + 5, none⟩) hg x5
        clear x0 x1 x2 x3 x4 x5
        have hn' : (p : Int) < (l.length : Int) := by omega
        have hdn : decide ((p : Int) < (l.length : Int)) = true := by simpa using hn
        have hz : z = decide (r = 0) := by
          have h1 := P2'.out
          rw [HX.out, HK.out] at h1
          rw [Bool.eq_iff_iff, ← h1]
          simp [hn]
        have HZ : Hid _ := hz
        clear hz
        go_wp2_with fail
        go_quiet_grown (first | (go_at_fn 57; refine Calls.grown_of (hc _)))
        go_wp2
        refine bodyPost_ret (v := .tuple #[.int .i64 p, .bool (r == 0)]) (by simp [results, Try.results56, go_sem]) rfl ⟨?_, ?_⟩
        · rw [HZ.out]; rfl
        · exact ⟨_, _, by rw [← HR.out, HG.out, HE.out]⟩
      · have hdn : decide ((p : Int) < (l.length : Int)) = false := by simp; omega
        have hn' : ¬ ((p : Int) < (l.length : Int)) := by omega
        have hz : z = false := by
          have h1 := P2'.out
          cases z
          · rfl
          · exact absurd (h1.2 rfl).1 hn
        subst hz
        obtain rfl : p = l.length := by omega
        clear hown0 hown P1' P2' P3' I Y0 Y1 Y2 hdn hn' hnl hn hin hlh
        go_wp2_with fail
        go_quiet (fail)
        go_wp2
        refine bodyPost_ret (v := .tuple #[.int .i64 l.length, .bool false]) (by simp [results, Try.results56, go_sem]) rfl ⟨rfl, ?_⟩
        exact ⟨_, _, by rw [← HR.out, ← grow_empty (World.drewN _ _), HG.out, HE.out]⟩
end Go.Proofs.Ytjkcdkoomipfkaa
