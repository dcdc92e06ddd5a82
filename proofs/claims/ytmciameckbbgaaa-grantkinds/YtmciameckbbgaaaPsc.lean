/- Proved: contracts of sort.Search with the program's closure, and of the program's upTo; where what waits does not fall. -/
import Derived.Test.YtmciameckbbgaaaGdc
namespace Go.Proofs.Ytmciameckbbgaaa
open Go.RowKit Go.Shelf
open D (Gr dec many Up)
set_option linter.unusedVariables false

abbrev pz (b : Nat) : Value := .pointer (some ⟨b, 0, none⟩)
theorem drB (w : World) (k : Nat) : Below w.heap.size w (w.drewN k) := ⟨rfl, rfl, rfl, Nat.le_refl _, fun _ _ => rfl⟩
theorem drT (w : World) (j k : Nat) : (w.drewN j).drewN k = w.drewN (j + k) := World.drewN_drewN w j k
theorem drC {w : World} {p : Addr} {v : Value} (h : w.cell? p = some v) (k : Nat) : (w.drewN k).cell? p = some v := h
set_option maxHeartbeats 1000000 in
theorem clo_any {N : Nat → Prop} {W : World} {pb pt : Nat} {a : Option Addr} {c n : Nat} {q : List Int} (hq : RdN cI N W a q) (hn : q.length = n) {i : Nat} (hi : i < n) {t : Int} (c1 : W.cell? ⟨pb, 0, none⟩ = some (.slice a n c)) (c2 : W.cell? ⟨pt, 0, none⟩ = some (.int .i64 t)) :
    Calls Try.prog 18 #[.int .i64 i, pz pb, pz pt] W fun e w' => e = .returned (.bool (decide (t < q.getD i 0))) ∧ ∃ k, w' = W.drewN k := by
  obtain ⟨y, hy⟩ : ∃ y, q.getD i 0 = y := ⟨_, rfl⟩
  obtain ⟨b, off, rfl, hb, cx⟩ := RdN.int hq (by rw [hn]; exact hi) hy
  rw [hy]
  clear hy hq hn
  have hi' : (i : Int) < (n : Int) := by omega
  go_enter Try.func18, Try.ntmps18
  go_wp2
  go_region
  all_goals go_wp2
  all_goals go_ret
  all_goals exact ⟨by first | rfl | simp, 1, rfl⟩
set_option maxRecDepth 100000 in
set_option maxHeartbeats 2000000 in
theorem search_any {N : Nat → Prop} {w : World} {pb pt : Nat} {a : Option Addr} {c n : Nat} {q : List Int} (hq : RdN cI N w a q) (hu : Up q) (hn : q.length = n) (hm : n ≤ 100000) {t : Int} (c1 : w.cell? ⟨pb, 0, none⟩ = some (.slice a n c)) (c2 : w.cell? ⟨pt, 0, none⟩ = some (.int .i64 t)) :
    Calls Try.prog 17 #[.int .i64 n, .func (.func 18) #[] #[pz pb, pz pt]] w fun e w' => e = .returned (.int .i64 (many q t)) ∧ ∃ k, w' = w.drewN k := by
  have eg : ∀ args w, (callFunc 18 args).run Try.prog w = .ok (.enter 18 args) w := enters_of Try.func18 (by kernel_rfl) rfl
  have HF : Aside (∀ k i, i < n → Calls Try.prog 18 #[.int .i64 i, pz pb, pz pt] (w.drewN k) fun e w' => e = .returned (.bool (decide (t < q.getD i 0))) ∧ ∃ j, w' = (w.drewN k).drewN j) := fun k i hi => clo_any (hq.below (drB w k)) hn hi (drC c1 k) (drC c2 k)
  have HU : Aside (∀ i j, i ≤ j → j < n → q.getD i 0 ≤ q.getD j 0) := fun i j h1 h2 => by
    by_cases e : i = j
    · rw [e]; exact Int.le_refl _
    · exact hu i j (by omega) (by omega)
  have HE : Aside (∀ k, k ≤ n → (∀ j, j < k → q.getD j 0 ≤ t) → (∀ j, k ≤ j → j < n → t < q.getD j 0) → many q t = k) := fun k hk h1 h2 => many_eq (by omega) h1 (fun h => h2 k (Nat.le_refl _) (by omega))
  clear hq hu hn c1 c2
  go_enter Try.func17, Try.ntmps17
  go_wp2
  go_loopw [5, 6] (fun s5 s6 wr => ∃ lo hi k : Nat, s5 = .int .i64 lo ∧ s6 = .int .i64 hi ∧ lo ≤ hi ∧ hi ≤ n ∧ wr = w.drewN k ∧ Aside ((∀ j, j < lo → q.getD j 0 ≤ t) ∧ (∀ j, hi ≤ j → j < n → t < q.getD j 0))) (fun s5 s6 _ => (intOf s6).toNat - (intOf s5).toNat)
  case atStart => exact ⟨0, n, 0, rfl, rfl, Nat.zero_le _, Nat.le_refl _, rfl, (⟨fun t ht => absurd ht (Nat.not_lt_zero _), fun t h1 h2 => by omega⟩ : (∀ j, j < 0 → q.getD j 0 ≤ t) ∧ (∀ j, n ≤ j → j < n → t < q.getD j 0))⟩
  case round =>
    obtain ⟨lo, hi, k, rfl, rfl, hlh, hin, rfl, I⟩ := hrel
    by_cases hlt : lo < hi
    · have hc := HF.out k ((lo + hi) / 2) (by omega)
      rw [show (((lo + hi) / 2 : Nat) : Int) = ((lo : Int) + (hi : Int)) / 2 by omega] at hc
      have hlt' : (lo : Int) < (hi : Int) := by omega
      by_cases hp : t < q.getD ((lo + hi) / 2) 0
      · rw [show decide (t < q.getD ((lo + hi) / 2) 0) = true by simpa using hp] at hc
        have I2 : Aside ((∀ j, j < lo → q.getD j 0 ≤ t) ∧ (∀ j, (lo + hi) / 2 ≤ j → j < n → t < q.getD j 0)) := ⟨I.out.1, fun j h1 h2 => by
          have := HU.out _ _ h1 h2
          omega⟩
        clear hp
        go_wp2_with (go_at_fn 18; refine hc.mono ?_; rintro e w' ⟨rfl, j, rfl⟩)
        go_roundw
        case rel => exact ⟨lo, (lo + hi) / 2, k + j, rfl, by rw [show ((lo : Int) + (hi : Int)) / 2 = (((lo + hi) / 2 : Nat) : Int) by omega], by omega, by omega, by first | rfl | exact drT _ _ _ | exact (drT _ _ _).symm, I2⟩
        case measure => simp [intOf]; omega
      · rw [show decide (t < q.getD ((lo + hi) / 2) 0) = false by simpa using hp] at hc
        have I2 : Aside ((∀ j, j < (lo + hi) / 2 + 1 → q.getD j 0 ≤ t) ∧ (∀ j, hi ≤ j → j < n → t < q.getD j 0)) := ⟨fun j h1 => by
          have := HU.out j ((lo + hi) / 2) (by omega) (by omega)
          omega, I.out.2⟩
        clear hp
        go_wp2_with (go_at_fn 18; refine hc.mono ?_; rintro e w' ⟨rfl, j, rfl⟩)
        go_roundw
        case rel => exact ⟨(lo + hi) / 2 + 1, hi, k + j, by rw [show ((lo : Int) + (hi : Int)) / 2 + 1 = (((lo + hi) / 2 + 1 : Nat) : Int) by omega], rfl, by omega, hin, by first | rfl | exact drT _ _ _ | exact (drT _ _ _).symm, I2⟩
        case measure => simp [intOf]; omega
    · obtain rfl : hi = lo := by omega
      have e : Aside (many q t = hi) := HE.out hi hin I.out.1 I.out.2
      have hlt' : ¬ (hi : Int) < (hi : Int) := by omega
      go_wp2
      go_ret
      exact ⟨by rw [e.out]; rfl, k, rfl⟩
set_option maxHeartbeats 1000000 in
theorem upto_any {N : Nat → Prop} {w : World} {a : Option Addr} {c n : Nat} {q : List Int} (hq : RdN cI N w a q) (hu : Up q) (hn : q.length = n) (hm : n ≤ 100000) (t : Int) :
    Calls Try.prog 16 #[.int .i64 t, .slice a n c] w fun e w' => e = .returned (.int .i64 (many q t)) ∧ Below w.heap.size w w' := by
  have hb0 : Below w.heap.size w ((w.alloc (.cells #[.int .i64 t] 3)).alloc (.cells #[.slice a n c] 22)) := ((Below.refl _ w).alloc (Nat.le_refl _) _).alloc (by simp) _
  have S := search_any (pb := w.heap.size + 1) (pt := w.heap.size) (c := c) (hq.below hb0) hu hn hm (t := t)
    (by rw [show w.heap.size + 1 = (w.alloc (.cells #[.int .i64 t] 3)).heap.size by simp, World.cell?_alloc_new]; rfl)
    (by rw [World.cell?_alloc_lt _ _ _ (by simp), World.cell?_alloc_new]; rfl)
  have cl : ((w.alloc (.cells #[.int .i64 t] 3)).alloc (.cells #[.slice a n c] 22)).cell? ⟨w.heap.size + 1, 0, none⟩ = some (.slice a n c) := by rw [show w.heap.size + 1 = (w.alloc (.cells #[.int .i64 t] 3)).heap.size by simp, World.cell?_alloc_new]; rfl
  have HB : Hid _ := hb0
  obtain ⟨r, hr⟩ : ∃ r, many q t = r := ⟨_, rfl⟩
  rw [hr] at S ⊢
  clear hq hu hn hb0 hr
  go_enter Try.func16, Try.ntmps16
  go_wp2_with (go_at_call 17; refine S.mono ?_; rintro e w' ⟨rfl, k, rfl⟩)
  go_ret
  exact ⟨rfl, HB.out.trans ((drB _ k).mono HB.out.size)⟩
end Go.Proofs.Ytmciameckbbgaaa
