/- Proved: contracts of a calendar's firstPage and of the closure in it. -/
import Derived.Test.YtjkcdkoomipfkaaCal1
import Derived.Test.YtjkcdkoomipfkaaRef1
namespace Go.Proofs.Ytjkcdkoomipfkaa
open Go.RowKit Go.Sort Go.Lib
set_option linter.unusedVariables false

set_option maxRecDepth 100000 in
set_option maxHeartbeats 1000000 in
theorem ahead_none {W : World} {fB qB i : Nat} (hf : W.cell? ⟨fB, 0, none⟩ = some (.int .i64 (-1))) :
    Calls Try.prog 61 #[.int .i64 i, .pointer (some ⟨fB, 0, none⟩), .pointer (some ⟨qB, 0, none⟩)] W fun e w' => e = .returned (.bool true) ∧ Below W.heap.size W w' := by
  have mixed : Try.prog.follows .mixedOrders = true := by kernel_rfl
  go_enter Try.func61, Try.ntmps61
  go_wp2_with fail
  go_quiet (fail)
  go_wp2
  go_ret
  exact ⟨rfl, below_drewN (Below.refl _ _) _⟩

set_option maxRecDepth 100000 in
set_option maxHeartbeats 2000000 in
theorem ahead_some {W : World} {qb room day : Nat} {vs : Nat → Value} {s : List M} (h : IsC W qb room day vs s) {fB qB i j : Nat} (hi : i < 8) (hj : j < 8) (hei : pg day i s ≠ []) (hej : pg day j s ≠ [])
    (hf : W.cell? ⟨fB, 0, none⟩ = some (.int .i64 j)) (hq : W.cell? ⟨qB, 0, none⟩ = some (.pointer (some ⟨qb, 0, none⟩))) :
    Calls Try.prog 61 #[.int .i64 i, .pointer (some ⟨fB, 0, none⟩), .pointer (some ⟨qB, 0, none⟩)] W fun e w' => e = .returned (.bool (klt (nth (pg day i s) 0).1 (nth (pg day j s) 0).1)) ∧ Below W.heap.size W w' := by
  have mixed : Try.prog.follows .mixedOrders = true := by kernel_rfl
  have li := List.length_pos_iff.2 hei
  have lj := List.length_pos_iff.2 hej
  have mi := pg_len_le day i s
  have mj := pg_len_le day j s
  have hlen := h.len
  have hrm := h.rm
  have hql : qb < W.heap.size := h.lt qb (.inl rfl)
  have hfl := cell_lt hf
  have hBl := cell_lt hq
  have ci := h.cp i hi
  have cj := h.cp j hj
  have oi := h.own i hi
  have oj := h.own j hj
  obtain ⟨gi, capi, hvi, hgi⟩ := own_nonempty oi (i := 0) li
  obtain ⟨gj, capj, hvj, hgj⟩ := own_nonempty oj (i := 0) lj
  rw [hvi] at ci oi
  rw [hvj] at cj oj
  obtain ⟨x, hx⟩ : ∃ x, nth (pg day i s) 0 = x := ⟨_, rfl⟩
  obtain ⟨y, hy⟩ : ∃ y, nth (pg day j s) 0 = y := ⟨_, rfl⟩
  obtain ⟨x0, x1, x2, _, _, _⟩ := own_cell oi li (x := x) (by rw [← nth_get]; exact hx)
  obtain ⟨y0, y1, y2, _, _, _⟩ := own_cell oj lj (x := y) (by rw [← nth_get]; exact hy)
  simp only [Nat.zero_mul, Nat.zero_add] at x0 x1 x2 y0 y1 y2
  rw [hx, hy]
  have HC := fun V => cmp_any x.1 y.1 V
  have hk : klt x.1 y.1 = decide (kcmp x.1 y.1 < 0) := rfl
  rw [hk]
  generalize kcmp x.1 y.1 = r at HC ⊢
  have F0 := fun n os => cell_grown (n := n) (os := os) (a := ⟨fB, 0, none⟩) hfl hf
  have Q0 := fun n os => cell_grown (n := n) (os := os) (a := ⟨qB, 0, none⟩) hBl hq
  have CI := fun n os => cell_grown (n := n) (os := os) (a := ⟨qb, 2 + i, none⟩) hql ci
  have CJ := fun n os => cell_grown (n := n) (os := os) (a := ⟨qb, 2 + j, none⟩) hql cj
  have X0 := fun n os => cell_grown (n := n) (os := os) (a := ⟨gi, 0, none⟩) hgi x0
  have X1 := fun n os => cell_grown (n := n) (os := os) (a := ⟨gi, 1, none⟩) hgi x1
  have X2 := fun n os => cell_grown (n := n) (os := os) (a := ⟨gi, 2, none⟩) hgi x2
  have Y0 := fun n os => cell_grown (n := n) (os := os) (a := ⟨gj, 0, none⟩) hgj y0
  have Y1 := fun n os => cell_grown (n := n) (os := os) (a := ⟨gj, 1, none⟩) hgj y1
  have Y2 := fun n os => cell_grown (n := n) (os := os) (a := ⟨gj, 2, none⟩) hgj y2
  have hi' : (i : Int) < 8 := by omega
  have hj' : (j : Int) < 8 := by omega
  have g1 : ((j : Int) == -1) = false := by simp
  have g2 : ¬ ((j : Int) = -1) := by omega
  have li' : (0 : Int) < ((pg day i s).length : Int) := by omega
  have lj' : (0 : Int) < ((pg day j s).length : Int) := by omega
  generalize (pg day i s).length = ni at *
  generalize (pg day j s).length = nj at *
  clear h oi oj hx hy hvi hvj x0 x1 x2 y0 y1 y2 ci cj hf hq hk hei hej
  go_enter Try.func61, Try.ntmps61
  go_wp2_with fail
  go_quiet_grown (first | (go_at_call 48; refine Calls.grown_of (HC _)))
  go_wp2
  go_ret
  exact ⟨rfl, below_grow _ _ _⟩

set_option maxRecDepth 100000 in
set_option maxHeartbeats 2000000 in
theorem firstPage_any {w : World} {qb room day : Nat} {vs : Nat → Value} {s : List M} (h : IsC w qb room day vs s) :
    Calls Try.prog 39 #[.pointer (some ⟨qb, 0, none⟩)] w fun e w' => ∃ f, e = .returned (.int .i64 f) ∧ Best day s 8 f ∧ Below w.heap.size w w' := by
  have eg : ∀ args w, (callFunc 61 args).run Try.prog w = .ok (.enter 61 args) w := enters_of Try.func61 (by kernel_rfl) rfl
  have hql : qb < w.heap.size := h.lt qb (.inl rfl)
  obtain ⟨p0, p1, p2, p3, p4, p5, p6, p7⟩ := h.pages
  have HH : Aside _ := h
  have hlen := h.len
  have hrm := h.rm
  have hnd := h.srt.nodup
  have HN : Aside _ := hnd
  clear h hnd
  go_enter Try.func39, Try.ntmps39
  go_wp2_with fail
  go_loopw [12] (fun s12 wr => ∃ (k : Nat) (f : Int), k ≤ 8 ∧ s12 = .int .i64 k ∧ Aside (Best day s k f) ∧ wr.cell? ⟨w.heap.size + 1, 0, none⟩ = some (.int .i64 f) ∧ wr.frozen? ⟨w.heap.size + 1, 0, none⟩ = false ∧ wr.cell? ⟨w.heap.size, 0, none⟩ = some (.pointer (some ⟨qb, 0, none⟩)) ∧ Below w.heap.size w wr) (fun s12 _ => 8 - (intOf s12).toNat)
  case atStart =>
    refine ⟨0, -1, Nat.zero_le _, rfl, best_start day s, ?_, ?_, ?_, ?_⟩
    · go_simp
    · go_simp
    · go_simp
    · exact ((Below.refl _ w).alloc (Nat.le_refl _) _).alloc (by simp) _
  case round =>
    obtain ⟨k, f, hk, rfl, HB, hf, hfz, hq, hb⟩ := hrel
    by_cases hk8 : k < 8
    · have hk8' : (k : Int) < 8 := by omega
      have hC := HH.out.below hb
      obtain ⟨a, cap, hv, hjunk⟩ := (HH.out.own k hk8).rd
      clear hjunk
      have hx := fun W => (index56 vs k hk8 W).trans (by rw [hv])
      have mi := pg_len_le day k s
      by_cases he : pg day k s = []
      · have hB := best_skip HB.out he
        have HB2 : Aside _ := hB
        rw [he, List.length_nil] at hx
        clear hB hv hC HH
        go_wp2
        go_roundw
        case rel => exact ⟨k + 1, f, by omega, by go_num, HB2, hf, hfz, hq, hb⟩
        case measure => simp [intOf]; omega
      · have hl := List.length_pos_iff.2 he
        have hl' : (0 : Int) < ((pg day k s).length : Int) := by omega
        have hd : decide ((0 : Int) < ((pg day k s).length : Int)) = true := by simpa using hl
        have A : ∃ (b : Bool), Aside (Best day s (k + 1) (if b = true then (k : Int) else f)) ∧ Calls Try.prog 61 #[.int .i64 k, .pointer (some ⟨w.heap.size + 1, 0, none⟩), .pointer (some ⟨w.heap.size, 0, none⟩)] wr fun e w' => e = .returned (.bool b) ∧ Below wr.heap.size wr w' := by
          rcases HB.out with ⟨rfl, h2⟩ | ⟨j, rfl, hj, hej, h4⟩
          · refine ⟨true, ?_, ahead_none hf⟩
            exact (best_new (.inl ⟨rfl, h2⟩) he : Best day s (k + 1) k)
          · have hjj : Best day s k (j : Int) := HB.out
            have hC := ahead_some hC hk8 (by omega) he hej hf hq
            cases hk : klt (nth (pg day k s) 0).1 (nth (pg day j s) 0).1
            · rw [hk] at hC
              exact ⟨false, (best_worse HN.out hjj he hk : Best day s (k + 1) j), hC⟩
            · rw [hk] at hC
              exact ⟨true, (best_better hjj he hk : Best day s (k + 1) k), hC⟩
        obtain ⟨b, HB2, HA⟩ := A
        clear hv hC HB he
        generalize (pg day k s).length = n at *
        cases b
        · go_wp2_with fail
          refine HA.mono ?_
          rintro e w1 ⟨rfl, b1⟩
          have hf1 := (b1.cell (p := ⟨w.heap.size + 1, 0, none⟩) (cell_lt hf)).trans hf
          have hfz1 := (World.frozen?_of_block (b1.block _ (cell_lt hf))).trans hfz
          have hq1 := (b1.cell (p := ⟨w.heap.size, 0, none⟩) (cell_lt hq)).trans hq
          have hb1 := hb.trans (b1.mono hb.size)
          clear hf hfz hq hb b1
          go_wp2
          go_roundw
          case rel => exact ⟨k + 1, f, by omega, by go_num, HB2, hf1, hfz1, hq1, hb1⟩
          case measure => simp [intOf]; omega
        · go_wp2_with fail
          refine HA.mono ?_
          rintro e w1 ⟨rfl, b1⟩
          have hf1 := (b1.cell (p := ⟨w.heap.size + 1, 0, none⟩) (cell_lt hf)).trans hf
          have hfz1 := (World.frozen?_of_block (b1.block _ (cell_lt hf))).trans hfz
          have hq1 := (b1.cell (p := ⟨w.heap.size, 0, none⟩) (cell_lt hq)).trans hq
          have hb1 := hb.trans (b1.mono hb.size)
          clear hf hfz hq hb b1
          go_wp2
          go_roundw
          case rel =>
            refine ⟨k + 1, k, by omega, by go_num, HB2, ?_, ?_, ?_, hb1.setCell (Nat.le_succ _) _⟩
            · go_simp
            · go_simp
            · go_simp
          case measure => simp [intOf]; omega
    · obtain rfl : k = 8 := by omega
      go_wp2
      go_ret
      exact ⟨f, rfl, HB.out, hb⟩
end Go.Proofs.Ytjkcdkoomipfkaa
