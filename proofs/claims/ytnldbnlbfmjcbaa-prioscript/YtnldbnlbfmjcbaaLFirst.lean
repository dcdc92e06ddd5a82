/- Proved: the walk of the law PrioFirst. -/
import Derived.Test.YtnldbnlbfmjcbaaLBelow
import Derived.Test.YtnldbnlbfmjcbaaLaw1
namespace Go.Proofs.Ytnldbnlbfmjcbaa
open Go.RowKit Go.Sort
set_option linter.unusedVariables false

set_option maxRecDepth 100000 in
set_option maxHeartbeats 4000000 in
theorem first_walk (w : World) (a : Option Addr) (n c : Nat) (l : List M) (hn : n ≤ maxLen) (h : InM w a n l) (p : Int) (hp0 : 0 ≤ p) (hp1 : p ≤ 255) :
    Calls Try.prog 8 #[.slice a n c, .int .u8 p] w fun e w' => e = .returned (.bool true) ∧ Below w.heap.size w w' := by
  have mixed : Try.prog.follows .mixedOrders = true := by kernel_rfl
  unfold maxLen at hn
  by_cases hbig : 64 < n
  · have g : (64 : Int) < (n : Int) := by omega
    clear h
    go_enter Try.func8, Try.ntmps8
    go_wp2
    go_ret
    exact ⟨rfl, Below.refl _ _⟩
  · have g : ¬ (64 : Int) < (n : Int) := by omega
    have hl := h.1
    have NW := lnew (w := w) (W := w) 64 (by unfold i64; omega) (Below.refl _ _)
    rw [clamp64] at NW
    go_enter Try.func8, Try.ntmps8
    go_wp2_with fail
    refine NW.mono ?_
    rintro e w1 ⟨qb, rfl, h1, _⟩
    clear NW
    go_wp2_with fail
    go_loopw [6] (fun si wr => ∃ (k : Nat) (s : List M), k ≤ n ∧ si = .int .i64 k ∧ LQ w wr qb 64 s) (fun si _ => n - (intOf si).toNat)
    case atStart => exact ⟨0, [], Nat.zero_le _, rfl, h1⟩
    case round =>
      obtain ⟨k, s, hk, rfl, hq⟩ := hrel
      by_cases hlt : k < n
      · obtain ⟨x, hx⟩ : ∃ x, nth l k = x := ⟨_, rfl⟩
        have hxw : mwf x := by rw [← hx, nth_get l k (by omega)]; exact h.2.1 _ (List.getElem_mem _)
        obtain ⟨b, off, rfl, x0, x1, x2, x3, x4, x5⟩ := h.cells hq.bel (i := k) (by omega) hx
        have P1 := lpush hq x hxw
        have hlt' : (k : Int) < (n : Int) := by omega
        obtain ⟨s2, hs2⟩ : ∃ s2, pushS s 64 x = s2 := ⟨_, rfl⟩
        obtain ⟨C1, hC1⟩ : ∃ C1, pushC s 64 x = C1 := ⟨_, rfl⟩
        rw [hs2, hC1] at P1
        clear hs2 hC1 hx
        obtain ⟨⟨b1, b2, b3⟩, b4, b5, b6⟩ := x
        dsimp only [mv] at P1 x0 x1 x2 x3 x4 x5
        go_wp2_with fail
        refine P1.mono ?_
        rintro e w3 ⟨rfl, q2⟩
        clear x0 x1 x2 x3 x4 x5 P1
        go_wp2_with fail
        go_roundw
        case rel => exact ⟨k + 1, s2, by omega, by go_num, q2⟩
        case measure => simp [intOf]; omega
      · have hkd : k = n := by omega
        subst hkd
        have hgt : ¬ ((k : Int) < (k : Int)) := by omega
        have N1 := lnew (w := wr) (W := wr) 1 (by unfold i64; omega) (Below.refl _ _)
        rw [clamp1] at N1
        clear h
        go_wp2_with fail
        refine N1.mono ?_
        rintro e w2 ⟨ob, rfl, h2, _⟩
        have P1 := lpush h2 zeroM zero_wf
        have e1 : pushC [] 1 zeroM = 0 := by decide
        have e2 : pushS [] 1 zeroM = [zeroM] := by decide
        rw [e1, e2] at P1
        dsimp only [mv] at P1
        clear N1 e1 e2
        go_wp2_with fail
        refine P1.mono ?_
        rintro e w3 ⟨rfl, h3⟩
        have L1 := llen h3
        simp only [List.length_cons, List.length_nil, Nat.zero_add] at L1
        have hq3 := hq.below h3.bel
        clear P1 h3 h2 hq
        go_wp2_with fail
        refine L1.mono ?_
        rintro e w4 ⟨rfl, hw4⟩
        have hw4' := hw4.symm
        subst hw4'
        clear hw4 L1
        go_wp2_with fail
        go_loopw [8] (fun si wr => ∃ (i : Nat) (s : List M), i ≤ 9 ∧ si = .int .i64 i ∧ LQ w wr qb 64 s) (fun si _ => 20 - (intOf si).toNat)
        case atStart => exact ⟨0, s, by omega, rfl, hq3⟩
        case round =>
          clear hq3
          obtain ⟨i, s, hi9, rfl, hq⟩ := hrel
          by_cases hil : (i : Int) ≤ p % 9
          · obtain ⟨hs, _, hsl, _⟩ := hq.srt
            have F1 := lfirst hq
            have hi8 : i ≤ 8 := by omega
            cases s with
            | nil =>
              dsimp only [List.headD, List.isEmpty, mv, Bool.not_true] at F1
              go_wp2_with fail
              refine F1.mono ?_
              rintro e w5 ⟨rfl, q5, _⟩
              have zz := q5.z.more zobj
              have L6 := llist zz.q
              have bx := BoxM.made w5 zeroM
              dsimp only at bx
              obtain ⟨mB, hmB⟩ : ∃ mB, w5.heap.size = mB := ⟨_, rfl⟩
              rw [hmB] at zz bx
              have ZZ : Aside _ := zz
              have BX : Aside _ := bx
              simp only [List.length_nil] at L6
              clear F1 q5 zz bx hq
              go_wp2_with fail
              refine L6.mono ?_
              rintro e w7 ⟨a7, c7, rfl, _, _, b7⟩
              have z7 := LZ.below ZZ.out b7
              have bx7 := BoxM.below BX.out b7
              have L7 := llen z7.q
              have P7 := zpop z7
              simp only [List.length_nil] at L7
              dsimp only [List.headD, List.isEmpty, List.tail, mv, Bool.not_true] at P7
              have BX7 : Aside _ := bx7
              clear L6 b7 z7 bx7
              go_wp2_with fail
              go_loopw [12] (fun si wr => si = .int .i64 0 ∧ wr = w7) (fun _ _ => 0)
              case atStart => exact ⟨rfl, rfl⟩
              case round =>
                obtain ⟨rfl, rfl⟩ := hrel
                go_wp2_with fail
                refine L7.mono ?_
                rintro e w8 ⟨rfl, hw8⟩
                have hw8' := hw8.symm
                subst hw8'
                clear hw8
                go_wp2_with fail
                refine P7.mono ?_
                rintro e w9 ⟨rfl, z9, f9⟩
                obtain ⟨m0, m1, m2, m3, m4, m5⟩ := (BoxM.keep BX7.out f9 (fun g => g (.inr rfl))).cells
                dsimp only at m0 m1 m2 m3 m4 m5
                have hml := cell_lt m0
                have q9 : ∀ o, LQ w (w9.alloc o) qb 64 [] := fun o => z9.q.below ((Below.refl _ _).alloc (Nat.le_refl _) _)
                have QA : Aside _ := q9
                clear z9 f9 q9
                go_wp2_with fail
                go_roundw
                case rel => exact ⟨i + 1, [], by omega, by go_num, QA.out _⟩
                case measure => simp [intOf]; omega
            | cons x r =>
              obtain ⟨t1, t2⟩ := List.pairwise_cons.1 hs
              have hx0 : nth (x :: r) 0 = x := by simp [nth]
              have hcm : ∀ j, j < (x :: r).length → ¬ 0 < kcmp x.1 (nth (x :: r) j).1 := fun j hj g => by
                rw [kcmp_pos] at g
                cases j with
                | zero => rw [hx0, klt_irrefl] at g; cases g
                | succ j' =>
                  have hm : nth (x :: r) (j' + 1) ∈ r := by
                    rw [nth_get _ _ hj]
                    simp only [List.getElem_cons_succ]
                    exact List.getElem_mem _
                  rw [klt_asymm (t1 _ hm)] at g; cases g
              have HCM : Hid _ := hcm
              have HX0 : Hid _ := hx0
              have h1l : (x :: r).length = r.length + 1 := rfl
              dsimp only [List.headD, List.isEmpty, mv, Bool.not_false] at F1
              have xw : Hid (x = x) := rfl
              clear hcm hx0 hs t1
              go_wp2_with fail
              refine F1.mono ?_
              rintro e w5 ⟨rfl, q5, _⟩
              have bx := BoxM.made w5 x
              have zz := q5.z.more (.cells #[.int .i64 x.1.1, .int .i64 x.1.2.1, .int .i64 x.1.2.2, .int .i64 x.2.1, .int .i64 x.2.2.1, .int .i64 x.2.2.2] 30)
              have L6 := llist zz.q
              obtain ⟨mB, hmB⟩ : ∃ mB, w5.heap.size = mB := ⟨_, rfl⟩
              rw [hmB] at zz bx
              have ZZ : Aside _ := zz
              have BX : Aside _ := bx
              rw [h1l] at L6
              have g0 : (0 : Int) < (r.length : Int) + 1 := by omega
              clear F1 q5 zz bx hq
              go_wp2_with fail
              refine L6.mono ?_
              rintro e w7 ⟨a7, c7, rfl, o7, _, b7⟩
              have z7 := LZ.below ZZ.out b7
              have bx7 := BoxM.below BX.out b7
              have BX7 : Aside _ := bx7
              have Z7 : Aside _ := z7
              obtain ⟨g7, c7', hv7, hg7⟩ := own_nonempty o7 (i := 0) (by simp)
              obtain ⟨rfl, rfl⟩ : a7 = some ⟨g7, 0, none⟩ ∧ c7 = c7' := by simpa using hv7
              clear L6 b7 z7 bx7 hv7
              go_wp2_with fail
              go_loopw [12] (fun si wr => ∃ j : Nat, j ≤ r.length + 1 ∧ si = .int .i64 j ∧ Below w7.heap.size w7 wr) (fun si _ => r.length + 1 - (intOf si).toNat)
              case atStart => exact ⟨0, Nat.zero_le _, rfl, Below.refl _ _⟩
              case round =>
                obtain ⟨j, hj, rfl, hB⟩ := hrel
                have bxr := BoxM.below BX7.out hB
                obtain ⟨m0, m1, m2, m3, m4, m5⟩ := bxr.cells
                by_cases hjl : j < r.length + 1
                · obtain ⟨y, hy⟩ : ∃ y, nth (x :: r) j = y := ⟨_, rfl⟩
                  obtain ⟨y0, y1, y2, y3, y4, y5⟩ := own_cell (own_below o7 hB) (i := j) (x := y) hjl (by rw [← nth_get]; exact hy)
                  have hcj := HCM.out j hjl
                  rw [hy] at hcj
                  have CC := fun W => refg_any x.1 y.1 W
                  have hjl' : (j : Int) < (r.length : Int) + 1 := by omega
                  have hmw := bxr.lt
                  have hgw := Nat.lt_of_lt_of_le hg7 hB.size
                  have M0 := fun n os => cell_grown (n := n) (os := os) (a := ⟨mB, 0, none⟩) hmw m0
                  have M1 := fun n os => cell_grown (n := n) (os := os) (a := ⟨mB, 1, none⟩) hmw m1
                  have M2 := fun n os => cell_grown (n := n) (os := os) (a := ⟨mB, 2, none⟩) hmw m2
                  have M3 := fun n os => cell_grown (n := n) (os := os) (a := ⟨mB, 3, none⟩) hmw m3
                  have M4 := fun n os => cell_grown (n := n) (os := os) (a := ⟨mB, 4, none⟩) hmw m4
                  have M5 := fun n os => cell_grown (n := n) (os := os) (a := ⟨mB, 5, none⟩) hmw m5
                  have Y0 := fun n os => cell_grown (n := n) (os := os) (a := ⟨g7, j * 6, none⟩) hgw y0
                  have Y1 := fun n os => cell_grown (n := n) (os := os) (a := ⟨g7, j * 6 + 1, none⟩) hgw y1
                  have Y2 := fun n os => cell_grown (n := n) (os := os) (a := ⟨g7, j * 6 + 2, none⟩) hgw y2
                  have Y3 := fun n os => cell_grown (n := n) (os := os) (a := ⟨g7, j * 6 + 3, none⟩) hgw y3
                  have Y4 := fun n os => cell_grown (n := n) (os := os) (a := ⟨g7, j * 6 + 4, none⟩) hgw y4
                  have Y5 := fun n os => cell_grown (n := n) (os := os) (a := ⟨g7, j * 6 + 5, none⟩) hgw y5
                  obtain ⟨rr, hrr⟩ : ∃ rr, kcmp x.1 y.1 = rr := ⟨_, rfl⟩
                  rw [hrr] at CC hcj
                  have hcj2 : decide (0 < rr) = false := by simpa using hcj
                  dsimp only [kv] at CC
                  have RB := fun nq osq => below_grown hB hB.size nq osq
                  have RA : Aside _ := RB
                  by_cases j0 : j = 0
                  · subst j0
                    have hyx : y = x := hy.symm.trans HX0.out
                    subst hyx
                    simp only [Nat.zero_mul, Nat.zero_add] at Y0 Y1 Y2 Y3 Y4 Y5
                    clear hrr hy m0 m1 m2 m3 m4 m5 y0 y1 y2 y3 y4 y5 bxr RB
                    go_wp2_with fail
                    go_quiet_grown (first | (go_at_call 26; refine Calls.grown_of (CC _)))
                    go_wp2_with fail
                    go_roundw
                    case rel => exact ⟨1, by omega, rfl, RA.out _ _⟩
                    case measure => simp [intOf]
                  · have jn : ¬ ((j : Int) = 0) := by omega
                    have jn2 : ((j : Int) == 0) = false := by simpa using jn
                    clear hrr hy m0 m1 m2 m3 m4 m5 y0 y1 y2 y3 y4 y5 bxr RB
                    go_wp2_with fail
                    go_quiet_grown (first | (go_at_call 26; refine Calls.grown_of (CC _)))
                    go_wp2_with fail
                    go_roundw
                    case rel => exact ⟨j + 1, by omega, by go_num, RA.out _ _⟩
                    case measure => simp [intOf]; omega
                · have hjd : j = r.length + 1 := by omega
                  subst hjd
                  have hjn : ¬ (((r.length + 1 : Nat) : Int) < (r.length : Int) + 1) := by omega
                  have zr := LZ.below Z7.out hB
                  have L7 := llen zr.q
                  have P7 := zpop zr
                  rw [h1l] at L7
                  dsimp only [List.headD, List.isEmpty, List.tail, mv, Bool.not_false] at P7
                  have BXR : Aside _ := bxr
                  clear m0 m1 m2 m3 m4 m5 bxr zr
                  go_wp2_with fail
                  refine L7.mono ?_
                  rintro e w8 ⟨rfl, hw8⟩
                  have hw8' := hw8.symm
                  subst hw8'
                  clear hw8
                  go_wp2_with fail
                  refine P7.mono ?_
                  rintro e w9 ⟨rfl, z9, f9⟩
                  obtain ⟨m0, m1, m2, m3, m4, m5⟩ := (BoxM.keep BXR.out f9 (fun g => g (.inr rfl))).cells
                  have hml := cell_lt m0
                  have q9 : ∀ o, LQ w (w9.alloc o) qb 64 r := fun o => z9.q.below ((Below.refl _ _).alloc (Nat.le_refl _) _)
                  have L9 := fun o => llen (q9 o)
                  have QA : Aside _ := q9
                  clear z9 f9 q9 P7 L7
                  go_wp2_with fail
                  refine (L9 _).mono ?_
                  rintro e w10 ⟨rfl, hw10⟩
                  have hw10' := hw10.symm
                  subst hw10'
                  clear hw10 L9
                  go_wp2_with fail
                  go_roundw
                  case rel => exact ⟨i + 1, r, by omega, by go_num, QA.out _⟩
                  case measure => simp [intOf]; omega
          · have N2 := lnew (w := w) (W := wr) 1 (by unfold i64; omega) hq.bel
            rw [clamp1] at N2
            go_wp2_with fail
            refine N2.mono ?_
            rintro e w6 ⟨q1, rfl, h6, _⟩
            have P1 := lpush h6 zeroM zero_wf
            have e1 : pushC [] 1 zeroM = 0 := by decide
            rw [e1] at P1
            dsimp only [mv] at P1
            clear N2 e1
            go_wp2_with fail
            refine P1.mono ?_
            rintro e w7 ⟨rfl, h7⟩
            have hbel := h7.bel
            clear P1
            go_wp2_with fail
            go_ret
            exact ⟨rfl, hbel⟩
end Go.Proofs.Ytnldbnlbfmjcbaa
