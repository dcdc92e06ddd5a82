/- Proved: the walk of the law PrioTwice. -/
import Derived.Test.YtnldbnlbfmjcbaaLaw0
namespace Go.Proofs.Ytnldbnlbfmjcbaa
open Go.RowKit Go.Sort
set_option linter.unusedVariables false

set_option maxRecDepth 100000 in
set_option maxHeartbeats 2000000 in
theorem twice_walk (w : World) (a : Option Addr) (n c : Nat) (l : List M) (hn : n ≤ maxLen) (h : InM w a n l) (r : Int) (hr0 : 0 ≤ r) (hr1 : r ≤ 255) :
    Calls Try.prog 6 #[.slice a n c, .int .u8 r] w fun e w' => e = .returned (.bool true) ∧ Below w.heap.size w w' := by
  unfold maxLen at hn
  by_cases hbig : 200 < n
  · have g : (200 : Int) < (n : Int) := by omega
    clear h
    go_enter Try.func6, Try.ntmps6
    go_wp2
    go_ret
    exact ⟨rfl, Below.refl _ _⟩
  · have g : ¬ (200 : Int) < (n : Int) := by omega
    have hl := h.1
    have NW := lnew (w := w) (W := w) (r % 65) (by unfold i64; omega) (Below.refl _ _)
    have hroom : (clampR (r % 65) : Int) = r % 65 := by rw [clampR_int]; omega
    obtain ⟨room, hrm⟩ : ∃ room, clampR (r % 65) = room := ⟨_, rfl⟩
    rw [hrm] at NW hroom
    clear hrm
    go_enter Try.func6, Try.ntmps6
    go_wp2_with fail
    refine NW.mono ?_
    rintro e w1 ⟨qb, rfl, h1, _⟩
    clear NW
    go_wp2_with fail
    go_loopw [7] (fun si wr => ∃ (k : Nat) (s : List M), k ≤ n ∧ si = .int .i64 k ∧ LQ w wr qb room s) (fun si _ => n - (intOf si).toNat)
    case atStart => exact ⟨0, [], Nat.zero_le _, rfl, h1⟩
    case round =>
      obtain ⟨k, s, hk, rfl, hq⟩ := hrel
      by_cases hlt : k < n
      · obtain ⟨x, hx⟩ : ∃ x, nth l k = x := ⟨_, rfl⟩
        have hxw : mwf x := by rw [← hx, nth_get l k (by omega)]; exact h.2.1 _ (List.getElem_mem _)
        obtain ⟨b, off, rfl, x0, x1, x2, x3, x4, x5⟩ := h.cells hq.bel (i := k) (by omega) hx
        have P1 := lpush hq x hxw
        have hlt' : (k : Int) < (n : Int) := by omega
        have P2 := fun (W : World) (hW : LQ w W qb room (pushS s room x)) => lpush hW x hxw
        have P3 := fun (W : World) (hW : LQ w W qb room (pushS (pushS s room x) room x)) => llen hW
        have P4 := fun (W : World) (hW : LQ w W qb room (pushS (pushS s room x) room x)) => lfirst hW
        have CE := fun (W : World) (hW : Below w.heap.size w W) => h.cells hW (i := k) (by omega) hx
        have AG := pushC_again (s := s) (room := room) (m := x)
        have LT := pushC_lt (s := s) (room := room) (m := x)
        obtain ⟨s2, hs2⟩ : ∃ s2, pushS (pushS s room x) room x = s2 := ⟨_, rfl⟩
        obtain ⟨s1, hs1⟩ : ∃ s1, pushS s room x = s1 := ⟨_, rfl⟩
        obtain ⟨C1, hC1⟩ : ∃ C1, pushC s room x = C1 := ⟨_, rfl⟩
        obtain ⟨C2, hC2⟩ : ∃ C2, pushC s1 room x = C2 := ⟨_, rfl⟩
        rw [hs2] at P3 P4
        rw [hs1, hC1] at P1
        rw [hs1] at P2 hs2 AG
        rw [hC2, hs2] at P2
        rw [hC1, hC2] at AG
        rw [hC1] at LT
        have hcase : (C1 = 0 ∧ C2 = 3) ∨ (C1 = 2 ∧ C2 = 2) ∨ (C1 = 3 ∧ C2 = 3) := by
          rcases LT with e | e | e
          · exact .inr (.inr ⟨e, by rw [AG.2 (by omega)]; exact e⟩)
          · exact .inr (.inl ⟨e, by rw [AG.2 (by omega)]; exact e⟩)
          · exact .inl ⟨e, AG.1 e⟩
        clear AG LT hs1 hs2 hC1 hC2 hx
        obtain ⟨⟨b1, b2, b3⟩, b4, b5, b6⟩ := x
        dsimp only [mv] at P1 P2 x0 x1 x2 x3 x4 x5
        dsimp only at CE
        have PP2 : Aside _ := P2
        have PP3 : Aside _ := P3
        have PP4 : Aside _ := P4
        have CA : Aside _ := CE
        clear P2 P3 P4 CE
        rcases hcase with ⟨rfl, rfl⟩ | ⟨rfl, rfl⟩ | ⟨rfl, rfl⟩
        all_goals
          go_wp2_with fail
          refine P1.mono ?_
          rintro e w2 ⟨rfl, q2⟩
          obtain ⟨_, _, hab, y0, y1, y2, y3, y4, y5⟩ := CA.out w2 q2.bel
          simp only [Option.some.injEq, Addr.mk.injEq] at hab
          obtain ⟨rfl, rfl, _⟩ := hab
          clear x0 x1 x2 x3 x4 x5 P1
          go_wp2_with fail
          refine (PP2.out _ q2).mono ?_
          rintro e w3 ⟨rfl, q3⟩
          clear y0 y1 y2 y3 y4 y5
          have hsr := q3.srt
          have hle : ¬ (r % 65 < (s2.length : Int)) := by omega
          clear hsr
          go_wp2_with fail
          refine (PP3.out _ q3).mono ?_
          rintro e w4 ⟨rfl, hw4⟩
          have hw4' := hw4.symm
          subst hw4'
          clear hw4
          go_wp2_with fail
          refine (PP4.out _ q3).mono ?_
          rintro e w5 ⟨rfl, q5, _⟩
          have q6 := fun o => q5.below ((Below.refl w5.heap.size w5).alloc (Nat.le_refl _) o)
          have L6 : ∀ o, Calls Try.prog 22 #[.pointer (some ⟨qb, 0, none⟩)] (w5.alloc o) fun e w' => e = .returned (.int .i64 s2.length) ∧ w' = w5.alloc o := fun o => llen (q6 o)
          have QA : Aside _ := q6
          clear q3 q5 q6 hle
          cases s2 with
          | nil =>
            simp only [List.length_nil, List.isEmpty_nil, List.headD_nil] at L6 ⊢
            go_wp2_with fail
            refine (L6 _).mono ?_
            rintro e w7 ⟨rfl, rfl⟩
            go_wp2_with fail
            go_roundw
            case rel => exact ⟨k + 1, [], by omega, by go_num, QA.out _⟩
            case measure => simp [intOf]; omega
          | cons z t =>
            have g0 : (0 : Int) < (((z :: t).length : Nat) : Int) := by simp
            simp only [List.isEmpty_cons, List.headD_cons] at L6 ⊢
            go_wp2_with fail
            refine (L6 _).mono ?_
            rintro e w7 ⟨rfl, rfl⟩
            go_wp2_with fail
            go_roundw
            case rel => exact ⟨k + 1, _, by omega, by go_num, QA.out _⟩
            case measure => simp [intOf]; omega
      · have hkd : k = n := by omega
        subst hkd
        have hgt : ¬ ((k : Int) < (k : Int)) := by omega
        have N1 := lnew (w := w) (W := wr) 1 (by unfold i64; omega) hq.bel
        clear h
        go_wp2_with fail
        refine N1.mono ?_
        rintro e w2 ⟨q1, rfl, h2, _⟩
        have P1 := lpush h2 zeroM zero_wf
        clear N1
        go_wp2_with fail
        refine P1.mono ?_
        rintro e w3 ⟨rfl, h3⟩
        have e1 : pushC [] (clampR 1) zeroM = 0 := by decide
        rw [e1]
        have N2 := lnew (w := w) (W := w3) 0 (by unfold i64; omega) h3.bel
        clear P1 e1
        go_wp2_with fail
        refine N2.mono ?_
        rintro e w4 ⟨q2, rfl, h4, _⟩
        have P2 := lpush h4 zeroM zero_wf
        clear N2
        go_wp2_with fail
        refine P2.mono ?_
        rintro e w5 ⟨rfl, h5⟩
        have e2 : pushC [] (clampR 0) zeroM = 2 := by decide
        rw [e2]
        have hbel := h5.bel
        clear P2 e2
        go_wp2_with fail
        go_ret
        exact ⟨rfl, hbel⟩
end Go.Proofs.Ytnldbnlbfmjcbaa
