/- Proved: the walk of the law CalendarHeap. -/
import Derived.Test.YtjkcdkoomipfkaaLHeap0
import Derived.Deep.RegionHeld3
namespace Go.Proofs.Ytjkcdkoomipfkaa
open Go.RowKit Go.Sort Go.Lib
set_option linter.unusedVariables false

set_option maxRecDepth 100000 in
set_option maxHeartbeats 16000000 in
theorem heap_walk (w : World) (r1 : Int) (hr1 : i64 r1) (a : Option Addr) (n c : Nat) (l : List St) (hn : n ≤ maxLen) (h : InS w a n l) :
    Calls Try.prog 4 #[.int .i64 r1, .slice a n c] w fun e w' => e = .returned (.bool true) ∧ Below w.heap.size w w' := by
  have mixed : Try.prog.follows .mixedOrders = true := by kernel_rfl
  unfold maxLen at hn
  by_cases hbig : 300 < n
  · have g : (300 : Int) < (n : Int) := by omega
    clear h
    go_enter Try.func4, Try.ntmps4
    go_wp2
    go_ret
    exact ⟨rfl, Below.refl _ _⟩
  · have g : ¬ (300 : Int) < (n : Int) := by omega
    have hl := h.1
    have NW := knew 64 r1 w i64_64 hr1
    have NR := fun (W : World) => hnew 64 W i64_64
    rw [clamp64] at NW
    simp only [clamp64] at NR
    obtain ⟨e1, he1⟩ : ∃ e1, clampD r1 = e1 := ⟨_, rfl⟩
    rw [he1] at NW
    have NA : Aside _ := NR
    clear NR he1
    go_enter Try.func4, Try.ntmps4
    go_wp2_with fail
    refine NW.mono ?_
    rintro e w1 ⟨pb, F1, rfl, h1, hF1, hb1⟩
    have R1 := NA.out w1
    clear NW NA
    go_wp2_with fail
    refine R1.mono ?_
    rintro e w2 ⟨qb, F2, rfl, h2, hF2, hb2⟩
    have h2' : L2 w w2 (fun _ => False) (PK pb 64 e1 []) (PQ qb 64 []) := L2.start (thK _ _ _ _) h1 hF1 hb1 h2 hF2 hb2
    clear R1 h1 h2 hF1 hF2 hb1 hb2
    go_wp2_with fail
    go_loopw [7] (fun si wr => ∃ (k : Nat) (s : List M), k ≤ n ∧ si = .int .i64 k ∧ L2 w wr (fun _ => False) (PK pb 64 e1 s) (PQ qb 64 s)) (fun si _ => n - (intOf si).toNat)
    case atStart => exact ⟨0, [], Nat.zero_le _, rfl, h2'⟩
    case round =>
      clear h2'
      obtain ⟨k, s, hk, rfl, hq⟩ := hrel
      by_cases hlt : k < n
      · obtain ⟨x, hx⟩ : ∃ x, nthS l k = x := ⟨_, rfl⟩
        have hxw : swf x := by
          have e : nthS l k = l[k]'(by omega) := by simp [nthS, show k < l.length by omega]
          rw [← hx, e]; exact h.2.1 _ (List.getElem_mem _)
        obtain ⟨b, off, rfl, x0, x1, x2, x3, x4, x5, x6⟩ := h.cells hq.bel (i := k) (by omega) hx
        have hlt' : (k : Int) < (n : Int) := by omega
        obtain ⟨kd, ⟨b1, b2, b3⟩, b4, b5, b6⟩ := x
        dsimp only at x0 x1 x2 x3 x4 x5 x6
        have zz := hq.more (thK _ _ _ _) (thQ _ _ _) (.cells #[.int .i64 kd, .int .i64 b1, .int .i64 b2, .int .i64 b3, .int .i64 b4, .int .i64 b5, .int .i64 b6] 34)
        have bx := BoxS.made wr (kd, (b1, b2, b3), b4, b5, b6)
        dsimp only at bx
        obtain ⟨sB, hsB⟩ : ∃ sB, wr.heap.size = sB := ⟨_, rfl⟩
        rw [hsB] at zz bx
        clear hq hx h
        by_cases t0 : b1 < 0
        · have ZZ : Aside _ := zz
          clear zz bx
          go_wp2_with fail
          go_roundw
          case rel => exact ⟨k + 1, s, by omega, by go_num, L2.fewer ZZ.out (fun k g => g.elim)⟩
          case measure => simp [intOf]; omega
        by_cases t1 : 1099511627776 < b1 ∧ b1 ≠ 1125899906842624
        · have ZZ : Aside _ := zz
          obtain ⟨t2, t3⟩ := t1
          have t4 : (b1 == 1125899906842624) = false := by simpa using t3
          have t5 : decide (b1 < 0) = false := by simpa using t0
          have t6 : decide (1099511627776 < b1) = true := by simpa using t2
          clear zz bx
          go_wp2_with fail
          go_roundw
          case rel => exact ⟨k + 1, s, by omega, by go_num, L2.fewer ZZ.out (fun k g => g.elim)⟩
          case measure => simp [intOf]; omega
        have HVT : Aside (vt b1 = true) := by
          show vt b1 = true
          unfold vt
          simp only [decide_eq_true_eq]
          omega
        have hcase : b1 ≤ 1099511627776 ∨ b1 = 1125899906842624 := by omega
        have t5 : decide (b1 < 0) = false := by simpa using t0
        clear t1
        by_cases k0 : kd = 0
        · rcases hcase with t2 | rfl
          · subst k0
            have zd := zz.below (thK _ _ _ _) (thQ _ _ _) (Below.refl _ _).drew
            have bd := bx.below (Below.refl _ _).drew
            have P1 := zd.callP (thQ _ _ _) (fun F hF => kpush hF ((b1, b2, b3), b4, b5, b6))
            rw [(cpush_vt s 64 ((b1, b2, b3), b4, b5, b6) HVT.out).1, (cpush_vt s 64 ((b1, b2, b3), b4, b5, b6) HVT.out).2] at P1
            have P2 := fun (W : World) (hW : L2 w W (fun k => False ∨ k = sB) (PK pb 64 e1 (pushS s 64 ((b1, b2, b3), b4, b5, b6))) (PQ qb 64 s)) => hW.callQ (thK _ _ _ _) (fun F hF => hpush hF ((b1, b2, b3), b4, b5, b6) hxw.2)
            obtain ⟨s2, hs2⟩ : ∃ s2, pushS s 64 ((b1, b2, b3), b4, b5, b6) = s2 := ⟨_, rfl⟩
            obtain ⟨C1, hC1⟩ : ∃ C1, pushC s 64 ((b1, b2, b3), b4, b5, b6) = C1 := ⟨_, rfl⟩
            rw [hs2, hC1] at P1
            simp only [hs2, hC1] at P2
            have P1' := P1.mono (R' := fun e w' => e = .returned (.int .i64 C1) ∧ L2 w w' (fun k => False ∨ k = sB) (PK pb 64 e1 s2) (PQ qb 64 s) ∧ BoxS w' sB (0, ((b1, b2, b3), b4, b5, b6))) (fun e w' ⟨he, z', f'⟩ => ⟨he, z', bd.keep f' (fun g => g (.inr rfl))⟩)
            have P2' : ∀ W : World, L2 w W (fun k => False ∨ k = sB) (PK pb 64 e1 s2) (PQ qb 64 s) → BoxS W sB (0, ((b1, b2, b3), b4, b5, b6)) → Calls Try.prog 28 #[.pointer (some ⟨qb, 0, none⟩), mv ((b1, b2, b3), b4, b5, b6)] W fun e w' => e = .returned (.int .i64 C1) ∧ L2 w w' (fun k => False ∨ k = sB) (PK pb 64 e1 s2) (PQ qb 64 s2) ∧ BoxS w' sB (0, ((b1, b2, b3), b4, b5, b6)) := fun W hW hb => (P2 W hW).mono fun e w' ⟨he, z', f'⟩ => ⟨he, z', hb.keep f' (fun g => g (.inr rfl))⟩
            have PP2 : Aside _ := P2'
            obtain ⟨d0, d1, d2, d3, d4, d5, d6⟩ := bx.cells
            have BX : Aside _ := bx
            dsimp only [mv] at P1' PP2 d0 d1 d2 d3 d4 d5 d6
            clear P1 P2 P2' hs2 hC1 zd bd bx zz
            go_wp2_with fail
            go_region_held3 (fun w' => w'.cell? ⟨sB, 0, none⟩ = some (.int .i64 0) ∧ w'.cell? ⟨sB, 1, none⟩ = some (.int .i64 b1) ∧ w'.cell? ⟨sB, 2, none⟩ = some (.int .i64 b2) ∧ w'.cell? ⟨sB, 3, none⟩ = some (.int .i64 b3) ∧ w'.cell? ⟨sB, 4, none⟩ = some (.int .i64 b4) ∧ w'.cell? ⟨sB, 5, none⟩ = some (.int .i64 b5) ∧ w'.cell? ⟨sB, 6, none⟩ = some (.int .i64 b6)) (go_keep) (first | (go_at_call 28; refine (PP2.out _ zA bA).mono ?_; rintro e wB ⟨rfl, zB, bB⟩; obtain ⟨f0, f1, f2, f3, f4, f5, f6⟩ := bB.cells; dsimp only at f0 f1 f2 f3 f4 f5 f6) | (go_at_call 11; refine P1'.mono ?_; rintro e wA ⟨rfl, zA, bA⟩; obtain ⟨e0, e1', e2', e3, e4, e5, e6⟩ := bA.cells; dsimp only at e0 e1' e2' e3 e4 e5 e6))
            clear P1' PP2

            have hT : s2.length ≤ 1000 := by obtain ⟨F0, hF0⟩ := zB.seeP; have := (ksrt hF0).2; omega
            obtain ⟨F1, hF1⟩ := zB.seeP
            obtain ⟨F2, hF2⟩ := zB.seeQ
            have N1 := klen hF1
            have N2 := hlen hF2
            have L1 := klist hF1
            have TA : Aside _ := zB
            clear zB hF1 hF2
            go_wp2_with fail
            refine N1.mono ?_
            rintro e wN ⟨rfl, hwN⟩
            have hwN' := hwN.symm
            subst hwN'
            clear hwN N1
            go_wp2_with fail
            refine N2.mono ?_
            rintro e wN ⟨rfl, hwN⟩
            have hwN' := hwN.symm
            subst hwN'
            clear hwN N2
            go_wp2_with fail
            refine L1.mono ?_
            rintro e wL ⟨aL, cL, rfl, oL, bL⟩
            have T2 := L2.below TA.out (thK _ _ _ _) (thQ _ _ _) bL
            obtain ⟨F3, hF3⟩ := T2.seeQ
            have L2' := hlist hF3
            clear L1 bL hF3
            go_wp2_with fail
            refine L2'.mono ?_
            rintro e wM ⟨aM, cM, rfl, oM, bM⟩
            have T3 := T2.below (thK _ _ _ _) (thQ _ _ _) bM
            have S3 := same_any (own_below oL bM) oM hT
            clear L2' bM T2 oL oM
            go_wp2_with fail
            refine S3.mono ?_
            rintro e wS ⟨rfl, bS⟩
            have T5 : Aside _ := T3.below (thK _ _ _ _) (thQ _ _ _) bS
            clear S3 bS T3 TA
            go_wp2_with fail
            go_roundw
            case rel => exact ⟨k + 1, s2, by omega, by go_num, L2.fewer T5.out (fun k g => g.elim)⟩
            case measure => simp [intOf]; omega
          · subst k0
            have zd := zz.below (thK _ _ _ _) (thQ _ _ _) (Below.refl _ _).drew
            have bd := bx.below (Below.refl _ _).drew
            have P1 := zd.callP (thQ _ _ _) (fun F hF => kpush hF ((1125899906842624, b2, b3), b4, b5, b6))
            rw [(cpush_vt s 64 ((1125899906842624, b2, b3), b4, b5, b6) HVT.out).1, (cpush_vt s 64 ((1125899906842624, b2, b3), b4, b5, b6) HVT.out).2] at P1
            have P2 := fun (W : World) (hW : L2 w W (fun k => False ∨ k = sB) (PK pb 64 e1 (pushS s 64 ((1125899906842624, b2, b3), b4, b5, b6))) (PQ qb 64 s)) => hW.callQ (thK _ _ _ _) (fun F hF => hpush hF ((1125899906842624, b2, b3), b4, b5, b6) hxw.2)
            obtain ⟨s2, hs2⟩ : ∃ s2, pushS s 64 ((1125899906842624, b2, b3), b4, b5, b6) = s2 := ⟨_, rfl⟩
            obtain ⟨C1, hC1⟩ : ∃ C1, pushC s 64 ((1125899906842624, b2, b3), b4, b5, b6) = C1 := ⟨_, rfl⟩
            rw [hs2, hC1] at P1
            simp only [hs2, hC1] at P2
            have P1' := P1.mono (R' := fun e w' => e = .returned (.int .i64 C1) ∧ L2 w w' (fun k => False ∨ k = sB) (PK pb 64 e1 s2) (PQ qb 64 s) ∧ BoxS w' sB (0, ((1125899906842624, b2, b3), b4, b5, b6))) (fun e w' ⟨he, z', f'⟩ => ⟨he, z', bd.keep f' (fun g => g (.inr rfl))⟩)
            have P2' : ∀ W : World, L2 w W (fun k => False ∨ k = sB) (PK pb 64 e1 s2) (PQ qb 64 s) → BoxS W sB (0, ((1125899906842624, b2, b3), b4, b5, b6)) → Calls Try.prog 28 #[.pointer (some ⟨qb, 0, none⟩), mv ((1125899906842624, b2, b3), b4, b5, b6)] W fun e w' => e = .returned (.int .i64 C1) ∧ L2 w w' (fun k => False ∨ k = sB) (PK pb 64 e1 s2) (PQ qb 64 s2) ∧ BoxS w' sB (0, ((1125899906842624, b2, b3), b4, b5, b6)) := fun W hW hb => (P2 W hW).mono fun e w' ⟨he, z', f'⟩ => ⟨he, z', hb.keep f' (fun g => g (.inr rfl))⟩
            have PP2 : Aside _ := P2'
            obtain ⟨d0, d1, d2, d3, d4, d5, d6⟩ := bx.cells
            have BX : Aside _ := bx
            dsimp only [mv] at P1' PP2 d0 d1 d2 d3 d4 d5 d6
            clear P1 P2 P2' hs2 hC1 zd bd bx zz
            go_wp2_with fail
            go_region_held3 (fun w' => w'.cell? ⟨sB, 0, none⟩ = some (.int .i64 0) ∧ w'.cell? ⟨sB, 1, none⟩ = some (.int .i64 1125899906842624) ∧ w'.cell? ⟨sB, 2, none⟩ = some (.int .i64 b2) ∧ w'.cell? ⟨sB, 3, none⟩ = some (.int .i64 b3) ∧ w'.cell? ⟨sB, 4, none⟩ = some (.int .i64 b4) ∧ w'.cell? ⟨sB, 5, none⟩ = some (.int .i64 b5) ∧ w'.cell? ⟨sB, 6, none⟩ = some (.int .i64 b6)) (go_keep) (first | (go_at_call 28; refine (PP2.out _ zA bA).mono ?_; rintro e wB ⟨rfl, zB, bB⟩; obtain ⟨f0, f1, f2, f3, f4, f5, f6⟩ := bB.cells; dsimp only at f0 f1 f2 f3 f4 f5 f6) | (go_at_call 11; refine P1'.mono ?_; rintro e wA ⟨rfl, zA, bA⟩; obtain ⟨e0, e1', e2', e3, e4, e5, e6⟩ := bA.cells; dsimp only at e0 e1' e2' e3 e4 e5 e6))
            clear P1' PP2

            have hT : s2.length ≤ 1000 := by obtain ⟨F0, hF0⟩ := zB.seeP; have := (ksrt hF0).2; omega
            obtain ⟨F1, hF1⟩ := zB.seeP
            obtain ⟨F2, hF2⟩ := zB.seeQ
            have N1 := klen hF1
            have N2 := hlen hF2
            have L1 := klist hF1
            have TA : Aside _ := zB
            clear zB hF1 hF2
            go_wp2_with fail
            refine N1.mono ?_
            rintro e wN ⟨rfl, hwN⟩
            have hwN' := hwN.symm
            subst hwN'
            clear hwN N1
            go_wp2_with fail
            refine N2.mono ?_
            rintro e wN ⟨rfl, hwN⟩
            have hwN' := hwN.symm
            subst hwN'
            clear hwN N2
            go_wp2_with fail
            refine L1.mono ?_
            rintro e wL ⟨aL, cL, rfl, oL, bL⟩
            have T2 := L2.below TA.out (thK _ _ _ _) (thQ _ _ _) bL
            obtain ⟨F3, hF3⟩ := T2.seeQ
            have L2' := hlist hF3
            clear L1 bL hF3
            go_wp2_with fail
            refine L2'.mono ?_
            rintro e wM ⟨aM, cM, rfl, oM, bM⟩
            have T3 := T2.below (thK _ _ _ _) (thQ _ _ _) bM
            have S3 := same_any (own_below oL bM) oM hT
            clear L2' bM T2 oL oM
            go_wp2_with fail
            refine S3.mono ?_
            rintro e wS ⟨rfl, bS⟩
            have T5 : Aside _ := T3.below (thK _ _ _ _) (thQ _ _ _) bS
            clear S3 bS T3 TA
            go_wp2_with fail
            go_roundw
            case rel => exact ⟨k + 1, s2, by omega, by go_num, L2.fewer T5.out (fun k g => g.elim)⟩
            case measure => simp [intOf]; omega
        by_cases k1 : kd = 1
        · rcases hcase with t2 | rfl
          · subst k1

            have g0 : ((1 : Int) == 0) = false := by decide
            obtain ⟨d0, d1, d2, d3, d4, d5, d6⟩ := bx.cells
            dsimp only at d0 d1 d2 d3 d4 d5 d6
            have ZZ : Aside _ := zz
            have BX : Aside _ := bx
            clear zz bx
            go_wp2_with fail
            go_quiet (fail)
            obtain ⟨w3, hw3⟩ : ∃ w3, World.drewN (World.alloc wr (Obj.cells #[.int .i64 1, .int .i64 b1, .int .i64 b2, .int .i64 b3, .int .i64 b4, .int .i64 b5, .int .i64 b6] 34)) nq = w3 := ⟨_, rfl⟩
            have z3 := L2.below ZZ.out (thK _ _ _ _) (thQ _ _ _) (bdrew _ nq)
            have s3 := BoxS.below BX.out (bdrew _ nq)
            rw [hw3] at z3 s3 ⊢
            clear hw3 ZZ BX d0 d1 d2 d3 d4 d5 d6
            obtain ⟨d0, d1, d2, d3, d4, d5, d6⟩ := s3.cells
            dsimp only at d0 d1 d2 d3 d4 d5 d6

            have Q1 := z3.callP (thQ _ _ _) (fun F hF => kpop hF)
            have Q2 := fun (Z : Nat → Prop) (W : World) (hW : L2 w W Z (PK pb 64 e1 s.tail) (PQ qb 64 s)) => hW.callQ (thK _ _ _ _) (fun F hF => hpop hF)
            obtain ⟨y, hy⟩ : ∃ y, s.headD zeroM = y := ⟨_, rfl⟩
            obtain ⟨ob, hob⟩ : ∃ ob, (!s.isEmpty) = ob := ⟨_, rfl⟩
            obtain ⟨s2, hs2⟩ : ∃ s2, s.tail = s2 := ⟨_, rfl⟩
            rw [hy, hob, hs2] at Q1
            simp only [hy, hob, hs2] at Q2
            obtain ⟨⟨y1, y2, y3⟩, y4, y5, y6⟩ := y
            dsimp only [mv, kv] at Q1 Q2
            have QA : Aside _ := Q2
            have SA : Aside _ := s3
            clear Q2 hy hob hs2 z3 s3
            go_wp2_with fail
            refine Q1.mono ?_
            rintro e w5 ⟨rfl, z5, f5⟩
            have s5 := BoxS.keep SA.out f5 (fun g => g (.inr rfl))
            have z6 := z5.more (thK _ _ _ _) (thQ _ _ _) (.cells #[.int .i64 y1, .int .i64 y2, .int .i64 y3, .int .i64 y4, .int .i64 y5, .int .i64 y6] 32)
            have s6 := s5.below ((Below.refl _ w5).alloc (Nat.le_refl _) (.cells #[.int .i64 y1, .int .i64 y2, .int .i64 y3, .int .i64 y4, .int .i64 y5, .int .i64 y6] 32))
            have hs6 := s5.lt
            have a6 := BoxM.made w5 ((y1, y2, y3), y4, y5, y6)
            dsimp only at a6
            obtain ⟨aB, haB⟩ : ∃ aB, w5.heap.size = aB := ⟨_, rfl⟩
            rw [haB] at z6 a6 hs6
            have Q6 := QA.out _ _ z6
            have A6 : Aside _ := a6
            have S6 : Aside _ := s6
            clear d0 d1 d2 d3 d4 d5 d6
            obtain ⟨d0, d1, d2, d3, d4, d5, d6⟩ := s5.cells
            dsimp only at d0 d1 d2 d3 d4 d5 d6
            have n1 : ¬ (sB = aB) := by omega
            have n2 : ¬ (aB = sB) := by omega
            clear Q1 QA z5 f5 z6 a6 s5 s6 SA
            go_wp2_with fail
            refine Q6.mono ?_
            rintro e w7 ⟨rfl, z7, f7⟩
            have a7 := BoxM.keep A6.out f7 (fun g => g (.inr rfl))
            have s7 := BoxS.keep S6.out f7 (fun g => g (.inl (.inr rfl)))
            have z8 := z7.more (thK _ _ _ _) (thQ _ _ _) (.cells #[.int .i64 y1, .int .i64 y2, .int .i64 y3, .int .i64 y4, .int .i64 y5, .int .i64 y6] 32)
            have ha7 := a7.lt
            have hs7 := s7.lt
            obtain ⟨bB, hbB⟩ : ∃ bB, w7.heap.size = bB := ⟨_, rfl⟩
            rw [hbB] at z8 ha7 hs7
            have n3 : ¬ (sB = bB) := by omega
            have n4 : ¬ (bB = sB) := by omega
            have n5 : ¬ (aB = bB) := by omega
            have n6 : ¬ (bB = aB) := by omega
            obtain ⟨m0, m1, m2, m3, m4, m5⟩ := a7.cells
            dsimp only at m0 m1 m2 m3 m4 m5
            clear d0 d1 d2 d3 d4 d5 d6
            obtain ⟨d0, d1, d2, d3, d4, d5, d6⟩ := s7.cells
            dsimp only at d0 d1 d2 d3 d4 d5 d6
            clear Q6 A6 S6 a7 s7 z7 f7

            have hT : s2.length ≤ 1000 := by obtain ⟨F0, hF0⟩ := z8.seeP; have := (ksrt hF0).2; omega
            obtain ⟨F1, hF1⟩ := z8.seeP
            obtain ⟨F2, hF2⟩ := z8.seeQ
            have N1 := klen hF1
            have N2 := hlen hF2
            have L1 := klist hF1
            have TA : Aside _ := z8
            clear z8 hF1 hF2
            go_wp2_with fail
            refine N1.mono ?_
            rintro e wN ⟨rfl, hwN⟩
            have hwN' := hwN.symm
            subst hwN'
            clear hwN N1
            go_wp2_with fail
            refine N2.mono ?_
            rintro e wN ⟨rfl, hwN⟩
            have hwN' := hwN.symm
            subst hwN'
            clear hwN N2
            go_wp2_with fail
            refine L1.mono ?_
            rintro e wL ⟨aL, cL, rfl, oL, bL⟩
            have T2 := L2.below TA.out (thK _ _ _ _) (thQ _ _ _) bL
            obtain ⟨F3, hF3⟩ := T2.seeQ
            have L2' := hlist hF3
            clear L1 bL hF3
            go_wp2_with fail
            refine L2'.mono ?_
            rintro e wM ⟨aM, cM, rfl, oM, bM⟩
            have T3 := T2.below (thK _ _ _ _) (thQ _ _ _) bM
            have S3 := same_any (own_below oL bM) oM hT
            clear L2' bM T2 oL oM
            go_wp2_with fail
            refine S3.mono ?_
            rintro e wS ⟨rfl, bS⟩
            have T5 : Aside _ := T3.below (thK _ _ _ _) (thQ _ _ _) bS
            clear S3 bS T3 TA
            go_wp2_with fail
            go_roundw
            case rel => exact ⟨k + 1, s2, by omega, by go_num, L2.fewer T5.out (fun k g => g.elim)⟩
            case measure => simp [intOf]; omega
          · subst k1

            have g0 : ((1 : Int) == 0) = false := by decide
            obtain ⟨d0, d1, d2, d3, d4, d5, d6⟩ := bx.cells
            dsimp only at d0 d1 d2 d3 d4 d5 d6
            have ZZ : Aside _ := zz
            have BX : Aside _ := bx
            clear zz bx
            go_wp2_with fail
            go_quiet (fail)
            obtain ⟨w3, hw3⟩ : ∃ w3, World.drewN (World.alloc wr (Obj.cells #[.int .i64 1, .int .i64 1125899906842624, .int .i64 b2, .int .i64 b3, .int .i64 b4, .int .i64 b5, .int .i64 b6] 34)) nq = w3 := ⟨_, rfl⟩
            have z3 := L2.below ZZ.out (thK _ _ _ _) (thQ _ _ _) (bdrew _ nq)
            have s3 := BoxS.below BX.out (bdrew _ nq)
            rw [hw3] at z3 s3 ⊢
            clear hw3 ZZ BX d0 d1 d2 d3 d4 d5 d6
            obtain ⟨d0, d1, d2, d3, d4, d5, d6⟩ := s3.cells
            dsimp only at d0 d1 d2 d3 d4 d5 d6

            have Q1 := z3.callP (thQ _ _ _) (fun F hF => kpop hF)
            have Q2 := fun (Z : Nat → Prop) (W : World) (hW : L2 w W Z (PK pb 64 e1 s.tail) (PQ qb 64 s)) => hW.callQ (thK _ _ _ _) (fun F hF => hpop hF)
            obtain ⟨y, hy⟩ : ∃ y, s.headD zeroM = y := ⟨_, rfl⟩
            obtain ⟨ob, hob⟩ : ∃ ob, (!s.isEmpty) = ob := ⟨_, rfl⟩
            obtain ⟨s2, hs2⟩ : ∃ s2, s.tail = s2 := ⟨_, rfl⟩
            rw [hy, hob, hs2] at Q1
            simp only [hy, hob, hs2] at Q2
            obtain ⟨⟨y1, y2, y3⟩, y4, y5, y6⟩ := y
            dsimp only [mv, kv] at Q1 Q2
            have QA : Aside _ := Q2
            have SA : Aside _ := s3
            clear Q2 hy hob hs2 z3 s3
            go_wp2_with fail
            refine Q1.mono ?_
            rintro e w5 ⟨rfl, z5, f5⟩
            have s5 := BoxS.keep SA.out f5 (fun g => g (.inr rfl))
            have z6 := z5.more (thK _ _ _ _) (thQ _ _ _) (.cells #[.int .i64 y1, .int .i64 y2, .int .i64 y3, .int .i64 y4, .int .i64 y5, .int .i64 y6] 32)
            have s6 := s5.below ((Below.refl _ w5).alloc (Nat.le_refl _) (.cells #[.int .i64 y1, .int .i64 y2, .int .i64 y3, .int .i64 y4, .int .i64 y5, .int .i64 y6] 32))
            have hs6 := s5.lt
            have a6 := BoxM.made w5 ((y1, y2, y3), y4, y5, y6)
            dsimp only at a6
            obtain ⟨aB, haB⟩ : ∃ aB, w5.heap.size = aB := ⟨_, rfl⟩
            rw [haB] at z6 a6 hs6
            have Q6 := QA.out _ _ z6
            have A6 : Aside _ := a6
            have S6 : Aside _ := s6
            clear d0 d1 d2 d3 d4 d5 d6
            obtain ⟨d0, d1, d2, d3, d4, d5, d6⟩ := s5.cells
            dsimp only at d0 d1 d2 d3 d4 d5 d6
            have n1 : ¬ (sB = aB) := by omega
            have n2 : ¬ (aB = sB) := by omega
            clear Q1 QA z5 f5 z6 a6 s5 s6 SA
            go_wp2_with fail
            refine Q6.mono ?_
            rintro e w7 ⟨rfl, z7, f7⟩
            have a7 := BoxM.keep A6.out f7 (fun g => g (.inr rfl))
            have s7 := BoxS.keep S6.out f7 (fun g => g (.inl (.inr rfl)))
            have z8 := z7.more (thK _ _ _ _) (thQ _ _ _) (.cells #[.int .i64 y1, .int .i64 y2, .int .i64 y3, .int .i64 y4, .int .i64 y5, .int .i64 y6] 32)
            have ha7 := a7.lt
            have hs7 := s7.lt
            obtain ⟨bB, hbB⟩ : ∃ bB, w7.heap.size = bB := ⟨_, rfl⟩
            rw [hbB] at z8 ha7 hs7
            have n3 : ¬ (sB = bB) := by omega
            have n4 : ¬ (bB = sB) := by omega
            have n5 : ¬ (aB = bB) := by omega
            have n6 : ¬ (bB = aB) := by omega
            obtain ⟨m0, m1, m2, m3, m4, m5⟩ := a7.cells
            dsimp only at m0 m1 m2 m3 m4 m5
            clear d0 d1 d2 d3 d4 d5 d6
            obtain ⟨d0, d1, d2, d3, d4, d5, d6⟩ := s7.cells
            dsimp only at d0 d1 d2 d3 d4 d5 d6
            clear Q6 A6 S6 a7 s7 z7 f7

            have hT : s2.length ≤ 1000 := by obtain ⟨F0, hF0⟩ := z8.seeP; have := (ksrt hF0).2; omega
            obtain ⟨F1, hF1⟩ := z8.seeP
            obtain ⟨F2, hF2⟩ := z8.seeQ
            have N1 := klen hF1
            have N2 := hlen hF2
            have L1 := klist hF1
            have TA : Aside _ := z8
            clear z8 hF1 hF2
            go_wp2_with fail
            refine N1.mono ?_
            rintro e wN ⟨rfl, hwN⟩
            have hwN' := hwN.symm
            subst hwN'
            clear hwN N1
            go_wp2_with fail
            refine N2.mono ?_
            rintro e wN ⟨rfl, hwN⟩
            have hwN' := hwN.symm
            subst hwN'
            clear hwN N2
            go_wp2_with fail
            refine L1.mono ?_
            rintro e wL ⟨aL, cL, rfl, oL, bL⟩
            have T2 := L2.below TA.out (thK _ _ _ _) (thQ _ _ _) bL
            obtain ⟨F3, hF3⟩ := T2.seeQ
            have L2' := hlist hF3
            clear L1 bL hF3
            go_wp2_with fail
            refine L2'.mono ?_
            rintro e wM ⟨aM, cM, rfl, oM, bM⟩
            have T3 := T2.below (thK _ _ _ _) (thQ _ _ _) bM
            have S3 := same_any (own_below oL bM) oM hT
            clear L2' bM T2 oL oM
            go_wp2_with fail
            refine S3.mono ?_
            rintro e wS ⟨rfl, bS⟩
            have T5 : Aside _ := T3.below (thK _ _ _ _) (thQ _ _ _) bS
            clear S3 bS T3 TA
            go_wp2_with fail
            go_roundw
            case rel => exact ⟨k + 1, s2, by omega, by go_num, L2.fewer T5.out (fun k g => g.elim)⟩
            case measure => simp [intOf]; omega
        by_cases k3 : kd = 3
        · rcases hcase with t2 | rfl
          · subst k3

            have g0 : ((3 : Int) == 0) = false := by decide
            obtain ⟨d0, d1, d2, d3, d4, d5, d6⟩ := bx.cells
            dsimp only at d0 d1 d2 d3 d4 d5 d6
            have ZZ : Aside _ := zz
            have BX : Aside _ := bx
            clear zz bx
            go_wp2_with fail
            go_quiet (fail)
            obtain ⟨w3, hw3⟩ : ∃ w3, World.drewN (World.alloc wr (Obj.cells #[.int .i64 3, .int .i64 b1, .int .i64 b2, .int .i64 b3, .int .i64 b4, .int .i64 b5, .int .i64 b6] 34)) nq = w3 := ⟨_, rfl⟩
            have z3 := L2.below ZZ.out (thK _ _ _ _) (thQ _ _ _) (bdrew _ nq)
            have s3 := BoxS.below BX.out (bdrew _ nq)
            rw [hw3] at z3 s3 ⊢
            clear hw3 ZZ BX d0 d1 d2 d3 d4 d5 d6
            obtain ⟨d0, d1, d2, d3, d4, d5, d6⟩ := s3.cells
            dsimp only at d0 d1 d2 d3 d4 d5 d6

            have Q1 := z3.callP (thQ _ _ _) (fun F hF => kremove hF (b1, b2, b3))
            have Q2 := fun (Z : Nat → Prop) (W : World) (hW : L2 w W Z (PK pb 64 e1 (del s (b1, b2, b3))) (PQ qb 64 s)) => hW.callQ (thK _ _ _ _) (fun F hF => hremove hF (b1, b2, b3) hxw.2.1)
            obtain ⟨y, hy⟩ : ∃ y, fnd s (b1, b2, b3) = y := ⟨_, rfl⟩
            obtain ⟨ob, hob⟩ : ∃ ob, hasK s (b1, b2, b3) = ob := ⟨_, rfl⟩
            obtain ⟨s2, hs2⟩ : ∃ s2, (del s (b1, b2, b3)) = s2 := ⟨_, rfl⟩
            rw [hy, hob, hs2] at Q1
            simp only [hy, hob, hs2] at Q2
            obtain ⟨⟨y1, y2, y3⟩, y4, y5, y6⟩ := y
            dsimp only [mv, kv] at Q1 Q2
            have QA : Aside _ := Q2
            have SA : Aside _ := s3
            clear Q2 hy hob hs2 z3 s3
            go_wp2_with fail
            refine Q1.mono ?_
            rintro e w5 ⟨rfl, z5, f5⟩
            have s5 := BoxS.keep SA.out f5 (fun g => g (.inr rfl))
            have z6 := z5.more (thK _ _ _ _) (thQ _ _ _) (.cells #[.int .i64 y1, .int .i64 y2, .int .i64 y3, .int .i64 y4, .int .i64 y5, .int .i64 y6] 32)
            have s6 := s5.below ((Below.refl _ w5).alloc (Nat.le_refl _) (.cells #[.int .i64 y1, .int .i64 y2, .int .i64 y3, .int .i64 y4, .int .i64 y5, .int .i64 y6] 32))
            have hs6 := s5.lt
            have a6 := BoxM.made w5 ((y1, y2, y3), y4, y5, y6)
            dsimp only at a6
            obtain ⟨aB, haB⟩ : ∃ aB, w5.heap.size = aB := ⟨_, rfl⟩
            rw [haB] at z6 a6 hs6
            have Q6 := QA.out _ _ z6
            have A6 : Aside _ := a6
            have S6 : Aside _ := s6
            clear d0 d1 d2 d3 d4 d5 d6
            obtain ⟨d0, d1, d2, d3, d4, d5, d6⟩ := s5.cells
            dsimp only at d0 d1 d2 d3 d4 d5 d6
            have n1 : ¬ (sB = aB) := by omega
            have n2 : ¬ (aB = sB) := by omega
            clear Q1 QA z5 f5 z6 a6 s5 s6 SA
            go_wp2_with fail
            refine Q6.mono ?_
            rintro e w7 ⟨rfl, z7, f7⟩
            have a7 := BoxM.keep A6.out f7 (fun g => g (.inr rfl))
            have s7 := BoxS.keep S6.out f7 (fun g => g (.inl (.inr rfl)))
            have z8 := z7.more (thK _ _ _ _) (thQ _ _ _) (.cells #[.int .i64 y1, .int .i64 y2, .int .i64 y3, .int .i64 y4, .int .i64 y5, .int .i64 y6] 32)
            have ha7 := a7.lt
            have hs7 := s7.lt
            obtain ⟨bB, hbB⟩ : ∃ bB, w7.heap.size = bB := ⟨_, rfl⟩
            rw [hbB] at z8 ha7 hs7
            have n3 : ¬ (sB = bB) := by omega
            have n4 : ¬ (bB = sB) := by omega
            have n5 : ¬ (aB = bB) := by omega
            have n6 : ¬ (bB = aB) := by omega
            obtain ⟨m0, m1, m2, m3, m4, m5⟩ := a7.cells
            dsimp only at m0 m1 m2 m3 m4 m5
            clear d0 d1 d2 d3 d4 d5 d6
            obtain ⟨d0, d1, d2, d3, d4, d5, d6⟩ := s7.cells
            dsimp only at d0 d1 d2 d3 d4 d5 d6
            clear Q6 A6 S6 a7 s7 z7 f7

            have hT : s2.length ≤ 1000 := by obtain ⟨F0, hF0⟩ := z8.seeP; have := (ksrt hF0).2; omega
            obtain ⟨F1, hF1⟩ := z8.seeP
            obtain ⟨F2, hF2⟩ := z8.seeQ
            have N1 := klen hF1
            have N2 := hlen hF2
            have L1 := klist hF1
            have TA : Aside _ := z8
            clear z8 hF1 hF2
            go_wp2_with fail
            refine N1.mono ?_
            rintro e wN ⟨rfl, hwN⟩
            have hwN' := hwN.symm
            subst hwN'
            clear hwN N1
            go_wp2_with fail
            refine N2.mono ?_
            rintro e wN ⟨rfl, hwN⟩
            have hwN' := hwN.symm
            subst hwN'
            clear hwN N2
            go_wp2_with fail
            refine L1.mono ?_
            rintro e wL ⟨aL, cL, rfl, oL, bL⟩
            have T2 := L2.below TA.out (thK _ _ _ _) (thQ _ _ _) bL
            obtain ⟨F3, hF3⟩ := T2.seeQ
            have L2' := hlist hF3
            clear L1 bL hF3
            go_wp2_with fail
            refine L2'.mono ?_
            rintro e wM ⟨aM, cM, rfl, oM, bM⟩
            have T3 := T2.below (thK _ _ _ _) (thQ _ _ _) bM
            have S3 := same_any (own_below oL bM) oM hT
            clear L2' bM T2 oL oM
            go_wp2_with fail
            refine S3.mono ?_
            rintro e wS ⟨rfl, bS⟩
            have T5 : Aside _ := T3.below (thK _ _ _ _) (thQ _ _ _) bS
            clear S3 bS T3 TA
            go_wp2_with fail
            go_roundw
            case rel => exact ⟨k + 1, s2, by omega, by go_num, L2.fewer T5.out (fun k g => g.elim)⟩
            case measure => simp [intOf]; omega
          · subst k3

            have g0 : ((3 : Int) == 0) = false := by decide
            obtain ⟨d0, d1, d2, d3, d4, d5, d6⟩ := bx.cells
            dsimp only at d0 d1 d2 d3 d4 d5 d6
            have ZZ : Aside _ := zz
            have BX : Aside _ := bx
            clear zz bx
            go_wp2_with fail
            go_quiet (fail)
            obtain ⟨w3, hw3⟩ : ∃ w3, World.drewN (World.alloc wr (Obj.cells #[.int .i64 3, .int .i64 1125899906842624, .int .i64 b2, .int .i64 b3, .int .i64 b4, .int .i64 b5, .int .i64 b6] 34)) nq = w3 := ⟨_, rfl⟩
            have z3 := L2.below ZZ.out (thK _ _ _ _) (thQ _ _ _) (bdrew _ nq)
            have s3 := BoxS.below BX.out (bdrew _ nq)
            rw [hw3] at z3 s3 ⊢
            clear hw3 ZZ BX d0 d1 d2 d3 d4 d5 d6
            obtain ⟨d0, d1, d2, d3, d4, d5, d6⟩ := s3.cells
            dsimp only at d0 d1 d2 d3 d4 d5 d6

            have Q1 := z3.callP (thQ _ _ _) (fun F hF => kremove hF (1125899906842624, b2, b3))
            have Q2 := fun (Z : Nat → Prop) (W : World) (hW : L2 w W Z (PK pb 64 e1 (del s (1125899906842624, b2, b3))) (PQ qb 64 s)) => hW.callQ (thK _ _ _ _) (fun F hF => hremove hF (1125899906842624, b2, b3) hxw.2.1)
            obtain ⟨y, hy⟩ : ∃ y, fnd s (1125899906842624, b2, b3) = y := ⟨_, rfl⟩
            obtain ⟨ob, hob⟩ : ∃ ob, hasK s (1125899906842624, b2, b3) = ob := ⟨_, rfl⟩
            obtain ⟨s2, hs2⟩ : ∃ s2, (del s (1125899906842624, b2, b3)) = s2 := ⟨_, rfl⟩
            rw [hy, hob, hs2] at Q1
            simp only [hy, hob, hs2] at Q2
            obtain ⟨⟨y1, y2, y3⟩, y4, y5, y6⟩ := y
            dsimp only [mv, kv] at Q1 Q2
            have QA : Aside _ := Q2
            have SA : Aside _ := s3
            clear Q2 hy hob hs2 z3 s3
            go_wp2_with fail
            refine Q1.mono ?_
            rintro e w5 ⟨rfl, z5, f5⟩
            have s5 := BoxS.keep SA.out f5 (fun g => g (.inr rfl))
            have z6 := z5.more (thK _ _ _ _) (thQ _ _ _) (.cells #[.int .i64 y1, .int .i64 y2, .int .i64 y3, .int .i64 y4, .int .i64 y5, .int .i64 y6] 32)
            have s6 := s5.below ((Below.refl _ w5).alloc (Nat.le_refl _) (.cells #[.int .i64 y1, .int .i64 y2, .int .i64 y3, .int .i64 y4, .int .i64 y5, .int .i64 y6] 32))
            have hs6 := s5.lt
            have a6 := BoxM.made w5 ((y1, y2, y3), y4, y5, y6)
            dsimp only at a6
            obtain ⟨aB, haB⟩ : ∃ aB, w5.heap.size = aB := ⟨_, rfl⟩
            rw [haB] at z6 a6 hs6
            have Q6 := QA.out _ _ z6
            have A6 : Aside _ := a6
            have S6 : Aside _ := s6
            clear d0 d1 d2 d3 d4 d5 d6
            obtain ⟨d0, d1, d2, d3, d4, d5, d6⟩ := s5.cells
            dsimp only at d0 d1 d2 d3 d4 d5 d6
            have n1 : ¬ (sB = aB) := by omega
            have n2 : ¬ (aB = sB) := by omega
            clear Q1 QA z5 f5 z6 a6 s5 s6 SA
            go_wp2_with fail
            refine Q6.mono ?_
            rintro e w7 ⟨rfl, z7, f7⟩
            have a7 := BoxM.keep A6.out f7 (fun g => g (.inr rfl))
            have s7 := BoxS.keep S6.out f7 (fun g => g (.inl (.inr rfl)))
            have z8 := z7.more (thK _ _ _ _) (thQ _ _ _) (.cells #[.int .i64 y1, .int .i64 y2, .int .i64 y3, .int .i64 y4, .int .i64 y5, .int .i64 y6] 32)
            have ha7 := a7.lt
            have hs7 := s7.lt
            obtain ⟨bB, hbB⟩ : ∃ bB, w7.heap.size = bB := ⟨_, rfl⟩
            rw [hbB] at z8 ha7 hs7
            have n3 : ¬ (sB = bB) := by omega
            have n4 : ¬ (bB = sB) := by omega
            have n5 : ¬ (aB = bB) := by omega
            have n6 : ¬ (bB = aB) := by omega
            obtain ⟨m0, m1, m2, m3, m4, m5⟩ := a7.cells
            dsimp only at m0 m1 m2 m3 m4 m5
            clear d0 d1 d2 d3 d4 d5 d6
            obtain ⟨d0, d1, d2, d3, d4, d5, d6⟩ := s7.cells
            dsimp only at d0 d1 d2 d3 d4 d5 d6
            clear Q6 A6 S6 a7 s7 z7 f7

            have hT : s2.length ≤ 1000 := by obtain ⟨F0, hF0⟩ := z8.seeP; have := (ksrt hF0).2; omega
            obtain ⟨F1, hF1⟩ := z8.seeP
            obtain ⟨F2, hF2⟩ := z8.seeQ
            have N1 := klen hF1
            have N2 := hlen hF2
            have L1 := klist hF1
            have TA : Aside _ := z8
            clear z8 hF1 hF2
            go_wp2_with fail
            refine N1.mono ?_
            rintro e wN ⟨rfl, hwN⟩
            have hwN' := hwN.symm
            subst hwN'
            clear hwN N1
            go_wp2_with fail
            refine N2.mono ?_
            rintro e wN ⟨rfl, hwN⟩
            have hwN' := hwN.symm
            subst hwN'
            clear hwN N2
            go_wp2_with fail
            refine L1.mono ?_
            rintro e wL ⟨aL, cL, rfl, oL, bL⟩
            have T2 := L2.below TA.out (thK _ _ _ _) (thQ _ _ _) bL
            obtain ⟨F3, hF3⟩ := T2.seeQ
            have L2' := hlist hF3
            clear L1 bL hF3
            go_wp2_with fail
            refine L2'.mono ?_
            rintro e wM ⟨aM, cM, rfl, oM, bM⟩
            have T3 := T2.below (thK _ _ _ _) (thQ _ _ _) bM
            have S3 := same_any (own_below oL bM) oM hT
            clear L2' bM T2 oL oM
            go_wp2_with fail
            refine S3.mono ?_
            rintro e wS ⟨rfl, bS⟩
            have T5 : Aside _ := T3.below (thK _ _ _ _) (thQ _ _ _) bS
            clear S3 bS T3 TA
            go_wp2_with fail
            go_roundw
            case rel => exact ⟨k + 1, s2, by omega, by go_num, L2.fewer T5.out (fun k g => g.elim)⟩
            case measure => simp [intOf]; omega
        · rcases hcase with t2 | rfl
          · have g0 : ((kd : Int) == 0) = false := by simpa using k0
            obtain ⟨d0, d1, d2, d3, d4, d5, d6⟩ := bx.cells
            dsimp only at d0 d1 d2 d3 d4 d5 d6
            have ZZ : Aside _ := zz
            have BX : Aside _ := bx
            clear zz bx
            go_wp2_with fail
            go_quiet (fail)
            obtain ⟨w3, hw3⟩ : ∃ w3, World.drewN (World.alloc wr (Obj.cells #[.int .i64 kd, .int .i64 b1, .int .i64 b2, .int .i64 b3, .int .i64 b4, .int .i64 b5, .int .i64 b6] 34)) nq = w3 := ⟨_, rfl⟩
            have z3 := L2.below ZZ.out (thK _ _ _ _) (thQ _ _ _) (bdrew _ nq)
            have s3 := BoxS.below BX.out (bdrew _ nq)
            rw [hw3] at z3 s3 ⊢
            clear hw3 ZZ BX d0 d1 d2 d3 d4 d5 d6
            obtain ⟨d0, d1, d2, d3, d4, d5, d6⟩ := s3.cells
            dsimp only at d0 d1 d2 d3 d4 d5 d6

            have g1 : (kd == 1) = false := by simpa using k1
            have g3 : (kd == 3) = false := by simpa using k3

            have hT : s.length ≤ 1000 := by obtain ⟨F0, hF0⟩ := z3.seeP; have := (ksrt hF0).2; omega
            obtain ⟨F1, hF1⟩ := z3.seeP
            obtain ⟨F2, hF2⟩ := z3.seeQ
            have N1 := klen hF1
            have N2 := hlen hF2
            have L1 := klist hF1
            have TA : Aside _ := z3
            clear z3 hF1 hF2
            go_wp2_with fail
            refine N1.mono ?_
            rintro e wN ⟨rfl, hwN⟩
            have hwN' := hwN.symm
            subst hwN'
            clear hwN N1
            go_wp2_with fail
            refine N2.mono ?_
            rintro e wN ⟨rfl, hwN⟩
            have hwN' := hwN.symm
            subst hwN'
            clear hwN N2
            go_wp2_with fail
            refine L1.mono ?_
            rintro e wL ⟨aL, cL, rfl, oL, bL⟩
            have T2 := L2.below TA.out (thK _ _ _ _) (thQ _ _ _) bL
            obtain ⟨F3, hF3⟩ := T2.seeQ
            have L2' := hlist hF3
            clear L1 bL hF3
            go_wp2_with fail
            refine L2'.mono ?_
            rintro e wM ⟨aM, cM, rfl, oM, bM⟩
            have T3 := T2.below (thK _ _ _ _) (thQ _ _ _) bM
            have S3 := same_any (own_below oL bM) oM hT
            clear L2' bM T2 oL oM
            go_wp2_with fail
            refine S3.mono ?_
            rintro e wS ⟨rfl, bS⟩
            have T5 : Aside _ := T3.below (thK _ _ _ _) (thQ _ _ _) bS
            clear S3 bS T3 TA
            go_wp2_with fail
            go_roundw
            case rel => exact ⟨k + 1, s, by omega, by go_num, L2.fewer T5.out (fun k g => g.elim)⟩
            case measure => simp [intOf]; omega
          · have g0 : ((kd : Int) == 0) = false := by simpa using k0
            obtain ⟨d0, d1, d2, d3, d4, d5, d6⟩ := bx.cells
            dsimp only at d0 d1 d2 d3 d4 d5 d6
            have ZZ : Aside _ := zz
            have BX : Aside _ := bx
            clear zz bx
            go_wp2_with fail
            go_quiet (fail)
            obtain ⟨w3, hw3⟩ : ∃ w3, World.drewN (World.alloc wr (Obj.cells #[.int .i64 kd, .int .i64 1125899906842624, .int .i64 b2, .int .i64 b3, .int .i64 b4, .int .i64 b5, .int .i64 b6] 34)) nq = w3 := ⟨_, rfl⟩
            have z3 := L2.below ZZ.out (thK _ _ _ _) (thQ _ _ _) (bdrew _ nq)
            have s3 := BoxS.below BX.out (bdrew _ nq)
            rw [hw3] at z3 s3 ⊢
            clear hw3 ZZ BX d0 d1 d2 d3 d4 d5 d6
            obtain ⟨d0, d1, d2, d3, d4, d5, d6⟩ := s3.cells
            dsimp only at d0 d1 d2 d3 d4 d5 d6

            have g1 : (kd == 1) = false := by simpa using k1
            have g3 : (kd == 3) = false := by simpa using k3

            have hT : s.length ≤ 1000 := by obtain ⟨F0, hF0⟩ := z3.seeP; have := (ksrt hF0).2; omega
            obtain ⟨F1, hF1⟩ := z3.seeP
            obtain ⟨F2, hF2⟩ := z3.seeQ
            have N1 := klen hF1
            have N2 := hlen hF2
            have L1 := klist hF1
            have TA : Aside _ := z3
            clear z3 hF1 hF2
            go_wp2_with fail
            refine N1.mono ?_
            rintro e wN ⟨rfl, hwN⟩
            have hwN' := hwN.symm
            subst hwN'
            clear hwN N1
            go_wp2_with fail
            refine N2.mono ?_
            rintro e wN ⟨rfl, hwN⟩
            have hwN' := hwN.symm
            subst hwN'
            clear hwN N2
            go_wp2_with fail
            refine L1.mono ?_
            rintro e wL ⟨aL, cL, rfl, oL, bL⟩
            have T2 := L2.below TA.out (thK _ _ _ _) (thQ _ _ _) bL
            obtain ⟨F3, hF3⟩ := T2.seeQ
            have L2' := hlist hF3
            clear L1 bL hF3
            go_wp2_with fail
            refine L2'.mono ?_
            rintro e wM ⟨aM, cM, rfl, oM, bM⟩
            have T3 := T2.below (thK _ _ _ _) (thQ _ _ _) bM
            have S3 := same_any (own_below oL bM) oM hT
            clear L2' bM T2 oL oM
            go_wp2_with fail
            refine S3.mono ?_
            rintro e wS ⟨rfl, bS⟩
            have T5 : Aside _ := T3.below (thK _ _ _ _) (thQ _ _ _) bS
            clear S3 bS T3 TA
            go_wp2_with fail
            go_roundw
            case rel => exact ⟨k + 1, s, by omega, by go_num, L2.fewer T5.out (fun k g => g.elim)⟩
            case measure => simp [intOf]; omega
      · have hkd : k = n := by omega
        subst hkd
        have hgt : ¬ ((k : Int) < (k : Int)) := by omega
        have P1 := hq.callP (thQ _ _ _) (fun F hF => kpush hF ((-1, 0, 0), 0, 0, 0))
        rw [cpush_neg] at P1
        dsimp only [mv] at P1
        clear h
        go_wp2_with fail
        refine P1.mono ?_
        rintro e w3 ⟨rfl, z3, f3⟩
        have HB : Aside _ := z3.bel
        clear P1 z3 f3 hq
        go_wp2_with fail
        go_ret
        exact ⟨rfl, HB.out⟩
end Go.Proofs.Ytjkcdkoomipfkaa
