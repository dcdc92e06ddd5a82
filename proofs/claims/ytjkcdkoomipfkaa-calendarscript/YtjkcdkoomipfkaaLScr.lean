/- Proved: the walk of the law CalendarScript. -/
import Derived.Test.YtjkcdkoomipfkaaLScr0
import Derived.Deep.RegionHeld3
namespace Go.Proofs.Ytjkcdkoomipfkaa
open Go.RowKit Go.Sort Go.Lib
set_option linter.unusedVariables false

set_option maxRecDepth 100000 in
set_option maxHeartbeats 16000000 in
theorem cscript_walk (w : World) (r : Int) (hr : i64 r) (r1 : Int) (hr1 : i64 r1) (a : Option Addr) (n c : Nat) (l : List St) (hn : n ≤ maxLen) (h : InS w a n l) :
    Calls Try.prog 3 #[.int .i64 r, .int .i64 r1, .slice a n c] w fun e w' => e = .returned (.bool true) ∧ Below w.heap.size w w' := by
  have mixed : Try.prog.follows .mixedOrders = true := by kernel_rfl
  unfold maxLen at hn
  by_cases hbig : 300 < n
  · have g : (300 : Int) < (n : Int) := by omega
    clear h
    go_enter Try.func3, Try.ntmps3
    go_wp2
    go_ret
    exact ⟨rfl, Below.refl _ _⟩
  · have g : ¬ (300 : Int) < (n : Int) := by omega
    have hl := h.1
    have NW := knew r r1 w hr hr1
    have NR := fun (W : World) => dnew r r1 W hr hr1
    obtain ⟨e1, he1⟩ : ∃ e1, clampD r1 = e1 := ⟨_, rfl⟩
    obtain ⟨room, hroom⟩ : ∃ room, clampR r = room := ⟨_, rfl⟩
    rw [he1, hroom] at NW
    simp only [he1, hroom] at NR
    have NA : Aside _ := NR
    clear NR he1 hroom
    go_enter Try.func3, Try.ntmps3
    go_wp2_with fail
    refine NW.mono ?_
    rintro e w1 ⟨pb, F1, rfl, h1, hF1, hb1⟩
    have R1 := NA.out w1
    clear NW NA
    go_wp2_with fail
    refine R1.mono ?_
    rintro e w2 ⟨db, rb, F2, rfl, h2, hF2, hb2⟩
    have h2' : L2 w w2 (fun _ => False) (PK pb room e1 []) (PD db rb room e1 []) := L2.start (thK _ _ _ _) h1 hF1 hb1 h2 hF2 hb2
    obtain ⟨F5, hF5⟩ := h2'.seeP
    have D0 := kdays' hF5
    have TA : Aside _ := h2'
    clear R1 h1 h2 hF1 hF2 hb1 hb2 hF5 h2'
    go_wp2_with fail
    refine D0.mono ?_
    rintro e w3 ⟨uB, rfl, rU, bD⟩
    have h3' : Aside _ := L2.below TA.out (thK _ _ _ _) (thD _ _ _ _ _) bD
    clear D0 rU bD TA
    go_wp2_with fail
    go_loopw [9] (fun si wr => ∃ (k : Nat) (s : List M), k ≤ n ∧ si = .int .i64 k ∧ L2 w wr (fun _ => False) (PK pb room e1 s) (PD db rb room e1 s)) (fun si _ => n - (intOf si).toNat)
    case atStart => exact ⟨0, [], Nat.zero_le _, rfl, h3'.out⟩
    case round =>
      clear h3'
      obtain ⟨k, s, hk, rfl, hq⟩ := hrel
      by_cases hlt : k < n
      · obtain ⟨x, hx⟩ : ∃ x, nthS l k = x := ⟨_, rfl⟩
        obtain ⟨b, off, rfl, x0, x1, x2, x3, x4, x5, x6⟩ := h.cells hq.bel (i := k) (by omega) hx
        have hlt' : (k : Int) < (n : Int) := by omega
        obtain ⟨kd, ⟨b1, b2, b3⟩, b4, b5, b6⟩ := x
        dsimp only at x0 x1 x2 x3 x4 x5 x6
        have zz := hq.more (thK _ _ _ _) (thD _ _ _ _ _) (.cells #[.int .i64 kd, .int .i64 b1, .int .i64 b2, .int .i64 b3, .int .i64 b4, .int .i64 b5, .int .i64 b6] 34)
        have bx := BoxS.made wr (kd, (b1, b2, b3), b4, b5, b6)
        dsimp only at bx
        obtain ⟨sB, hsB⟩ : ∃ sB, wr.heap.size = sB := ⟨_, rfl⟩
        rw [hsB] at zz bx
        clear hq hx h
        by_cases k0 : kd = 0
        · subst k0
          have zd := zz.below (thK _ _ _ _) (thD _ _ _ _ _) (Below.refl _ _).drew
          have bd := bx.below (Below.refl _ _).drew
          have P1 := zd.callP (thD _ _ _ _ _) (fun F hF => kpush hF ((b1, b2, b3), b4, b5, b6))
          have P2 := fun (W : World) (hW : L2 w W (fun k => False ∨ k = sB) (PK pb room e1 (cpushS s room ((b1, b2, b3), b4, b5, b6))) (PD db rb room e1 s)) => hW.callQ (thK _ _ _ _) (fun F hF => dpush hF ((b1, b2, b3), b4, b5, b6))
          obtain ⟨s2, hs2⟩ : ∃ s2, cpushS s room ((b1, b2, b3), b4, b5, b6) = s2 := ⟨_, rfl⟩
          obtain ⟨C1, hC1⟩ : ∃ C1, cpushC s room ((b1, b2, b3), b4, b5, b6) = C1 := ⟨_, rfl⟩
          rw [hs2, hC1] at P1
          simp only [hs2, hC1] at P2
          have P1' := P1.mono (R' := fun e w' => e = .returned (.int .i64 C1) ∧ L2 w w' (fun k => False ∨ k = sB) (PK pb room e1 s2) (PD db rb room e1 s) ∧ BoxS w' sB (0, ((b1, b2, b3), b4, b5, b6))) (fun e w' ⟨he, z', f'⟩ => ⟨he, z', bd.keep f' (fun g => g (.inr rfl))⟩)
          have P2' : ∀ W : World, L2 w W (fun k => False ∨ k = sB) (PK pb room e1 s2) (PD db rb room e1 s) → BoxS W sB (0, ((b1, b2, b3), b4, b5, b6)) → Calls Try.prog 12 #[.pointer (some ⟨db, 0, none⟩), mv ((b1, b2, b3), b4, b5, b6)] W fun e w' => e = .returned (.int .i64 C1) ∧ L2 w w' (fun k => False ∨ k = sB) (PK pb room e1 s2) (PD db rb room e1 s2) ∧ BoxS w' sB (0, ((b1, b2, b3), b4, b5, b6)) := fun W hW hb => (P2 W hW).mono fun e w' ⟨he, z', f'⟩ => ⟨he, z', hb.keep f' (fun g => g (.inr rfl))⟩
          have PP2 : Aside _ := P2'
          obtain ⟨d0, d1, d2, d3, d4, d5, d6⟩ := bx.cells
          dsimp only [mv] at P1' PP2 d0 d1 d2 d3 d4 d5 d6
          clear P1 P2 P2' hs2 hC1 zd bd bx zz
          go_wp2_with fail
          go_region_held3 (fun w' => w'.cell? ⟨sB, 1, none⟩ = some (.int .i64 b1) ∧ w'.cell? ⟨sB, 2, none⟩ = some (.int .i64 b2) ∧ w'.cell? ⟨sB, 3, none⟩ = some (.int .i64 b3) ∧ w'.cell? ⟨sB, 4, none⟩ = some (.int .i64 b4) ∧ w'.cell? ⟨sB, 5, none⟩ = some (.int .i64 b5) ∧ w'.cell? ⟨sB, 6, none⟩ = some (.int .i64 b6)) (go_keep) (first | (go_at_call 12; refine (PP2.out _ zA bA).mono ?_; rintro e wB ⟨rfl, zB, bB⟩; obtain ⟨f0, f1, f2, f3, f4, f5, f6⟩ := bB.cells; dsimp only at f0 f1 f2 f3 f4 f5 f6) | (go_at_call 11; refine P1'.mono ?_; rintro e wA ⟨rfl, zA, bA⟩; obtain ⟨e0, e1', e2', e3, e4, e5, e6⟩ := bA.cells; dsimp only at e0 e1' e2' e3 e4 e5 e6))
          clear P1' PP2

          have hT : s2.length ≤ 1000 := by obtain ⟨F0, hF0⟩ := zB.seeP; have := (ksrt hF0).2; omega
          obtain ⟨F1, hF1⟩ := zB.seeP
          have D1 := kdays' hF1
          have TA : Aside _ := zB
          clear zB hF1
          go_wp2_with fail
          refine D1.mono ?_
          rintro e wD ⟨uB, rfl, rU, bD⟩
          have T1 := L2.below TA.out (thK _ _ _ _) (thD _ _ _ _ _) bD
          obtain ⟨G1, hG1⟩ := T1.seeQ
          have D2 := ddays' hG1
          have RU : Aside _ := rU
          have TB : Aside _ := T1
          clear D1 bD hG1 TA T1 rU
          go_wp2_with fail
          refine D2.mono ?_
          rintro e wE ⟨vB, rfl, rV, bE⟩
          have T2 := L2.below TB.out (thK _ _ _ _) (thD _ _ _ _ _) bE
          have RU2 : Aside _ := row_below RU.out bE
          have RV : Aside _ := rV
          have zd := T2.below (thK _ _ _ _) (thD _ _ _ _ _) (Below.refl _ _).drew
          have c0 := T2.c0
          have c0d := zd.c0
          have hdl := cell_lt c0d
          obtain ⟨F3, hF3⟩ := zd.seeP
          obtain ⟨G3, hG3⟩ := zd.seeQ
          have N1 := klen hF3
          have N2 := dlen hG3
          have L1 := klist hF3
          have HL : Aside (∀ W', Below wE.drew.heap.size wE.drew W' → Calls Try.prog 26 #[.pointer (some ⟨rb, 0, none⟩)] W' fun e w' => ∃ a cap, e = .returned (.slice a s2.length cap) ∧ Own w' (.slice a s2.length cap) s2 ∧ Below W'.heap.size W' w') := fun W' hW' => by
            obtain ⟨G, hG⟩ := (zd.below (thK _ _ _ _) (thD _ _ _ _ _) hW').seeQ
            exact dlist hG
          have ZD : Aside _ := zd
          clear D2 bE T2 TB RU rV zd hF3 hG3
          go_wp2_with fail
          go_region_held3 (fun w' => w'.cell? ⟨db, 0, none⟩ = some (.pointer (some ⟨rb, 0, none⟩))) (go_keep) (first | (go_at_call 23; refine N1.mono ?_; rintro e wN ⟨rfl, hwN⟩; subst hwN) | (go_at_call 24; refine N2.mono ?_; rintro e wN2 ⟨rfl, hwN2⟩; subst hwN2) | (go_at_call 25; refine L1.mono ?_; rintro e wL ⟨aL, cL, rfl, oL, bL⟩; have cL0 := (bL.cell (p := ⟨db, 0, none⟩) hdl).trans c0d) | (go_at_call 26; refine Calls.mono (HL.out _ bL) ?_; rintro e wM ⟨aM, cM, rfl, oM, bM⟩; have cM0 := (bM.cell (p := ⟨db, 0, none⟩) (cell_lt cL0)).trans cL0) | (go_at_call 19; refine (same_any (own_below oL bM) oM hT).mono ?_; rintro e wS ⟨rfl, bS⟩; have cS0 := (bS.cell (p := ⟨db, 0, none⟩) (cell_lt cM0)).trans cM0))
          have T5 : Aside _ := ((L2.below ZD.out (thK _ _ _ _) (thD _ _ _ _ _) bL).below (thK _ _ _ _) (thD _ _ _ _ _) bM).below (thK _ _ _ _) (thD _ _ _ _ _) bS
          have bA : Below wE.heap.size wE wS := (((Below.refl wE.heap.size wE).drew).trans (bL.trans (bM.mono bL.size))).trans (bS.mono (Nat.le_trans bL.size bM.size))
          have RU3 : Aside _ := row_below RU2.out bA
          have RV3 : Aside _ := row_below RV.out bA
          clear N1 N2 L1 HL ZD oL oM bL bM bS bA RU2 RV cL0 cM0 cS0 c0 c0d hdl
          go_wp2_with fail
          go_loopw [17] (fun si wx => ∃ (j : Nat), j ≤ 8 ∧ si = .int .i64 j ∧ ∃ q, wx = wS.drewN q) (fun si _ => 8 - (intOf si).toNat)
          case atStart => exact ⟨0, Nat.zero_le _, rfl, 0, rfl⟩
          case round =>
            obtain ⟨j, hj, rfl, q, rfl⟩ := hrel
            by_cases hj8 : j < 8
            · have hj8' : (j : Int) < 8 := by omega
              have c1 := day_cell RU3.out hj8
              have c2 := day_cell RV3.out hj8
              obtain ⟨cn, hcn⟩ : ∃ cn, (pg e1 j s2).length = cn := ⟨_, rfl⟩
              rw [hcn] at c1 c2
              clear hcn
              go_wp2_with fail
              go_quiet (fail)
              go_wp2_with fail
              go_roundw
              case rel => exact ⟨j + 1, by omega, by go_num, _, rfl⟩
              case measure => simp [intOf]; omega
            · obtain rfl : j = 8 := by omega
              go_wp2_with fail
              go_roundw
              case rel => exact ⟨k + 1, s2, by omega, by go_num, L2.fewer (L2.below T5.out (thK _ _ _ _) (thD _ _ _ _ _) (bdrew _ q)) (fun k g => g.elim)⟩
              case measure => simp [intOf]; omega
        by_cases k1 : kd = 1
        · subst k1

          obtain ⟨F1, hF1⟩ := zz.seeP
          have FI := kfirst hF1
          have F2 := fun (Z : Nat → Prop) (W : World) (hW : L2 w W Z (PK pb room e1 s) (PD db rb room e1 s)) => (by obtain ⟨G, hG⟩ := hW.seeQ; exact dfirst hG : Calls Try.prog 14 #[.pointer (some ⟨rb, 0, none⟩)] W fun e w' => e = .returned (.tuple #[mv (s.headD zeroM), .bool (!s.isEmpty)]) ∧ Below W.heap.size W w')
          obtain ⟨y, hy⟩ : ∃ y, s.headD zeroM = y := ⟨_, rfl⟩
          obtain ⟨ob, hob⟩ : ∃ ob, (!s.isEmpty) = ob := ⟨_, rfl⟩
          rw [hy, hob] at FI
          simp only [hy, hob] at F2
          obtain ⟨⟨y1, y2, y3⟩, y4, y5, y6⟩ := y
          dsimp only [mv] at FI F2
          have FA : Aside _ := F2
          have ZZ : Aside _ := zz
          have BX : Aside _ := bx
          have HY : Hid _ := hy
          have HO : Hid _ := hob
          obtain ⟨d0, d1, d2, d3, d4, d5, d6⟩ := bx.cells
          dsimp only at d0 d1 d2 d3 d4 d5 d6
          clear F2 zz bx hy hob hF1
          go_wp2_with fail
          refine FI.mono ?_
          rintro e w3 ⟨rfl, bel3⟩
          have z3' := L2.below ZZ.out (thK _ _ _ _) (thD _ _ _ _ _) bel3
          have q3 := z3'.c0
          have hq3 := cell_lt q3
          have z3 := z3'.more (thK _ _ _ _) (thD _ _ _ _ _) (.cells #[.int .i64 y1, .int .i64 y2, .int .i64 y3, .int .i64 y4, .int .i64 y5, .int .i64 y6] 32)
          have s3 := BoxS.below BX.out bel3
          have hs3 := s3.lt
          have s3a := s3.below ((Below.refl _ w3).alloc (Nat.le_refl _) (.cells #[.int .i64 y1, .int .i64 y2, .int .i64 y3, .int .i64 y4, .int .i64 y5, .int .i64 y6] 32))
          have a3 := BoxM.made w3 ((y1, y2, y3), y4, y5, y6)
          dsimp only at a3
          obtain ⟨aB, haB⟩ : ∃ aB, w3.heap.size = aB := ⟨_, rfl⟩
          rw [haB] at z3 a3 hs3 hq3
          have p1 : ¬ (db = aB) := by omega
          have p2 : ¬ (aB = db) := by omega
          have F4 := FA.out _ _ z3
          have Z3 : Aside _ := z3
          have S3 : Aside _ := s3a
          have A3 : Aside _ := a3
          clear FI bel3 ZZ BX s3 s3a z3 a3 FA d0 d1 d2 d3 d4 d5 d6 x0 x1 x2 x3 x4 x5 x6 z3'
          go_wp2_with fail
          refine F4.mono ?_
          rintro e w4 ⟨rfl, bel4⟩
          have z4' := L2.below Z3.out (thK _ _ _ _) (thD _ _ _ _ _) bel4
          have q4 := z4'.c0
          have hq4 := cell_lt q4
          have z4 := z4'.more (thK _ _ _ _) (thD _ _ _ _ _) (.cells #[.int .i64 y1, .int .i64 y2, .int .i64 y3, .int .i64 y4, .int .i64 y5, .int .i64 y6] 32)
          have s4 := BoxS.below S3.out bel4
          have a4 := BoxM.below A3.out bel4
          have hs4 := s4.lt
          have ha4 := a4.lt
          have s4a := s4.below ((Below.refl _ w4).alloc (Nat.le_refl _) (.cells #[.int .i64 y1, .int .i64 y2, .int .i64 y3, .int .i64 y4, .int .i64 y5, .int .i64 y6] 32))
          have a4a := a4.below ((Below.refl _ w4).alloc (Nat.le_refl _) (.cells #[.int .i64 y1, .int .i64 y2, .int .i64 y3, .int .i64 y4, .int .i64 y5, .int .i64 y6] 32))
          have b4a := BoxM.made w4 ((y1, y2, y3), y4, y5, y6)
          dsimp only at b4a
          obtain ⟨bB, hbB⟩ : ∃ bB, w4.heap.size = bB := ⟨_, rfl⟩
          rw [hbB] at z4 b4a hs4 ha4 hq4
          have n1 : ¬ (sB = aB) := by omega
          have n2 : ¬ (aB = sB) := by omega
          have n3 : ¬ (sB = bB) := by omega
          have n4 : ¬ (bB = sB) := by omega
          have n5 : ¬ (aB = bB) := by omega
          have n6 : ¬ (bB = aB) := by omega
          have p3 : ¬ (db = bB) := by omega
          have p4 : ¬ (bB = db) := by omega
          obtain ⟨d0, d1, d2, d3, d4, d5, d6⟩ := s4.cells
          dsimp only at d0 d1 d2 d3 d4 d5 d6
          obtain ⟨m0, m1, m2, m3, m4, m5⟩ := a4.cells
          dsimp only at m0 m1 m2 m3 m4 m5
          clear F4 bel4 Z3 S3 A3 s4 a4 z4' q3

          have Q1 := z4.callP (thD _ _ _ _ _) (fun F hF => kpop hF)
          have Q2 := fun (Z : Nat → Prop) (W : World) (hW : L2 w W Z (PK pb room e1 s.tail) (PD db rb room e1 s)) => hW.callQ (thK _ _ _ _) (fun F hF => dpop hF)

          rw [HY.out, HO.out] at Q1
          simp only [HY.out, HO.out] at Q2

          obtain ⟨s2, hs2⟩ : ∃ s2, s.tail = s2 := ⟨_, rfl⟩
          rw [hs2] at Q1
          simp only [hs2] at Q2
          dsimp only [mv, kv] at Q1 Q2
          have QA : Aside _ := Q2
          have S4 : Aside _ := s4a
          have A4 : Aside _ := a4a
          have B4 : Aside _ := b4a
          clear Q2 hs2 s4a a4a b4a z4
          go_wp2_with fail
          refine Q1.mono ?_
          rintro e w5 ⟨rfl, z5, f5⟩
          have s5 := BoxS.keep S4.out f5 (fun g => g (.inl (.inl (.inr rfl))))
          have a5 := BoxM.keep A4.out f5 (fun g => g (.inl (.inr rfl)))
          have b5' := BoxM.keep B4.out f5 (fun g => g (.inr rfl))
          have q5 := z5.c0
          have z6 := z5.six (thK _ _ _ _) (thD _ _ _ _ _) (B := aB) (.inl (.inr rfl)) (.int .i64 y1) (.int .i64 y2) (.int .i64 y3) (.int .i64 y4) (.int .i64 y5) (.int .i64 y6)
          have f6 := fr6 w5 aB (.int .i64 y1) (.int .i64 y2) (.int .i64 y3) (.int .i64 y4) (.int .i64 y5) (.int .i64 y6)
          have s6 := s5.keep f6 n1
          have a6 := a5.put ((y1, y2, y3), y4, y5, y6)
          have b6' := b5'.keep f6 n6
          dsimp only at a6
          have S6 : Aside _ := s6
          have A6 : Aside _ := a6
          have B6 : Aside _ := b6'
          clear d0 d1 d2 d3 d4 d5 d6 m0 m1 m2 m3 m4 m5
          obtain ⟨d0, d1, d2, d3, d4, d5, d6⟩ := s5.cells
          dsimp only at d0 d1 d2 d3 d4 d5 d6
          obtain ⟨m0, m1, m2, m3, m4, m5⟩ := a5.cells
          dsimp only at m0 m1 m2 m3 m4 m5
          have fz := a5.2

          have Q6 := QA.out _ _ z6
          clear Q1 QA S4 A4 B4 s5 a5 b5' z5 f5 z6 f6 s6 a6 b6' q4
          go_wp2_with fail
          refine Q6.mono ?_
          rintro e w7 ⟨rfl, z7, f7⟩
          have s7 := BoxS.keep S6.out f7 (fun g => g (.inl (.inl (.inr rfl))))
          have a7 := BoxM.keep A6.out f7 (fun g => g (.inl (.inr rfl)))
          have b7 := BoxM.keep B6.out f7 (fun g => g (.inr rfl))
          have z8 := z7.six (thK _ _ _ _) (thD _ _ _ _ _) (B := bB) (.inr rfl) (.int .i64 y1) (.int .i64 y2) (.int .i64 y3) (.int .i64 y4) (.int .i64 y5) (.int .i64 y6)
          clear d0 d1 d2 d3 d4 d5 d6 m0 m1 m2 m3 m4 m5 fz q5
          obtain ⟨d0, d1, d2, d3, d4, d5, d6⟩ := s7.cells
          dsimp only at d0 d1 d2 d3 d4 d5 d6
          obtain ⟨m0, m1, m2, m3, m4, m5⟩ := a7.cells
          dsimp only at m0 m1 m2 m3 m4 m5
          obtain ⟨r0, r1, r2, r3, r4, r5⟩ := b7.cells
          dsimp only at r0 r1 r2 r3 r4 r5
          have fz := b7.2
          clear Q6 S6 A6 B6 s7 a7 b7 z7 f7

          have hT : s2.length ≤ 1000 := by obtain ⟨F0, hF0⟩ := z8.seeP; have := (ksrt hF0).2; omega
          obtain ⟨F1, hF1⟩ := z8.seeP
          have D1 := kdays' hF1
          have TA : Aside _ := z8
          clear z8 hF1
          go_wp2_with fail
          refine D1.mono ?_
          rintro e wD ⟨uB, rfl, rU, bD⟩
          have T1 := L2.below TA.out (thK _ _ _ _) (thD _ _ _ _ _) bD
          obtain ⟨G1, hG1⟩ := T1.seeQ
          have D2 := ddays' hG1
          have RU : Aside _ := rU
          have TB : Aside _ := T1
          clear D1 bD hG1 TA T1 rU
          go_wp2_with fail
          refine D2.mono ?_
          rintro e wE ⟨vB, rfl, rV, bE⟩
          have T2 := L2.below TB.out (thK _ _ _ _) (thD _ _ _ _ _) bE
          have RU2 : Aside _ := row_below RU.out bE
          have RV : Aside _ := rV
          have zd := T2.below (thK _ _ _ _) (thD _ _ _ _ _) (Below.refl _ _).drew
          have c0 := T2.c0
          have c0d := zd.c0
          have hdl := cell_lt c0d
          obtain ⟨F3, hF3⟩ := zd.seeP
          obtain ⟨G3, hG3⟩ := zd.seeQ
          have N1 := klen hF3
          have N2 := dlen hG3
          have L1 := klist hF3
          have HL : Aside (∀ W', Below wE.drew.heap.size wE.drew W' → Calls Try.prog 26 #[.pointer (some ⟨rb, 0, none⟩)] W' fun e w' => ∃ a cap, e = .returned (.slice a s2.length cap) ∧ Own w' (.slice a s2.length cap) s2 ∧ Below W'.heap.size W' w') := fun W' hW' => by
            obtain ⟨G, hG⟩ := (zd.below (thK _ _ _ _) (thD _ _ _ _ _) hW').seeQ
            exact dlist hG
          have ZD : Aside _ := zd
          clear D2 bE T2 TB RU rV zd hF3 hG3
          go_wp2_with fail
          go_region_held3 (fun w' => w'.cell? ⟨db, 0, none⟩ = some (.pointer (some ⟨rb, 0, none⟩))) (go_keep) (first | (go_at_call 23; refine N1.mono ?_; rintro e wN ⟨rfl, hwN⟩; subst hwN) | (go_at_call 24; refine N2.mono ?_; rintro e wN2 ⟨rfl, hwN2⟩; subst hwN2) | (go_at_call 25; refine L1.mono ?_; rintro e wL ⟨aL, cL, rfl, oL, bL⟩; have cL0 := (bL.cell (p := ⟨db, 0, none⟩) hdl).trans c0d) | (go_at_call 26; refine Calls.mono (HL.out _ bL) ?_; rintro e wM ⟨aM, cM, rfl, oM, bM⟩; have cM0 := (bM.cell (p := ⟨db, 0, none⟩) (cell_lt cL0)).trans cL0) | (go_at_call 19; refine (same_any (own_below oL bM) oM hT).mono ?_; rintro e wS ⟨rfl, bS⟩; have cS0 := (bS.cell (p := ⟨db, 0, none⟩) (cell_lt cM0)).trans cM0))
          have T5 : Aside _ := ((L2.below ZD.out (thK _ _ _ _) (thD _ _ _ _ _) bL).below (thK _ _ _ _) (thD _ _ _ _ _) bM).below (thK _ _ _ _) (thD _ _ _ _ _) bS
          have bA : Below wE.heap.size wE wS := (((Below.refl wE.heap.size wE).drew).trans (bL.trans (bM.mono bL.size))).trans (bS.mono (Nat.le_trans bL.size bM.size))
          have RU3 : Aside _ := row_below RU2.out bA
          have RV3 : Aside _ := row_below RV.out bA
          clear N1 N2 L1 HL ZD oL oM bL bM bS bA RU2 RV cL0 cM0 cS0 c0 c0d hdl
          go_wp2_with fail
          go_loopw [17] (fun si wx => ∃ (j : Nat), j ≤ 8 ∧ si = .int .i64 j ∧ ∃ q, wx = wS.drewN q) (fun si _ => 8 - (intOf si).toNat)
          case atStart => exact ⟨0, Nat.zero_le _, rfl, 0, rfl⟩
          case round =>
            obtain ⟨j, hj, rfl, q, rfl⟩ := hrel
            by_cases hj8 : j < 8
            · have hj8' : (j : Int) < 8 := by omega
              have c1 := day_cell RU3.out hj8
              have c2 := day_cell RV3.out hj8
              obtain ⟨cn, hcn⟩ : ∃ cn, (pg e1 j s2).length = cn := ⟨_, rfl⟩
              rw [hcn] at c1 c2
              clear hcn
              go_wp2_with fail
              go_quiet (fail)
              go_wp2_with fail
              go_roundw
              case rel => exact ⟨j + 1, by omega, by go_num, _, rfl⟩
              case measure => simp [intOf]; omega
            · obtain rfl : j = 8 := by omega
              go_wp2_with fail
              go_roundw
              case rel => exact ⟨k + 1, s2, by omega, by go_num, L2.fewer (L2.below T5.out (thK _ _ _ _) (thD _ _ _ _ _) (bdrew _ q)) (fun k g => g.elim)⟩
              case measure => simp [intOf]; omega
        by_cases k2 : kd = 2
        · subst k2

          obtain ⟨F1, hF1⟩ := zz.seeP
          have FI := kfirst hF1
          have F2 := fun (Z : Nat → Prop) (W : World) (hW : L2 w W Z (PK pb room e1 s) (PD db rb room e1 s)) => (by obtain ⟨G, hG⟩ := hW.seeQ; exact dfirst hG : Calls Try.prog 14 #[.pointer (some ⟨rb, 0, none⟩)] W fun e w' => e = .returned (.tuple #[mv (s.headD zeroM), .bool (!s.isEmpty)]) ∧ Below W.heap.size W w')
          obtain ⟨y, hy⟩ : ∃ y, s.headD zeroM = y := ⟨_, rfl⟩
          obtain ⟨ob, hob⟩ : ∃ ob, (!s.isEmpty) = ob := ⟨_, rfl⟩
          rw [hy, hob] at FI
          simp only [hy, hob] at F2
          obtain ⟨⟨y1, y2, y3⟩, y4, y5, y6⟩ := y
          dsimp only [mv] at FI F2
          have FA : Aside _ := F2
          have ZZ : Aside _ := zz
          have BX : Aside _ := bx
          have HY : Hid _ := hy
          have HO : Hid _ := hob
          obtain ⟨d0, d1, d2, d3, d4, d5, d6⟩ := bx.cells
          dsimp only at d0 d1 d2 d3 d4 d5 d6
          clear F2 zz bx hy hob hF1
          go_wp2_with fail
          refine FI.mono ?_
          rintro e w3 ⟨rfl, bel3⟩
          have z3' := L2.below ZZ.out (thK _ _ _ _) (thD _ _ _ _ _) bel3
          have q3 := z3'.c0
          have hq3 := cell_lt q3
          have z3 := z3'.more (thK _ _ _ _) (thD _ _ _ _ _) (.cells #[.int .i64 y1, .int .i64 y2, .int .i64 y3, .int .i64 y4, .int .i64 y5, .int .i64 y6] 32)
          have s3 := BoxS.below BX.out bel3
          have hs3 := s3.lt
          have s3a := s3.below ((Below.refl _ w3).alloc (Nat.le_refl _) (.cells #[.int .i64 y1, .int .i64 y2, .int .i64 y3, .int .i64 y4, .int .i64 y5, .int .i64 y6] 32))
          have a3 := BoxM.made w3 ((y1, y2, y3), y4, y5, y6)
          dsimp only at a3
          obtain ⟨aB, haB⟩ : ∃ aB, w3.heap.size = aB := ⟨_, rfl⟩
          rw [haB] at z3 a3 hs3 hq3
          have p1 : ¬ (db = aB) := by omega
          have p2 : ¬ (aB = db) := by omega
          have F4 := FA.out _ _ z3
          have Z3 : Aside _ := z3
          have S3 : Aside _ := s3a
          have A3 : Aside _ := a3
          clear FI bel3 ZZ BX s3 s3a z3 a3 FA d0 d1 d2 d3 d4 d5 d6 x0 x1 x2 x3 x4 x5 x6 z3'
          go_wp2_with fail
          refine F4.mono ?_
          rintro e w4 ⟨rfl, bel4⟩
          have z4' := L2.below Z3.out (thK _ _ _ _) (thD _ _ _ _ _) bel4
          have q4 := z4'.c0
          have hq4 := cell_lt q4
          have z4 := z4'.more (thK _ _ _ _) (thD _ _ _ _ _) (.cells #[.int .i64 y1, .int .i64 y2, .int .i64 y3, .int .i64 y4, .int .i64 y5, .int .i64 y6] 32)
          have s4 := BoxS.below S3.out bel4
          have a4 := BoxM.below A3.out bel4
          have hs4 := s4.lt
          have ha4 := a4.lt
          have s4a := s4.below ((Below.refl _ w4).alloc (Nat.le_refl _) (.cells #[.int .i64 y1, .int .i64 y2, .int .i64 y3, .int .i64 y4, .int .i64 y5, .int .i64 y6] 32))
          have a4a := a4.below ((Below.refl _ w4).alloc (Nat.le_refl _) (.cells #[.int .i64 y1, .int .i64 y2, .int .i64 y3, .int .i64 y4, .int .i64 y5, .int .i64 y6] 32))
          have b4a := BoxM.made w4 ((y1, y2, y3), y4, y5, y6)
          dsimp only at b4a
          obtain ⟨bB, hbB⟩ : ∃ bB, w4.heap.size = bB := ⟨_, rfl⟩
          rw [hbB] at z4 b4a hs4 ha4 hq4
          have n1 : ¬ (sB = aB) := by omega
          have n2 : ¬ (aB = sB) := by omega
          have n3 : ¬ (sB = bB) := by omega
          have n4 : ¬ (bB = sB) := by omega
          have n5 : ¬ (aB = bB) := by omega
          have n6 : ¬ (bB = aB) := by omega
          have p3 : ¬ (db = bB) := by omega
          have p4 : ¬ (bB = db) := by omega
          obtain ⟨d0, d1, d2, d3, d4, d5, d6⟩ := s4.cells
          dsimp only at d0 d1 d2 d3 d4 d5 d6
          obtain ⟨m0, m1, m2, m3, m4, m5⟩ := a4.cells
          dsimp only at m0 m1 m2 m3 m4 m5
          clear F4 bel4 Z3 S3 A3 s4 a4 z4' q3
          clear s4a a4a b4a

          have hT : s.length ≤ 1000 := by obtain ⟨F0, hF0⟩ := z4.seeP; have := (ksrt hF0).2; omega
          obtain ⟨F1, hF1⟩ := z4.seeP
          have D1 := kdays' hF1
          have TA : Aside _ := z4
          clear z4 hF1
          go_wp2_with fail
          refine D1.mono ?_
          rintro e wD ⟨uB, rfl, rU, bD⟩
          have T1 := L2.below TA.out (thK _ _ _ _) (thD _ _ _ _ _) bD
          obtain ⟨G1, hG1⟩ := T1.seeQ
          have D2 := ddays' hG1
          have RU : Aside _ := rU
          have TB : Aside _ := T1
          clear D1 bD hG1 TA T1 rU
          go_wp2_with fail
          refine D2.mono ?_
          rintro e wE ⟨vB, rfl, rV, bE⟩
          have T2 := L2.below TB.out (thK _ _ _ _) (thD _ _ _ _ _) bE
          have RU2 : Aside _ := row_below RU.out bE
          have RV : Aside _ := rV
          have zd := T2.below (thK _ _ _ _) (thD _ _ _ _ _) (Below.refl _ _).drew
          have c0 := T2.c0
          have c0d := zd.c0
          have hdl := cell_lt c0d
          obtain ⟨F3, hF3⟩ := zd.seeP
          obtain ⟨G3, hG3⟩ := zd.seeQ
          have N1 := klen hF3
          have N2 := dlen hG3
          have L1 := klist hF3
          have HL : Aside (∀ W', Below wE.drew.heap.size wE.drew W' → Calls Try.prog 26 #[.pointer (some ⟨rb, 0, none⟩)] W' fun e w' => ∃ a cap, e = .returned (.slice a s.length cap) ∧ Own w' (.slice a s.length cap) s ∧ Below W'.heap.size W' w') := fun W' hW' => by
            obtain ⟨G, hG⟩ := (zd.below (thK _ _ _ _) (thD _ _ _ _ _) hW').seeQ
            exact dlist hG
          have ZD : Aside _ := zd
          clear D2 bE T2 TB RU rV zd hF3 hG3
          go_wp2_with fail
          go_region_held3 (fun w' => w'.cell? ⟨db, 0, none⟩ = some (.pointer (some ⟨rb, 0, none⟩))) (go_keep) (first | (go_at_call 23; refine N1.mono ?_; rintro e wN ⟨rfl, hwN⟩; subst hwN) | (go_at_call 24; refine N2.mono ?_; rintro e wN2 ⟨rfl, hwN2⟩; subst hwN2) | (go_at_call 25; refine L1.mono ?_; rintro e wL ⟨aL, cL, rfl, oL, bL⟩; have cL0 := (bL.cell (p := ⟨db, 0, none⟩) hdl).trans c0d) | (go_at_call 26; refine Calls.mono (HL.out _ bL) ?_; rintro e wM ⟨aM, cM, rfl, oM, bM⟩; have cM0 := (bM.cell (p := ⟨db, 0, none⟩) (cell_lt cL0)).trans cL0) | (go_at_call 19; refine (same_any (own_below oL bM) oM hT).mono ?_; rintro e wS ⟨rfl, bS⟩; have cS0 := (bS.cell (p := ⟨db, 0, none⟩) (cell_lt cM0)).trans cM0))
          have T5 : Aside _ := ((L2.below ZD.out (thK _ _ _ _) (thD _ _ _ _ _) bL).below (thK _ _ _ _) (thD _ _ _ _ _) bM).below (thK _ _ _ _) (thD _ _ _ _ _) bS
          have bA : Below wE.heap.size wE wS := (((Below.refl wE.heap.size wE).drew).trans (bL.trans (bM.mono bL.size))).trans (bS.mono (Nat.le_trans bL.size bM.size))
          have RU3 : Aside _ := row_below RU2.out bA
          have RV3 : Aside _ := row_below RV.out bA
          clear N1 N2 L1 HL ZD oL oM bL bM bS bA RU2 RV cL0 cM0 cS0 c0 c0d hdl
          go_wp2_with fail
          go_loopw [17] (fun si wx => ∃ (j : Nat), j ≤ 8 ∧ si = .int .i64 j ∧ ∃ q, wx = wS.drewN q) (fun si _ => 8 - (intOf si).toNat)
          case atStart => exact ⟨0, Nat.zero_le _, rfl, 0, rfl⟩
          case round =>
            obtain ⟨j, hj, rfl, q, rfl⟩ := hrel
            by_cases hj8 : j < 8
            · have hj8' : (j : Int) < 8 := by omega
              have c1 := day_cell RU3.out hj8
              have c2 := day_cell RV3.out hj8
              obtain ⟨cn, hcn⟩ : ∃ cn, (pg e1 j s).length = cn := ⟨_, rfl⟩
              rw [hcn] at c1 c2
              clear hcn
              go_wp2_with fail
              go_quiet (fail)
              go_wp2_with fail
              go_roundw
              case rel => exact ⟨j + 1, by omega, by go_num, _, rfl⟩
              case measure => simp [intOf]; omega
            · obtain rfl : j = 8 := by omega
              go_wp2_with fail
              go_roundw
              case rel => exact ⟨k + 1, s, by omega, by go_num, L2.fewer (L2.below T5.out (thK _ _ _ _) (thD _ _ _ _ _) (bdrew _ q)) (fun k g => g.elim)⟩
              case measure => simp [intOf]; omega
        by_cases k3 : kd = 3
        · subst k3

          obtain ⟨F1, hF1⟩ := zz.seeP
          have FI := kfirst hF1
          have F2 := fun (Z : Nat → Prop) (W : World) (hW : L2 w W Z (PK pb room e1 s) (PD db rb room e1 s)) => (by obtain ⟨G, hG⟩ := hW.seeQ; exact dfirst hG : Calls Try.prog 14 #[.pointer (some ⟨rb, 0, none⟩)] W fun e w' => e = .returned (.tuple #[mv (s.headD zeroM), .bool (!s.isEmpty)]) ∧ Below W.heap.size W w')
          obtain ⟨y, hy⟩ : ∃ y, s.headD zeroM = y := ⟨_, rfl⟩
          obtain ⟨ob, hob⟩ : ∃ ob, (!s.isEmpty) = ob := ⟨_, rfl⟩
          rw [hy, hob] at FI
          simp only [hy, hob] at F2
          obtain ⟨⟨y1, y2, y3⟩, y4, y5, y6⟩ := y
          dsimp only [mv] at FI F2
          have FA : Aside _ := F2
          have ZZ : Aside _ := zz
          have BX : Aside _ := bx
          have HY : Hid _ := hy
          have HO : Hid _ := hob
          obtain ⟨d0, d1, d2, d3, d4, d5, d6⟩ := bx.cells
          dsimp only at d0 d1 d2 d3 d4 d5 d6
          clear F2 zz bx hy hob hF1
          go_wp2_with fail
          refine FI.mono ?_
          rintro e w3 ⟨rfl, bel3⟩
          have z3' := L2.below ZZ.out (thK _ _ _ _) (thD _ _ _ _ _) bel3
          have q3 := z3'.c0
          have hq3 := cell_lt q3
          have z3 := z3'.more (thK _ _ _ _) (thD _ _ _ _ _) (.cells #[.int .i64 y1, .int .i64 y2, .int .i64 y3, .int .i64 y4, .int .i64 y5, .int .i64 y6] 32)
          have s3 := BoxS.below BX.out bel3
          have hs3 := s3.lt
          have s3a := s3.below ((Below.refl _ w3).alloc (Nat.le_refl _) (.cells #[.int .i64 y1, .int .i64 y2, .int .i64 y3, .int .i64 y4, .int .i64 y5, .int .i64 y6] 32))
          have a3 := BoxM.made w3 ((y1, y2, y3), y4, y5, y6)
          dsimp only at a3
          obtain ⟨aB, haB⟩ : ∃ aB, w3.heap.size = aB := ⟨_, rfl⟩
          rw [haB] at z3 a3 hs3 hq3
          have p1 : ¬ (db = aB) := by omega
          have p2 : ¬ (aB = db) := by omega
          have F4 := FA.out _ _ z3
          have Z3 : Aside _ := z3
          have S3 : Aside _ := s3a
          have A3 : Aside _ := a3
          clear FI bel3 ZZ BX s3 s3a z3 a3 FA d0 d1 d2 d3 d4 d5 d6 x0 x1 x2 x3 x4 x5 x6 z3'
          go_wp2_with fail
          refine F4.mono ?_
          rintro e w4 ⟨rfl, bel4⟩
          have z4' := L2.below Z3.out (thK _ _ _ _) (thD _ _ _ _ _) bel4
          have q4 := z4'.c0
          have hq4 := cell_lt q4
          have z4 := z4'.more (thK _ _ _ _) (thD _ _ _ _ _) (.cells #[.int .i64 y1, .int .i64 y2, .int .i64 y3, .int .i64 y4, .int .i64 y5, .int .i64 y6] 32)
          have s4 := BoxS.below S3.out bel4
          have a4 := BoxM.below A3.out bel4
          have hs4 := s4.lt
          have ha4 := a4.lt
          have s4a := s4.below ((Below.refl _ w4).alloc (Nat.le_refl _) (.cells #[.int .i64 y1, .int .i64 y2, .int .i64 y3, .int .i64 y4, .int .i64 y5, .int .i64 y6] 32))
          have a4a := a4.below ((Below.refl _ w4).alloc (Nat.le_refl _) (.cells #[.int .i64 y1, .int .i64 y2, .int .i64 y3, .int .i64 y4, .int .i64 y5, .int .i64 y6] 32))
          have b4a := BoxM.made w4 ((y1, y2, y3), y4, y5, y6)
          dsimp only at b4a
          obtain ⟨bB, hbB⟩ : ∃ bB, w4.heap.size = bB := ⟨_, rfl⟩
          rw [hbB] at z4 b4a hs4 ha4 hq4
          have n1 : ¬ (sB = aB) := by omega
          have n2 : ¬ (aB = sB) := by omega
          have n3 : ¬ (sB = bB) := by omega
          have n4 : ¬ (bB = sB) := by omega
          have n5 : ¬ (aB = bB) := by omega
          have n6 : ¬ (bB = aB) := by omega
          have p3 : ¬ (db = bB) := by omega
          have p4 : ¬ (bB = db) := by omega
          obtain ⟨d0, d1, d2, d3, d4, d5, d6⟩ := s4.cells
          dsimp only at d0 d1 d2 d3 d4 d5 d6
          obtain ⟨m0, m1, m2, m3, m4, m5⟩ := a4.cells
          dsimp only at m0 m1 m2 m3 m4 m5
          clear F4 bel4 Z3 S3 A3 s4 a4 z4' q3

          have Q1 := z4.callP (thD _ _ _ _ _) (fun F hF => kremove hF (b1, b2, b3))
          have Q2 := fun (Z : Nat → Prop) (W : World) (hW : L2 w W Z (PK pb room e1 (del s (b1, b2, b3))) (PD db rb room e1 s)) => hW.callQ (thK _ _ _ _) (fun F hF => dremove hF (b1, b2, b3))

          obtain ⟨vv, hvv⟩ : ∃ vv, fnd s (b1, b2, b3) = vv := ⟨_, rfl⟩
          obtain ⟨ov, hov⟩ : ∃ ov, hasK s (b1, b2, b3) = ov := ⟨_, rfl⟩
          rw [hvv, hov] at Q1
          simp only [hvv, hov] at Q2
          obtain ⟨⟨v1, v2, v3⟩, v4, v5, v6⟩ := vv
          clear hvv hov

          obtain ⟨s2, hs2⟩ : ∃ s2, (del s (b1, b2, b3)) = s2 := ⟨_, rfl⟩
          rw [hs2] at Q1
          simp only [hs2] at Q2
          dsimp only [mv, kv] at Q1 Q2
          have QA : Aside _ := Q2
          have S4 : Aside _ := s4a
          have A4 : Aside _ := a4a
          have B4 : Aside _ := b4a
          clear Q2 hs2 s4a a4a b4a z4
          go_wp2_with fail
          refine Q1.mono ?_
          rintro e w5 ⟨rfl, z5, f5⟩
          have s5 := BoxS.keep S4.out f5 (fun g => g (.inl (.inl (.inr rfl))))
          have a5 := BoxM.keep A4.out f5 (fun g => g (.inl (.inr rfl)))
          have b5' := BoxM.keep B4.out f5 (fun g => g (.inr rfl))
          have q5 := z5.c0
          have z6 := z5.six (thK _ _ _ _) (thD _ _ _ _ _) (B := aB) (.inl (.inr rfl)) (.int .i64 v1) (.int .i64 v2) (.int .i64 v3) (.int .i64 v4) (.int .i64 v5) (.int .i64 v6)
          have f6 := fr6 w5 aB (.int .i64 v1) (.int .i64 v2) (.int .i64 v3) (.int .i64 v4) (.int .i64 v5) (.int .i64 v6)
          have s6 := s5.keep f6 n1
          have a6 := a5.put ((v1, v2, v3), v4, v5, v6)
          have b6' := b5'.keep f6 n6
          dsimp only at a6
          have S6 : Aside _ := s6
          have A6 : Aside _ := a6
          have B6 : Aside _ := b6'
          clear d0 d1 d2 d3 d4 d5 d6 m0 m1 m2 m3 m4 m5
          obtain ⟨d0, d1, d2, d3, d4, d5, d6⟩ := s5.cells
          dsimp only at d0 d1 d2 d3 d4 d5 d6
          obtain ⟨m0, m1, m2, m3, m4, m5⟩ := a5.cells
          dsimp only at m0 m1 m2 m3 m4 m5
          have fz := a5.2

          obtain ⟨W6, hW6⟩ : ∃ W6, six w5 aB (.int .i64 v1) (.int .i64 v2) (.int .i64 v3) (.int .i64 v4) (.int .i64 v5) (.int .i64 v6) = W6 := ⟨_, rfl⟩
          rw [hW6] at z6 s6 a6 b6' S6 A6 B6
          have z6d := z6.below (thK _ _ _ _) (thD _ _ _ _ _) (Below.refl _ _).drew
          have Q6 := QA.out _ _ z6d
          have q6 := z6.c0
          have q6d := z6d.c0
          dsimp only [six] at hW6
          have HW6 : Hid _ := hW6
          obtain ⟨g0, g1, g2, g3, g4, g5, g6⟩ := s6.cells
          dsimp only at g0 g1 g2 g3 g4 g5 g6
          have s6d := s6.below (Below.refl _ _).drew
          have a6d := a6.below (Below.refl _ _).drew
          have b6d := b6'.below (Below.refl _ _).drew
          have Q6' := Q6.mono (R' := fun e w' => e = .returned (.tuple #[.agg #[.int .i64 v1, .int .i64 v2, .int .i64 v3, .int .i64 v4, .int .i64 v5, .int .i64 v6], .bool ov]) ∧ L2 w w' (fun k => ((False ∨ k = sB) ∨ k = aB) ∨ k = bB) (PK pb room e1 s2) (PD db rb room e1 s2) ∧ BoxS w' sB (3, ((b1, b2, b3), b4, b5, b6)) ∧ BoxM w' aB ((v1, v2, v3), v4, v5, v6) ∧ BoxM w' bB ((y1, y2, y3), y4, y5, y6)) (fun e w' ⟨he, z', f'⟩ => ⟨he, z', s6d.keep f' (fun g => g (.inl (.inl (.inr rfl)))), a6d.keep f' (fun g => g (.inl (.inr rfl))), b6d.keep f' (fun g => g (.inr rfl))⟩)
          clear Q1 QA S4 A4 B4 s5 a5 b5' z5 f5 z6 f6 s6 a6 b6' Q6 s6d a6d b6d z6d hW6 q4
          go_wp2_with fail
          rw [HW6.out]
          clear d0 d1 d2 d3 d4 d5 d6 m0 m1 m2 m3 m4 m5 fz q5
          go_region_held3 (fun w' => w'.cell? ⟨db, 0, none⟩ = some (.pointer (some ⟨rb, 0, none⟩)) ∧ w'.cell? ⟨sB, 1, none⟩ = some (.int .i64 b1) ∧ w'.cell? ⟨sB, 2, none⟩ = some (.int .i64 b2) ∧ w'.cell? ⟨sB, 3, none⟩ = some (.int .i64 b3)) (go_keep) (first | (go_at_call 18; refine Q6'.mono ?_; rintro e w7 ⟨rfl, z7, s7, a7, b7⟩; have q7 := z7.c0; obtain ⟨d0, d1, d2, d3, d4, d5, d6⟩ := s7.cells; dsimp only at d0 d1 d2 d3 d4 d5 d6; obtain ⟨r0, r1, r2, r3, r4, r5⟩ := b7.cells; dsimp only at r0 r1 r2 r3 r4 r5; have fz := b7.2))
          have z8 := z7.six (thK _ _ _ _) (thD _ _ _ _ _) (B := bB) (.inr rfl) (.int .i64 v1) (.int .i64 v2) (.int .i64 v3) (.int .i64 v4) (.int .i64 v5) (.int .i64 v6)
          obtain ⟨m0, m1, m2, m3, m4, m5⟩ := a7.cells
          dsimp only at m0 m1 m2 m3 m4 m5
          clear Q6' S6 A6 B6 s7 a7 b7 z7

          have hT : s2.length ≤ 1000 := by obtain ⟨F0, hF0⟩ := z8.seeP; have := (ksrt hF0).2; omega
          obtain ⟨F1, hF1⟩ := z8.seeP
          have D1 := kdays' hF1
          have TA : Aside _ := z8
          clear z8 hF1
          go_wp2_with fail
          refine D1.mono ?_
          rintro e wD ⟨uB, rfl, rU, bD⟩
          have T1 := L2.below TA.out (thK _ _ _ _) (thD _ _ _ _ _) bD
          obtain ⟨G1, hG1⟩ := T1.seeQ
          have D2 := ddays' hG1
          have RU : Aside _ := rU
          have TB : Aside _ := T1
          clear D1 bD hG1 TA T1 rU
          go_wp2_with fail
          refine D2.mono ?_
          rintro e wE ⟨vB, rfl, rV, bE⟩
          have T2 := L2.below TB.out (thK _ _ _ _) (thD _ _ _ _ _) bE
          have RU2 : Aside _ := row_below RU.out bE
          have RV : Aside _ := rV
          have zd := T2.below (thK _ _ _ _) (thD _ _ _ _ _) (Below.refl _ _).drew
          have c0 := T2.c0
          have c0d := zd.c0
          have hdl := cell_lt c0d
          obtain ⟨F3, hF3⟩ := zd.seeP
          obtain ⟨G3, hG3⟩ := zd.seeQ
          have N1 := klen hF3
          have N2 := dlen hG3
          have L1 := klist hF3
          have HL : Aside (∀ W', Below wE.drew.heap.size wE.drew W' → Calls Try.prog 26 #[.pointer (some ⟨rb, 0, none⟩)] W' fun e w' => ∃ a cap, e = .returned (.slice a s2.length cap) ∧ Own w' (.slice a s2.length cap) s2 ∧ Below W'.heap.size W' w') := fun W' hW' => by
            obtain ⟨G, hG⟩ := (zd.below (thK _ _ _ _) (thD _ _ _ _ _) hW').seeQ
            exact dlist hG
          have ZD : Aside _ := zd
          clear D2 bE T2 TB RU rV zd hF3 hG3
          go_wp2_with fail
          go_region_held3 (fun w' => w'.cell? ⟨db, 0, none⟩ = some (.pointer (some ⟨rb, 0, none⟩))) (go_keep) (first | (go_at_call 23; refine N1.mono ?_; rintro e wN ⟨rfl, hwN⟩; subst hwN) | (go_at_call 24; refine N2.mono ?_; rintro e wN2 ⟨rfl, hwN2⟩; subst hwN2) | (go_at_call 25; refine L1.mono ?_; rintro e wL ⟨aL, cL, rfl, oL, bL⟩; have cL0 := (bL.cell (p := ⟨db, 0, none⟩) hdl).trans c0d) | (go_at_call 26; refine Calls.mono (HL.out _ bL) ?_; rintro e wM ⟨aM, cM, rfl, oM, bM⟩; have cM0 := (bM.cell (p := ⟨db, 0, none⟩) (cell_lt cL0)).trans cL0) | (go_at_call 19; refine (same_any (own_below oL bM) oM hT).mono ?_; rintro e wS ⟨rfl, bS⟩; have cS0 := (bS.cell (p := ⟨db, 0, none⟩) (cell_lt cM0)).trans cM0))
          have T5 : Aside _ := ((L2.below ZD.out (thK _ _ _ _) (thD _ _ _ _ _) bL).below (thK _ _ _ _) (thD _ _ _ _ _) bM).below (thK _ _ _ _) (thD _ _ _ _ _) bS
          have bA : Below wE.heap.size wE wS := (((Below.refl wE.heap.size wE).drew).trans (bL.trans (bM.mono bL.size))).trans (bS.mono (Nat.le_trans bL.size bM.size))
          have RU3 : Aside _ := row_below RU2.out bA
          have RV3 : Aside _ := row_below RV.out bA
          clear N1 N2 L1 HL ZD oL oM bL bM bS bA RU2 RV cL0 cM0 cS0 c0 c0d hdl
          go_wp2_with fail
          go_loopw [17] (fun si wx => ∃ (j : Nat), j ≤ 8 ∧ si = .int .i64 j ∧ ∃ q, wx = wS.drewN q) (fun si _ => 8 - (intOf si).toNat)
          case atStart => exact ⟨0, Nat.zero_le _, rfl, 0, rfl⟩
          case round =>
            obtain ⟨j, hj, rfl, q, rfl⟩ := hrel
            by_cases hj8 : j < 8
            · have hj8' : (j : Int) < 8 := by omega
              have c1 := day_cell RU3.out hj8
              have c2 := day_cell RV3.out hj8
              obtain ⟨cn, hcn⟩ : ∃ cn, (pg e1 j s2).length = cn := ⟨_, rfl⟩
              rw [hcn] at c1 c2
              clear hcn
              go_wp2_with fail
              go_quiet (fail)
              go_wp2_with fail
              go_roundw
              case rel => exact ⟨j + 1, by omega, by go_num, _, rfl⟩
              case measure => simp [intOf]; omega
            · obtain rfl : j = 8 := by omega
              go_wp2_with fail
              go_roundw
              case rel => exact ⟨k + 1, s2, by omega, by go_num, L2.fewer (L2.below T5.out (thK _ _ _ _) (thD _ _ _ _ _) (bdrew _ q)) (fun k g => g.elim)⟩
              case measure => simp [intOf]; omega
        by_cases k4 : kd = 4
        · subst k4
          have zd := zz.below (thK _ _ _ _) (thD _ _ _ _ _) (Below.refl _ _).drew
          have bd := bx.below (Below.refl _ _).drew
          have c0 := zz.c0
          have c0d := zd.c0
          have hdl := cell_lt c0d
          have hsl := bd.lt
          obtain ⟨d0, d1, d2, d3, d4, d5, d6⟩ := bx.cells
          dsimp only at d0 d1 d2 d3 d4 d5 d6
          obtain ⟨dd0, dd1, _, _, _, _, _⟩ := bd.cells
          dsimp only at dd0 dd1
          obtain ⟨F1, hF1⟩ := zd.seeP
          have B1 := kbelow hF1 b1
          have HB : Aside (∀ W' : World, Below (World.drew (World.alloc wr (.cells #[.int .i64 4, .int .i64 b1, .int .i64 b2, .int .i64 b3, .int .i64 b4, .int .i64 b5, .int .i64 b6] 34))).heap.size (World.drew (World.alloc wr (.cells #[.int .i64 4, .int .i64 b1, .int .i64 b2, .int .i64 b3, .int .i64 b4, .int .i64 b5, .int .i64 b6] 34))) W' → Calls Try.prog 21 #[.pointer (some ⟨rb, 0, none⟩), .int .i64 b1] W' fun e w' => ∃ a cap, e = .returned (.slice a (low s b1).length cap) ∧ Own w' (.slice a (low s b1).length cap) (low s b1) ∧ Below W'.heap.size W' w') := fun W' hW' => by
            obtain ⟨G, hG⟩ := (zd.below (thK _ _ _ _) (thD _ _ _ _ _) hW').seeQ
            exact dbelow hG b1
          have hT0 : (low s b1).length ≤ 1000 := by
            have h1 := low_len s b1
            obtain ⟨F0, hF0⟩ := zd.seeP
            have := (ksrt hF0).2
            omega
          have ZD : Aside _ := zd
          obtain ⟨X, hX⟩ : ∃ X, low s b1 = X := ⟨_, rfl⟩
          simp only [hX] at B1 HB hT0
          clear zz bx zd bd hF1 hX
          go_wp2_with fail
          go_region_held3 (fun w' => w'.cell? ⟨db, 0, none⟩ = some (.pointer (some ⟨rb, 0, none⟩)) ∧ w'.cell? ⟨sB, 1, none⟩ = some (.int .i64 b1)) (go_keep) (first | (go_at_call 20; refine B1.mono ?_; rintro e wL ⟨aL, cL, rfl, oL, bL⟩; have cL0 := (bL.cell (p := ⟨db, 0, none⟩) hdl).trans c0d; have cL1 := (bL.cell (p := ⟨sB, 1, none⟩) hsl).trans dd1) | (go_at_call 21; refine Calls.mono (HB.out _ bL) ?_; rintro e wM ⟨aM, cM, rfl, oM, bM⟩; have cM0 := (bM.cell (p := ⟨db, 0, none⟩) (cell_lt cL0)).trans cL0; have cM1 := (bM.cell (p := ⟨sB, 1, none⟩) (cell_lt cL1)).trans cL1) | (go_at_call 19; refine (same_any (own_below oL bM) oM hT0).mono ?_; rintro e wS0 ⟨rfl, bS⟩; have cS0 := (bS.cell (p := ⟨db, 0, none⟩) (cell_lt cM0)).trans cM0; have cS1 := (bS.cell (p := ⟨sB, 1, none⟩) (cell_lt cM1)).trans cM1))
          have z8 := ((L2.below ZD.out (thK _ _ _ _) (thD _ _ _ _ _) bL).below (thK _ _ _ _) (thD _ _ _ _ _) bM).below (thK _ _ _ _) (thD _ _ _ _ _) bS
          clear B1 HB ZD oL oM bL bM bS cL0 cL1 cM0 cM1 cS0 cS1 c0 c0d hdl hsl d0 d1 d2 d3 d4 d5 d6 dd0 dd1

          have hT : s.length ≤ 1000 := by obtain ⟨F0, hF0⟩ := z8.seeP; have := (ksrt hF0).2; omega
          obtain ⟨F1, hF1⟩ := z8.seeP
          have D1 := kdays' hF1
          have TA : Aside _ := z8
          clear z8 hF1
          go_wp2_with fail
          refine D1.mono ?_
          rintro e wD ⟨uB, rfl, rU, bD⟩
          have T1 := L2.below TA.out (thK _ _ _ _) (thD _ _ _ _ _) bD
          obtain ⟨G1, hG1⟩ := T1.seeQ
          have D2 := ddays' hG1
          have RU : Aside _ := rU
          have TB : Aside _ := T1
          clear D1 bD hG1 TA T1 rU
          go_wp2_with fail
          refine D2.mono ?_
          rintro e wE ⟨vB, rfl, rV, bE⟩
          have T2 := L2.below TB.out (thK _ _ _ _) (thD _ _ _ _ _) bE
          have RU2 : Aside _ := row_below RU.out bE
          have RV : Aside _ := rV
          have zd := T2.below (thK _ _ _ _) (thD _ _ _ _ _) (Below.refl _ _).drew
          have c0 := T2.c0
          have c0d := zd.c0
          have hdl := cell_lt c0d
          obtain ⟨F3, hF3⟩ := zd.seeP
          obtain ⟨G3, hG3⟩ := zd.seeQ
          have N1 := klen hF3
          have N2 := dlen hG3
          have L1 := klist hF3
          have HL : Aside (∀ W', Below wE.drew.heap.size wE.drew W' → Calls Try.prog 26 #[.pointer (some ⟨rb, 0, none⟩)] W' fun e w' => ∃ a cap, e = .returned (.slice a s.length cap) ∧ Own w' (.slice a s.length cap) s ∧ Below W'.heap.size W' w') := fun W' hW' => by
            obtain ⟨G, hG⟩ := (zd.below (thK _ _ _ _) (thD _ _ _ _ _) hW').seeQ
            exact dlist hG
          have ZD : Aside _ := zd
          clear D2 bE T2 TB RU rV zd hF3 hG3
          go_wp2_with fail
          go_region_held3 (fun w' => w'.cell? ⟨db, 0, none⟩ = some (.pointer (some ⟨rb, 0, none⟩))) (go_keep) (first | (go_at_call 23; refine N1.mono ?_; rintro e wN ⟨rfl, hwN⟩; subst hwN) | (go_at_call 24; refine N2.mono ?_; rintro e wN2 ⟨rfl, hwN2⟩; subst hwN2) | (go_at_call 25; refine L1.mono ?_; rintro e wL ⟨aL, cL, rfl, oL, bL⟩; have cL0 := (bL.cell (p := ⟨db, 0, none⟩) hdl).trans c0d) | (go_at_call 26; refine Calls.mono (HL.out _ bL) ?_; rintro e wM ⟨aM, cM, rfl, oM, bM⟩; have cM0 := (bM.cell (p := ⟨db, 0, none⟩) (cell_lt cL0)).trans cL0) | (go_at_call 19; refine (same_any (own_below oL bM) oM hT).mono ?_; rintro e wS ⟨rfl, bS⟩; have cS0 := (bS.cell (p := ⟨db, 0, none⟩) (cell_lt cM0)).trans cM0))
          have T5 : Aside _ := ((L2.below ZD.out (thK _ _ _ _) (thD _ _ _ _ _) bL).below (thK _ _ _ _) (thD _ _ _ _ _) bM).below (thK _ _ _ _) (thD _ _ _ _ _) bS
          have bA : Below wE.heap.size wE wS := (((Below.refl wE.heap.size wE).drew).trans (bL.trans (bM.mono bL.size))).trans (bS.mono (Nat.le_trans bL.size bM.size))
          have RU3 : Aside _ := row_below RU2.out bA
          have RV3 : Aside _ := row_below RV.out bA
          clear N1 N2 L1 HL ZD oL oM bL bM bS bA RU2 RV cL0 cM0 cS0 c0 c0d hdl
          go_wp2_with fail
          go_loopw [17] (fun si wx => ∃ (j : Nat), j ≤ 8 ∧ si = .int .i64 j ∧ ∃ q, wx = wS.drewN q) (fun si _ => 8 - (intOf si).toNat)
          case atStart => exact ⟨0, Nat.zero_le _, rfl, 0, rfl⟩
          case round =>
            obtain ⟨j, hj, rfl, q, rfl⟩ := hrel
            by_cases hj8 : j < 8
            · have hj8' : (j : Int) < 8 := by omega
              have c1 := day_cell RU3.out hj8
              have c2 := day_cell RV3.out hj8
              obtain ⟨cn, hcn⟩ : ∃ cn, (pg e1 j s).length = cn := ⟨_, rfl⟩
              rw [hcn] at c1 c2
              clear hcn
              go_wp2_with fail
              go_quiet (fail)
              go_wp2_with fail
              go_roundw
              case rel => exact ⟨j + 1, by omega, by go_num, _, rfl⟩
              case measure => simp [intOf]; omega
            · obtain rfl : j = 8 := by omega
              go_wp2_with fail
              go_roundw
              case rel => exact ⟨k + 1, s, by omega, by go_num, L2.fewer (L2.below T5.out (thK _ _ _ _) (thD _ _ _ _ _) (bdrew _ q)) (fun k g => g.elim)⟩
              case measure => simp [intOf]; omega
        · have g0 : (kd == 0) = false := by simpa using k0
          have g1 : (kd == 1) = false := by simpa using k1
          have g2 : (kd == 2) = false := by simpa using k2
          have g3 : (kd == 3) = false := by simpa using k3
          have g4 : (kd == 4) = false := by simpa using k4
          obtain ⟨d0, d1, d2, d3, d4, d5, d6⟩ := bx.cells
          dsimp only at d0 d1 d2 d3 d4 d5 d6
          clear bx

          have hT : s.length ≤ 1000 := by obtain ⟨F0, hF0⟩ := zz.seeP; have := (ksrt hF0).2; omega
          obtain ⟨F1, hF1⟩ := zz.seeP
          have D1 := kdays' hF1
          have TA : Aside _ := zz
          clear zz hF1
          go_wp2_with fail
          refine D1.mono ?_
          rintro e wD ⟨uB, rfl, rU, bD⟩
          have T1 := L2.below TA.out (thK _ _ _ _) (thD _ _ _ _ _) bD
          obtain ⟨G1, hG1⟩ := T1.seeQ
          have D2 := ddays' hG1
          have RU : Aside _ := rU
          have TB : Aside _ := T1
          clear D1 bD hG1 TA T1 rU
          go_wp2_with fail
          refine D2.mono ?_
          rintro e wE ⟨vB, rfl, rV, bE⟩
          have T2 := L2.below TB.out (thK _ _ _ _) (thD _ _ _ _ _) bE
          have RU2 : Aside _ := row_below RU.out bE
          have RV : Aside _ := rV
          have zd := T2.below (thK _ _ _ _) (thD _ _ _ _ _) (Below.refl _ _).drew
          have c0 := T2.c0
          have c0d := zd.c0
          have hdl := cell_lt c0d
          obtain ⟨F3, hF3⟩ := zd.seeP
          obtain ⟨G3, hG3⟩ := zd.seeQ
          have N1 := klen hF3
          have N2 := dlen hG3
          have L1 := klist hF3
          have HL : Aside (∀ W', Below wE.drew.heap.size wE.drew W' → Calls Try.prog 26 #[.pointer (some ⟨rb, 0, none⟩)] W' fun e w' => ∃ a cap, e = .returned (.slice a s.length cap) ∧ Own w' (.slice a s.length cap) s ∧ Below W'.heap.size W' w') := fun W' hW' => by
            obtain ⟨G, hG⟩ := (zd.below (thK _ _ _ _) (thD _ _ _ _ _) hW').seeQ
            exact dlist hG
          have ZD : Aside _ := zd
          clear D2 bE T2 TB RU rV zd hF3 hG3
          go_wp2_with fail
          go_region_held3 (fun w' => w'.cell? ⟨db, 0, none⟩ = some (.pointer (some ⟨rb, 0, none⟩))) (go_keep) (first | (go_at_call 23; refine N1.mono ?_; rintro e wN ⟨rfl, hwN⟩; subst hwN) | (go_at_call 24; refine N2.mono ?_; rintro e wN2 ⟨rfl, hwN2⟩; subst hwN2) | (go_at_call 25; refine L1.mono ?_; rintro e wL ⟨aL, cL, rfl, oL, bL⟩; have cL0 := (bL.cell (p := ⟨db, 0, none⟩) hdl).trans c0d) | (go_at_call 26; refine Calls.mono (HL.out _ bL) ?_; rintro e wM ⟨aM, cM, rfl, oM, bM⟩; have cM0 := (bM.cell (p := ⟨db, 0, none⟩) (cell_lt cL0)).trans cL0) | (go_at_call 19; refine (same_any (own_below oL bM) oM hT).mono ?_; rintro e wS ⟨rfl, bS⟩; have cS0 := (bS.cell (p := ⟨db, 0, none⟩) (cell_lt cM0)).trans cM0))
          have T5 : Aside _ := ((L2.below ZD.out (thK _ _ _ _) (thD _ _ _ _ _) bL).below (thK _ _ _ _) (thD _ _ _ _ _) bM).below (thK _ _ _ _) (thD _ _ _ _ _) bS
          have bA : Below wE.heap.size wE wS := (((Below.refl wE.heap.size wE).drew).trans (bL.trans (bM.mono bL.size))).trans (bS.mono (Nat.le_trans bL.size bM.size))
          have RU3 : Aside _ := row_below RU2.out bA
          have RV3 : Aside _ := row_below RV.out bA
          clear N1 N2 L1 HL ZD oL oM bL bM bS bA RU2 RV cL0 cM0 cS0 c0 c0d hdl
          go_wp2_with fail
          go_loopw [17] (fun si wx => ∃ (j : Nat), j ≤ 8 ∧ si = .int .i64 j ∧ ∃ q, wx = wS.drewN q) (fun si _ => 8 - (intOf si).toNat)
          case atStart => exact ⟨0, Nat.zero_le _, rfl, 0, rfl⟩
          case round =>
            obtain ⟨j, hj, rfl, q, rfl⟩ := hrel
            by_cases hj8 : j < 8
            · have hj8' : (j : Int) < 8 := by omega
              have c1 := day_cell RU3.out hj8
              have c2 := day_cell RV3.out hj8
              obtain ⟨cn, hcn⟩ : ∃ cn, (pg e1 j s).length = cn := ⟨_, rfl⟩
              rw [hcn] at c1 c2
              clear hcn
              go_wp2_with fail
              go_quiet (fail)
              go_wp2_with fail
              go_roundw
              case rel => exact ⟨j + 1, by omega, by go_num, _, rfl⟩
              case measure => simp [intOf]; omega
            · obtain rfl : j = 8 := by omega
              go_wp2_with fail
              go_roundw
              case rel => exact ⟨k + 1, s, by omega, by go_num, L2.fewer (L2.below T5.out (thK _ _ _ _) (thD _ _ _ _ _) (bdrew _ q)) (fun k g => g.elim)⟩
              case measure => simp [intOf]; omega
      · have hkd : k = n := by omega
        subst hkd
        have hgt : ¬ ((k : Int) < (k : Int)) := by omega
        have HB : Aside _ := hq.bel
        clear h hq
        go_wp2_with fail
        go_ret
        exact ⟨rfl, HB.out⟩
end Go.Proofs.Ytjkcdkoomipfkaa
