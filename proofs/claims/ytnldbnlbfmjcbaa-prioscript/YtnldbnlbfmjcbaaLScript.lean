/- Proved: the walk of the law PrioScript. -/
import Derived.Test.YtnldbnlbfmjcbaaLScript0
import Derived.Deep.RegionHeld3
namespace Go.Proofs.Ytnldbnlbfmjcbaa
open Go.RowKit Go.Sort
set_option linter.unusedVariables false

set_option maxRecDepth 100000 in
set_option maxHeartbeats 8000000 in
theorem script_walk (w : World) (r : Int) (hr : i64 r) (a : Option Addr) (n c : Nat) (l : List St) (hn : n ≤ maxLen) (h : InS w a n l) :
    Calls Try.prog 3 #[.int .i64 r, .slice a n c] w fun e w' => e = .returned (.bool true) ∧ Below w.heap.size w w' := by
  have mixed : Try.prog.follows .mixedOrders = true := by kernel_rfl
  unfold maxLen at hn
  by_cases hbig : 300 < n
  · have g : (300 : Int) < (n : Int) := by omega
    clear h
    go_enter Try.func3, Try.ntmps3
    go_wp2
    go_ret
    exact ⟨rfl, Below.refl _ _⟩
  · have g : ¬ (300 : Int) < (n : Int) := by omega
    have hl := h.1
    have NW := lnew (w := w) (W := w) r hr (Below.refl _ _)
    have NR := fun (W : World) (qb : Nat) (hW : LQ w W qb (clampR r) []) => rnew hW r hr
    obtain ⟨room, hrm⟩ : ∃ room, clampR r = room := ⟨_, rfl⟩
    rw [hrm] at NW NR
    have NA : Aside _ := NR
    clear NR hrm
    go_enter Try.func3, Try.ntmps3
    go_wp2_with fail
    refine NW.mono ?_
    rintro e w1 ⟨qb, rfl, h1, _⟩
    have R1 := NA.out w1 qb h1
    clear NW h1 NA
    go_wp2_with fail
    refine R1.mono ?_
    rintro e w2 ⟨rb, rfl, h2⟩
    have h2' := LR.rz h2
    clear R1 h2
    go_wp2_with fail
    go_loopw [7] (fun si wr => ∃ (k : Nat) (s : List M), k ≤ n ∧ si = .int .i64 k ∧ LRZ w wr (fun _ => False) qb rb room s s) (fun si _ => n - (intOf si).toNat)
    case atStart => exact ⟨0, [], Nat.zero_le _, rfl, h2'⟩
    case round =>
      clear h2'
      obtain ⟨k, s, hk, rfl, hq⟩ := hrel
      by_cases hlt : k < n
      · obtain ⟨x, hx⟩ : ∃ x, nthS l k = x := ⟨_, rfl⟩
        have hxw : swf x := by
          have e : nthS l k = l[k]'(by omega) := by simp [nthS, show k < l.length by omega]
          rw [← hx, e]; exact h.2.1 _ (List.getElem_mem _)
        obtain ⟨b, off, rfl, x0, x1, x2, x3, x4, x5, x6⟩ := h.cells hq.bel (i := k) (by omega) hx
        have hlt' : (k : Int) < (n : Int) := by omega
        obtain ⟨kd, ⟨b1, b2, b3⟩, b4, b5, b6⟩ := x
        dsimp only at x0 x1 x2 x3 x4 x5 x6
        have zz := hq.more (.cells #[.int .i64 kd, .int .i64 b1, .int .i64 b2, .int .i64 b3, .int .i64 b4, .int .i64 b5, .int .i64 b6] 32)
        have bx := BoxS.made wr (kd, (b1, b2, b3), b4, b5, b6)
        dsimp only at bx
        obtain ⟨sB, hsB⟩ : ∃ sB, wr.heap.size = sB := ⟨_, rfl⟩
        rw [hsB] at zz bx
        clear hq hx h
        by_cases k0 : kd = 0
        · subst k0
          have zd := zz.below (Below.refl _ _).drew
          have bd := bx.below (Below.refl _ _).drew
          have P1 := zpq zd ((b1, b2, b3), b4, b5, b6) hxw.2
          have P2 := fun (W : World) (hW : LRZ w W (fun k => False ∨ k = sB) qb rb room (pushS s room ((b1, b2, b3), b4, b5, b6)) s) => zpr hW ((b1, b2, b3), b4, b5, b6)
          obtain ⟨s2, hs2⟩ : ∃ s2, pushS s room ((b1, b2, b3), b4, b5, b6) = s2 := ⟨_, rfl⟩
          obtain ⟨C1, hC1⟩ : ∃ C1, pushC s room ((b1, b2, b3), b4, b5, b6) = C1 := ⟨_, rfl⟩
          rw [hs2, hC1] at P1
          simp only [hs2, hC1] at P2
          have P1' := P1.mono (R' := fun e w' => e = .returned (.int .i64 C1) ∧ LRZ w w' (fun k => False ∨ k = sB) qb rb room s2 s ∧ BoxS w' sB (0, ((b1, b2, b3), b4, b5, b6))) (fun e w' ⟨he, z', f'⟩ => ⟨he, z', bd.keep f' (fun g => g (.inr rfl))⟩)
          have P2' : ∀ W : World, LRZ w W (fun k => False ∨ k = sB) qb rb room s2 s → BoxS W sB (0, ((b1, b2, b3), b4, b5, b6)) → Calls Try.prog 12 #[.pointer (some ⟨rb, 0, none⟩), mv ((b1, b2, b3), b4, b5, b6)] W fun e w' => e = .returned (.int .i64 C1) ∧ LRZ w w' (fun k => False ∨ k = sB) qb rb room s2 s2 ∧ BoxS w' sB (0, ((b1, b2, b3), b4, b5, b6)) := fun W hW hb => (P2 W hW).mono fun e w' ⟨he, z', f'⟩ => ⟨he, z', hb.keep f' (fun g => g (.inr rfl))⟩
          have PP2 : Aside _ := P2'
          obtain ⟨d0, d1, d2, d3, d4, d5, d6⟩ := bx.cells
          dsimp only [mv] at P1' PP2 d0 d1 d2 d3 d4 d5 d6
          clear P1 P2 P2' hs2 hC1 zd bd bx zz
          go_wp2_with fail
          go_region_held3 (fun w' => w'.cell? ⟨sB, 1, none⟩ = some (.int .i64 b1) ∧ w'.cell? ⟨sB, 2, none⟩ = some (.int .i64 b2) ∧ w'.cell? ⟨sB, 3, none⟩ = some (.int .i64 b3) ∧ w'.cell? ⟨sB, 4, none⟩ = some (.int .i64 b4) ∧ w'.cell? ⟨sB, 5, none⟩ = some (.int .i64 b5) ∧ w'.cell? ⟨sB, 6, none⟩ = some (.int .i64 b6)) (go_keep) (first | (go_at_call 11; refine P1'.mono ?_; rintro e wA ⟨rfl, zA, bA⟩; obtain ⟨e0, e1, e2, e3, e4, e5, e6⟩ := bA.cells; dsimp only at e0 e1 e2 e3 e4 e5 e6) | (go_at_call 12; refine (PP2.out _ zA bA).mono ?_; rintro e wB ⟨rfl, zB, bB⟩; obtain ⟨f0, f1, f2, f3, f4, f5, f6⟩ := bB.cells; dsimp only at f0 f1 f2 f3 f4 f5 f6))
          clear P1' PP2
          have T0 := LRZ.r zB
          have hsT := T0.srt.2
          have N1 := nq T0
          have N2 := nr T0
          have L1 := lq T0
          have hT : s2.length ≤ 1000 := by omega
          have TA : Aside _ := T0
          clear zB T0 hsT
          go_wp2_with fail
          refine N1.mono ?_
          rintro e wN ⟨rfl, hwN⟩
          have hwN' := hwN.symm
          subst hwN'
          clear hwN N1
          go_wp2_with fail
          refine N2.mono ?_
          rintro e wN ⟨rfl, hwN⟩
          have hwN' := hwN.symm
          subst hwN'
          clear hwN N2
          go_wp2_with fail
          refine L1.mono ?_
          rintro e wL ⟨aL, cL, rfl, oL, bL⟩
          have T2 := LR.below TA.out bL
          have L2 := lr T2
          clear L1 bL
          go_wp2_with fail
          refine L2.mono ?_
          rintro e wM ⟨aM, cM, rfl, oM, bM⟩
          have T3 := T2.below bM
          have S3 := same_any (own_below oL bM) oM hT
          clear L2 bM T2 oL oM
          go_wp2_with fail
          refine S3.mono ?_
          rintro e wS ⟨rfl, bS⟩
          have T4 := (T3.below bS).rz
          have T5 : Aside _ := T4
          clear S3 bS T3 T4 TA
          go_wp2_with fail
          go_roundw
          case rel => exact ⟨k + 1, s2, by omega, by go_num, T5.out⟩
          case measure => simp [intOf]; omega
        by_cases k1 : kd = 1
        · subst k1
          have F1 := zfq zz
          have F2 := fun (Z : Nat → Prop) (W : World) (hW : LRZ w W Z qb rb room s s) => zfr hW
          obtain ⟨y, hy⟩ : ∃ y, s.headD zeroM = y := ⟨_, rfl⟩
          obtain ⟨ob, hob⟩ : ∃ ob, (!s.isEmpty) = ob := ⟨_, rfl⟩
          rw [hy, hob] at F1
          simp only [hy, hob] at F2
          obtain ⟨⟨y1, y2, y3⟩, y4, y5, y6⟩ := y
          dsimp only [mv] at F1 F2
          have FA : Aside _ := F2
          have ZZ : Aside _ := zz
          have BX : Aside _ := bx
          have HY : Hid _ := hy
          have HO : Hid _ := hob
          obtain ⟨d0, d1, d2, d3, d4, d5, d6⟩ := bx.cells
          dsimp only at d0 d1 d2 d3 d4 d5 d6
          clear F2 zz bx hy hob
          go_wp2_with fail
          refine F1.mono ?_
          rintro e w3 ⟨rfl, bel3⟩
          have z3 := (LRZ.below ZZ.out bel3).more (.cells #[.int .i64 y1, .int .i64 y2, .int .i64 y3, .int .i64 y4, .int .i64 y5, .int .i64 y6] 30)
          have s3 := BoxS.below BX.out bel3
          have hs3 := s3.lt
          have s3a := s3.below ((Below.refl _ w3).alloc (Nat.le_refl _) (.cells #[.int .i64 y1, .int .i64 y2, .int .i64 y3, .int .i64 y4, .int .i64 y5, .int .i64 y6] 30))
          have a3 := BoxM.made w3 ((y1, y2, y3), y4, y5, y6)
          dsimp only at a3
          obtain ⟨aB, haB⟩ : ∃ aB, w3.heap.size = aB := ⟨_, rfl⟩
          rw [haB] at z3 a3 hs3
          have F4 := FA.out _ _ z3
          have Z3 : Aside _ := z3
          have S3 : Aside _ := s3a
          have A3 : Aside _ := a3
          clear F1 bel3 ZZ BX s3 s3a z3 a3 FA d0 d1 d2 d3 d4 d5 d6 x0 x1 x2 x3 x4 x5 x6
          go_wp2_with fail
          refine F4.mono ?_
          rintro e w4 ⟨rfl, bel4⟩
          have z4 := (LRZ.below Z3.out bel4).more (.cells #[.int .i64 y1, .int .i64 y2, .int .i64 y3, .int .i64 y4, .int .i64 y5, .int .i64 y6] 30)
          have s4 := BoxS.below S3.out bel4
          have a4 := BoxM.below A3.out bel4
          have hs4 := s4.lt
          have ha4 := a4.lt
          have s4a := s4.below ((Below.refl _ w4).alloc (Nat.le_refl _) (.cells #[.int .i64 y1, .int .i64 y2, .int .i64 y3, .int .i64 y4, .int .i64 y5, .int .i64 y6] 30))
          have a4a := a4.below ((Below.refl _ w4).alloc (Nat.le_refl _) (.cells #[.int .i64 y1, .int .i64 y2, .int .i64 y3, .int .i64 y4, .int .i64 y5, .int .i64 y6] 30))
          have b4a := BoxM.made w4 ((y1, y2, y3), y4, y5, y6)
          dsimp only at b4a
          obtain ⟨bB, hbB⟩ : ∃ bB, w4.heap.size = bB := ⟨_, rfl⟩
          rw [hbB] at z4 b4a hs4 ha4
          have n1 : ¬ (sB = aB) := by omega
          have n2 : ¬ (aB = sB) := by omega
          have n3 : ¬ (sB = bB) := by omega
          have n4 : ¬ (bB = sB) := by omega
          have n5 : ¬ (aB = bB) := by omega
          have n6 : ¬ (bB = aB) := by omega
          obtain ⟨d0, d1, d2, d3, d4, d5, d6⟩ := s4.cells
          dsimp only at d0 d1 d2 d3 d4 d5 d6
          obtain ⟨m0, m1, m2, m3, m4, m5⟩ := a4.cells
          dsimp only at m0 m1 m2 m3 m4 m5
          clear F4 bel4 Z3 S3 A3 s4 a4
          have Q1 := (fun (Z : Nat → Prop) (W : World) (hW : LRZ w W Z qb rb room s s) => zoq hW) _ _ z4
          have Q2 := fun (Z : Nat → Prop) (W : World) (hW : LRZ w W Z qb rb room s.tail s) => zor hW
          rw [HY.out, HO.out] at Q1
          simp only [HY.out, HO.out] at Q2
          obtain ⟨s2, hs2⟩ : ∃ s2, s.tail = s2 := ⟨_, rfl⟩
          rw [hs2] at Q1
          simp only [hs2] at Q2
          dsimp only [mv] at Q1 Q2
          have QA : Aside _ := Q2
          have S4 : Aside _ := s4a
          have A4 : Aside _ := a4a
          have B4 : Aside _ := b4a
          clear Q2 hs2 s4a a4a b4a z4
          go_wp2_with fail
          refine Q1.mono ?_
          rintro e w5 ⟨rfl, z5, f5⟩
          have s5 := BoxS.keep S4.out f5 (fun g => g (.inl (.inl (.inr rfl))))
          have a5 := BoxM.keep A4.out f5 (fun g => g (.inl (.inr rfl)))
          have b5' := BoxM.keep B4.out f5 (fun g => g (.inr rfl))
          have z6 := z5.six (B := aB) (.inl (.inr rfl)) (.int .i64 y1) (.int .i64 y2) (.int .i64 y3) (.int .i64 y4) (.int .i64 y5) (.int .i64 y6)
          have f6 := fr6 w5 aB (.int .i64 y1) (.int .i64 y2) (.int .i64 y3) (.int .i64 y4) (.int .i64 y5) (.int .i64 y6)
          have s6 := s5.keep f6 n1
          have a6 := a5.put ((y1, y2, y3), y4, y5, y6)
          have b6' := b5'.keep f6 n6
          dsimp only at a6
          have Q6 := QA.out _ _ z6
          have S6 : Aside _ := s6
          have A6 : Aside _ := a6
          have B6 : Aside _ := b6'
          clear d0 d1 d2 d3 d4 d5 d6 m0 m1 m2 m3 m4 m5
          obtain ⟨d0, d1, d2, d3, d4, d5, d6⟩ := s5.cells
          dsimp only at d0 d1 d2 d3 d4 d5 d6
          obtain ⟨m0, m1, m2, m3, m4, m5⟩ := a5.cells
          dsimp only at m0 m1 m2 m3 m4 m5
          have fz := a5.2
          clear Q1 QA S4 A4 B4 s5 a5 b5' z5 f5 z6 f6 s6 a6 b6'
          go_wp2_with fail
          refine Q6.mono ?_
          rintro e w7 ⟨rfl, z7, f7⟩
          have s7 := BoxS.keep S6.out f7 (fun g => g (.inl (.inl (.inr rfl))))
          have a7 := BoxM.keep A6.out f7 (fun g => g (.inl (.inr rfl)))
          have b7 := BoxM.keep B6.out f7 (fun g => g (.inr rfl))
          have z8 := z7.six (B := bB) (.inr rfl) (.int .i64 y1) (.int .i64 y2) (.int .i64 y3) (.int .i64 y4) (.int .i64 y5) (.int .i64 y6)
          clear d0 d1 d2 d3 d4 d5 d6 m0 m1 m2 m3 m4 m5 fz
          obtain ⟨d0, d1, d2, d3, d4, d5, d6⟩ := s7.cells
          dsimp only at d0 d1 d2 d3 d4 d5 d6
          obtain ⟨m0, m1, m2, m3, m4, m5⟩ := a7.cells
          dsimp only at m0 m1 m2 m3 m4 m5
          obtain ⟨p0, p1, p2, p3, p4, p5⟩ := b7.cells
          dsimp only at p0 p1 p2 p3 p4 p5
          have fz := b7.2
          clear Q6 S6 A6 B6 s7 a7 b7 z7 f7
          have T0 := LRZ.r z8
          have hsT := T0.srt.2
          have N1 := nq T0
          have N2 := nr T0
          have L1 := lq T0
          have hT : s2.length ≤ 1000 := by omega
          have TA : Aside _ := T0
          clear z8 T0 hsT
          go_wp2_with fail
          refine N1.mono ?_
          rintro e wN ⟨rfl, hwN⟩
          have hwN' := hwN.symm
          subst hwN'
          clear hwN N1
          go_wp2_with fail
          refine N2.mono ?_
          rintro e wN ⟨rfl, hwN⟩
          have hwN' := hwN.symm
          subst hwN'
          clear hwN N2
          go_wp2_with fail
          refine L1.mono ?_
          rintro e wL ⟨aL, cL, rfl, oL, bL⟩
          have T2 := LR.below TA.out bL
          have L2 := lr T2
          clear L1 bL
          go_wp2_with fail
          refine L2.mono ?_
          rintro e wM ⟨aM, cM, rfl, oM, bM⟩
          have T3 := T2.below bM
          have S3 := same_any (own_below oL bM) oM hT
          clear L2 bM T2 oL oM
          go_wp2_with fail
          refine S3.mono ?_
          rintro e wS ⟨rfl, bS⟩
          have T4 := (T3.below bS).rz
          have T5 : Aside _ := T4
          clear S3 bS T3 T4 TA
          go_wp2_with fail
          go_roundw
          case rel => exact ⟨k + 1, s2, by omega, by go_num, T5.out⟩
          case measure => simp [intOf]; omega
        by_cases k2 : kd = 2
        · subst k2
          have F1 := zfq zz
          have F2 := fun (Z : Nat → Prop) (W : World) (hW : LRZ w W Z qb rb room s s) => zfr hW
          obtain ⟨y, hy⟩ : ∃ y, s.headD zeroM = y := ⟨_, rfl⟩
          obtain ⟨ob, hob⟩ : ∃ ob, (!s.isEmpty) = ob := ⟨_, rfl⟩
          rw [hy, hob] at F1
          simp only [hy, hob] at F2
          obtain ⟨⟨y1, y2, y3⟩, y4, y5, y6⟩ := y
          dsimp only [mv] at F1 F2
          have FA : Aside _ := F2
          have ZZ : Aside _ := zz
          have BX : Aside _ := bx
          have HY : Hid _ := hy
          have HO : Hid _ := hob
          obtain ⟨d0, d1, d2, d3, d4, d5, d6⟩ := bx.cells
          dsimp only at d0 d1 d2 d3 d4 d5 d6
          clear F2 zz bx hy hob
          go_wp2_with fail
          refine F1.mono ?_
          rintro e w3 ⟨rfl, bel3⟩
          have z3 := (LRZ.below ZZ.out bel3).more (.cells #[.int .i64 y1, .int .i64 y2, .int .i64 y3, .int .i64 y4, .int .i64 y5, .int .i64 y6] 30)
          have s3 := BoxS.below BX.out bel3
          have hs3 := s3.lt
          have s3a := s3.below ((Below.refl _ w3).alloc (Nat.le_refl _) (.cells #[.int .i64 y1, .int .i64 y2, .int .i64 y3, .int .i64 y4, .int .i64 y5, .int .i64 y6] 30))
          have a3 := BoxM.made w3 ((y1, y2, y3), y4, y5, y6)
          dsimp only at a3
          obtain ⟨aB, haB⟩ : ∃ aB, w3.heap.size = aB := ⟨_, rfl⟩
          rw [haB] at z3 a3 hs3
          have F4 := FA.out _ _ z3
          have Z3 : Aside _ := z3
          have S3 : Aside _ := s3a
          have A3 : Aside _ := a3
          clear F1 bel3 ZZ BX s3 s3a z3 a3 FA d0 d1 d2 d3 d4 d5 d6 x0 x1 x2 x3 x4 x5 x6
          go_wp2_with fail
          refine F4.mono ?_
          rintro e w4 ⟨rfl, bel4⟩
          have z4 := (LRZ.below Z3.out bel4).more (.cells #[.int .i64 y1, .int .i64 y2, .int .i64 y3, .int .i64 y4, .int .i64 y5, .int .i64 y6] 30)
          have s4 := BoxS.below S3.out bel4
          have a4 := BoxM.below A3.out bel4
          have hs4 := s4.lt
          have ha4 := a4.lt
          have s4a := s4.below ((Below.refl _ w4).alloc (Nat.le_refl _) (.cells #[.int .i64 y1, .int .i64 y2, .int .i64 y3, .int .i64 y4, .int .i64 y5, .int .i64 y6] 30))
          have a4a := a4.below ((Below.refl _ w4).alloc (Nat.le_refl _) (.cells #[.int .i64 y1, .int .i64 y2, .int .i64 y3, .int .i64 y4, .int .i64 y5, .int .i64 y6] 30))
          have b4a := BoxM.made w4 ((y1, y2, y3), y4, y5, y6)
          dsimp only at b4a
          obtain ⟨bB, hbB⟩ : ∃ bB, w4.heap.size = bB := ⟨_, rfl⟩
          rw [hbB] at z4 b4a hs4 ha4
          have n1 : ¬ (sB = aB) := by omega
          have n2 : ¬ (aB = sB) := by omega
          have n3 : ¬ (sB = bB) := by omega
          have n4 : ¬ (bB = sB) := by omega
          have n5 : ¬ (aB = bB) := by omega
          have n6 : ¬ (bB = aB) := by omega
          obtain ⟨d0, d1, d2, d3, d4, d5, d6⟩ := s4.cells
          dsimp only at d0 d1 d2 d3 d4 d5 d6
          obtain ⟨m0, m1, m2, m3, m4, m5⟩ := a4.cells
          dsimp only at m0 m1 m2 m3 m4 m5
          clear F4 bel4 Z3 S3 A3 s4 a4
          clear s4a a4a b4a
          have T0 := LRZ.r z4
          have hsT := T0.srt.2
          have N1 := nq T0
          have N2 := nr T0
          have L1 := lq T0
          have hT : s.length ≤ 1000 := by omega
          have TA : Aside _ := T0
          clear z4 T0 hsT
          go_wp2_with fail
          refine N1.mono ?_
          rintro e wN ⟨rfl, hwN⟩
          have hwN' := hwN.symm
          subst hwN'
          clear hwN N1
          go_wp2_with fail
          refine N2.mono ?_
          rintro e wN ⟨rfl, hwN⟩
          have hwN' := hwN.symm
          subst hwN'
          clear hwN N2
          go_wp2_with fail
          refine L1.mono ?_
          rintro e wL ⟨aL, cL, rfl, oL, bL⟩
          have T2 := LR.below TA.out bL
          have L2 := lr T2
          clear L1 bL
          go_wp2_with fail
          refine L2.mono ?_
          rintro e wM ⟨aM, cM, rfl, oM, bM⟩
          have T3 := T2.below bM
          have S3 := same_any (own_below oL bM) oM hT
          clear L2 bM T2 oL oM
          go_wp2_with fail
          refine S3.mono ?_
          rintro e wS ⟨rfl, bS⟩
          have T4 := (T3.below bS).rz
          have T5 : Aside _ := T4
          clear S3 bS T3 T4 TA
          go_wp2_with fail
          go_roundw
          case rel => exact ⟨k + 1, s, by omega, by go_num, T5.out⟩
          case measure => simp [intOf]; omega
        by_cases k3 : kd = 3
        · subst k3
          have F1 := zfq zz
          have F2 := fun (Z : Nat → Prop) (W : World) (hW : LRZ w W Z qb rb room s s) => zfr hW
          obtain ⟨y, hy⟩ : ∃ y, s.headD zeroM = y := ⟨_, rfl⟩
          obtain ⟨ob, hob⟩ : ∃ ob, (!s.isEmpty) = ob := ⟨_, rfl⟩
          rw [hy, hob] at F1
          simp only [hy, hob] at F2
          obtain ⟨⟨y1, y2, y3⟩, y4, y5, y6⟩ := y
          dsimp only [mv] at F1 F2
          have FA : Aside _ := F2
          have ZZ : Aside _ := zz
          have BX : Aside _ := bx
          have HY : Hid _ := hy
          have HO : Hid _ := hob
          obtain ⟨d0, d1, d2, d3, d4, d5, d6⟩ := bx.cells
          dsimp only at d0 d1 d2 d3 d4 d5 d6
          clear F2 zz bx hy hob
          go_wp2_with fail
          refine F1.mono ?_
          rintro e w3 ⟨rfl, bel3⟩
          have z3 := (LRZ.below ZZ.out bel3).more (.cells #[.int .i64 y1, .int .i64 y2, .int .i64 y3, .int .i64 y4, .int .i64 y5, .int .i64 y6] 30)
          have s3 := BoxS.below BX.out bel3
          have hs3 := s3.lt
          have s3a := s3.below ((Below.refl _ w3).alloc (Nat.le_refl _) (.cells #[.int .i64 y1, .int .i64 y2, .int .i64 y3, .int .i64 y4, .int .i64 y5, .int .i64 y6] 30))
          have a3 := BoxM.made w3 ((y1, y2, y3), y4, y5, y6)
          dsimp only at a3
          obtain ⟨aB, haB⟩ : ∃ aB, w3.heap.size = aB := ⟨_, rfl⟩
          rw [haB] at z3 a3 hs3
          have F4 := FA.out _ _ z3
          have Z3 : Aside _ := z3
          have S3 : Aside _ := s3a
          have A3 : Aside _ := a3
          clear F1 bel3 ZZ BX s3 s3a z3 a3 FA d0 d1 d2 d3 d4 d5 d6 x0 x1 x2 x3 x4 x5 x6
          go_wp2_with fail
          refine F4.mono ?_
          rintro e w4 ⟨rfl, bel4⟩
          have z4 := (LRZ.below Z3.out bel4).more (.cells #[.int .i64 y1, .int .i64 y2, .int .i64 y3, .int .i64 y4, .int .i64 y5, .int .i64 y6] 30)
          have s4 := BoxS.below S3.out bel4
          have a4 := BoxM.below A3.out bel4
          have hs4 := s4.lt
          have ha4 := a4.lt
          have s4a := s4.below ((Below.refl _ w4).alloc (Nat.le_refl _) (.cells #[.int .i64 y1, .int .i64 y2, .int .i64 y3, .int .i64 y4, .int .i64 y5, .int .i64 y6] 30))
          have a4a := a4.below ((Below.refl _ w4).alloc (Nat.le_refl _) (.cells #[.int .i64 y1, .int .i64 y2, .int .i64 y3, .int .i64 y4, .int .i64 y5, .int .i64 y6] 30))
          have b4a := BoxM.made w4 ((y1, y2, y3), y4, y5, y6)
          dsimp only at b4a
          obtain ⟨bB, hbB⟩ : ∃ bB, w4.heap.size = bB := ⟨_, rfl⟩
          rw [hbB] at z4 b4a hs4 ha4
          have n1 : ¬ (sB = aB) := by omega
          have n2 : ¬ (aB = sB) := by omega
          have n3 : ¬ (sB = bB) := by omega
          have n4 : ¬ (bB = sB) := by omega
          have n5 : ¬ (aB = bB) := by omega
          have n6 : ¬ (bB = aB) := by omega
          obtain ⟨d0, d1, d2, d3, d4, d5, d6⟩ := s4.cells
          dsimp only at d0 d1 d2 d3 d4 d5 d6
          obtain ⟨m0, m1, m2, m3, m4, m5⟩ := a4.cells
          dsimp only at m0 m1 m2 m3 m4 m5
          clear F4 bel4 Z3 S3 A3 s4 a4
          have Q1 := (fun (Z : Nat → Prop) (W : World) (hW : LRZ w W Z qb rb room s s) => zdq hW (b1, b2, b3) hxw.2.1) _ _ z4
          have Q2 := fun (Z : Nat → Prop) (W : World) (hW : LRZ w W Z qb rb room (del s (b1, b2, b3)) s) => zdr hW (b1, b2, b3)
          obtain ⟨v, hv⟩ : ∃ v, fnd s (b1, b2, b3) = v := ⟨_, rfl⟩
          obtain ⟨o2, ho2⟩ : ∃ o2, hasK s (b1, b2, b3) = o2 := ⟨_, rfl⟩
          obtain ⟨s2, hs2⟩ : ∃ s2, del s (b1, b2, b3) = s2 := ⟨_, rfl⟩
          rw [hv, ho2, hs2] at Q1
          simp only [hv, ho2, hs2] at Q2
          clear hv ho2
          obtain ⟨⟨v1, v2, v3⟩, v4, v5, v6⟩ := v
          dsimp only [kv] at Q1 Q2
          dsimp only [mv] at Q1 Q2
          have QA : Aside _ := Q2
          have S4 : Aside _ := s4a
          have A4 : Aside _ := a4a
          have B4 : Aside _ := b4a
          clear Q2 hs2 s4a a4a b4a z4
          go_wp2_with fail
          refine Q1.mono ?_
          rintro e w5 ⟨rfl, z5, f5⟩
          have s5 := BoxS.keep S4.out f5 (fun g => g (.inl (.inl (.inr rfl))))
          have a5 := BoxM.keep A4.out f5 (fun g => g (.inl (.inr rfl)))
          have b5' := BoxM.keep B4.out f5 (fun g => g (.inr rfl))
          have z6 := z5.six (B := aB) (.inl (.inr rfl)) (.int .i64 v1) (.int .i64 v2) (.int .i64 v3) (.int .i64 v4) (.int .i64 v5) (.int .i64 v6)
          have f6 := fr6 w5 aB (.int .i64 v1) (.int .i64 v2) (.int .i64 v3) (.int .i64 v4) (.int .i64 v5) (.int .i64 v6)
          have s6 := s5.keep f6 n1
          have a6 := a5.put ((v1, v2, v3), v4, v5, v6)
          have b6' := b5'.keep f6 n6
          dsimp only at a6
          have Q6 := QA.out _ _ z6
          have S6 : Aside _ := s6
          have A6 : Aside _ := a6
          have B6 : Aside _ := b6'
          clear d0 d1 d2 d3 d4 d5 d6 m0 m1 m2 m3 m4 m5
          obtain ⟨d0, d1, d2, d3, d4, d5, d6⟩ := s5.cells
          dsimp only at d0 d1 d2 d3 d4 d5 d6
          obtain ⟨m0, m1, m2, m3, m4, m5⟩ := a5.cells
          dsimp only at m0 m1 m2 m3 m4 m5
          have fz := a5.2
          clear Q1 QA S4 A4 B4 s5 a5 b5' z5 f5 z6 f6 s6 a6 b6'
          go_wp2_with fail
          refine Q6.mono ?_
          rintro e w7 ⟨rfl, z7, f7⟩
          have s7 := BoxS.keep S6.out f7 (fun g => g (.inl (.inl (.inr rfl))))
          have a7 := BoxM.keep A6.out f7 (fun g => g (.inl (.inr rfl)))
          have b7 := BoxM.keep B6.out f7 (fun g => g (.inr rfl))
          have z8 := z7.six (B := bB) (.inr rfl) (.int .i64 v1) (.int .i64 v2) (.int .i64 v3) (.int .i64 v4) (.int .i64 v5) (.int .i64 v6)
          clear d0 d1 d2 d3 d4 d5 d6 m0 m1 m2 m3 m4 m5 fz
          obtain ⟨d0, d1, d2, d3, d4, d5, d6⟩ := s7.cells
          dsimp only at d0 d1 d2 d3 d4 d5 d6
          obtain ⟨m0, m1, m2, m3, m4, m5⟩ := a7.cells
          dsimp only at m0 m1 m2 m3 m4 m5
          obtain ⟨p0, p1, p2, p3, p4, p5⟩ := b7.cells
          dsimp only at p0 p1 p2 p3 p4 p5
          have fz := b7.2
          clear Q6 S6 A6 B6 s7 a7 b7 z7 f7
          have T0 := LRZ.r z8
          have hsT := T0.srt.2
          have N1 := nq T0
          have N2 := nr T0
          have L1 := lq T0
          have hT : s2.length ≤ 1000 := by omega
          have TA : Aside _ := T0
          clear z8 T0 hsT
          go_wp2_with fail
          refine N1.mono ?_
          rintro e wN ⟨rfl, hwN⟩
          have hwN' := hwN.symm
          subst hwN'
          clear hwN N1
          go_wp2_with fail
          refine N2.mono ?_
          rintro e wN ⟨rfl, hwN⟩
          have hwN' := hwN.symm
          subst hwN'
          clear hwN N2
          go_wp2_with fail
          refine L1.mono ?_
          rintro e wL ⟨aL, cL, rfl, oL, bL⟩
          have T2 := LR.below TA.out bL
          have L2 := lr T2
          clear L1 bL
          go_wp2_with fail
          refine L2.mono ?_
          rintro e wM ⟨aM, cM, rfl, oM, bM⟩
          have T3 := T2.below bM
          have S3 := same_any (own_below oL bM) oM hT
          clear L2 bM T2 oL oM
          go_wp2_with fail
          refine S3.mono ?_
          rintro e wS ⟨rfl, bS⟩
          have T4 := (T3.below bS).rz
          have T5 : Aside _ := T4
          clear S3 bS T3 T4 TA
          go_wp2_with fail
          go_roundw
          case rel => exact ⟨k + 1, s2, by omega, by go_num, T5.out⟩
          case measure => simp [intOf]; omega
        by_cases k4 : kd = 4
        · subst k4
          have zd := zz.below (Below.refl _ _).drew
          have bd := bx.below (Below.refl _ _).drew
          have hsd := zd.r.srt.2
          have hll := low_len s b1
          have hT4 : (low s b1).length ≤ 1000 := by omega
          have B1 := bq zd.r b1
          have B1' := B1.mono (R' := fun e w' => ∃ a cap, e = .returned (.slice a (low s b1).length cap) ∧ Own w' (.slice a (low s b1).length cap) (low s b1) ∧ LRZ w w' (fun k => False ∨ k = sB) qb rb room s s ∧ BoxS w' sB (4, ((b1, b2, b3), b4, b5, b6))) (fun e w' ⟨a, cap, he, ho, hb⟩ => ⟨a, cap, he, ho, zd.below hb, bd.below hb⟩)
          have B2' : ∀ (W : World) (v : Value), LRZ w W (fun k => False ∨ k = sB) qb rb room s s → BoxS W sB (4, ((b1, b2, b3), b4, b5, b6)) → Own W v (low s b1) → Calls Try.prog 21 #[.pointer (some ⟨rb, 0, none⟩), .int .i64 b1] W fun e w' => ∃ a cap, e = .returned (.slice a (low s b1).length cap) ∧ Own w' (.slice a (low s b1).length cap) (low s b1) ∧ Own w' v (low s b1) ∧ LRZ w w' (fun k => False ∨ k = sB) qb rb room s s ∧ BoxS w' sB (4, ((b1, b2, b3), b4, b5, b6)) := fun W v hW hb hv => (br hW.r b1).mono fun e w' ⟨a, cap, he, ho, hbl⟩ => ⟨a, cap, he, ho, own_below hv hbl, hW.below hbl, hb.below hbl⟩
          have B3' : ∀ (W : World) (v v2 : Value), LRZ w W (fun k => False ∨ k = sB) qb rb room s s → BoxS W sB (4, ((b1, b2, b3), b4, b5, b6)) → Own W v (low s b1) → Own W v2 (low s b1) → Calls Try.prog 19 #[v, v2] W fun e w' => e = .returned (.bool true) ∧ LRZ w w' (fun k => False ∨ k = sB) qb rb room s s ∧ BoxS w' sB (4, ((b1, b2, b3), b4, b5, b6)) := fun W v v2 hW hb hv hv2 => (same_any hv hv2 hT4).mono fun e w' ⟨he, hbl⟩ => ⟨he, hW.below hbl, hb.below hbl⟩
          have BB2 : Aside _ := B2'
          have BB3 : Aside _ := B3'
          obtain ⟨d0, d1, d2, d3, d4, d5, d6⟩ := bx.cells
          dsimp only at d0 d1 d2 d3 d4 d5 d6
          clear B1 B2' B3' zd bd bx zz hsd hll hT4
          go_wp2_with fail
          go_region_held3 (fun w' => w'.cell? ⟨sB, 1, none⟩ = some (.int .i64 b1)) (go_keep) (first | (go_at_call 20; refine B1'.mono ?_; rintro e wA ⟨aA, cA, rfl, oA, zA, bA⟩; have e1 := bA.cells.2.1; dsimp only at e1) | (go_at_call 21; refine (BB2.out _ _ zA bA oA).mono ?_; rintro e wC ⟨aC, cC, rfl, oC, oA', zC, bC⟩; have f1 := bC.cells.2.1; dsimp only at f1) | (go_at_call 19; refine (BB3.out _ _ _ zC bC oA' oC).mono ?_; rintro e wD ⟨rfl, zD, bD⟩; have g1 := bD.cells.2.1; dsimp only at g1))
          clear B1' BB2 BB3
          have T0 := LRZ.r zD
          have hsT := T0.srt.2
          have N1 := nq T0
          have N2 := nr T0
          have L1 := lq T0
          have hT : s.length ≤ 1000 := by omega
          have TA : Aside _ := T0
          clear zD T0 hsT
          go_wp2_with fail
          refine N1.mono ?_
          rintro e wN ⟨rfl, hwN⟩
          have hwN' := hwN.symm
          subst hwN'
          clear hwN N1
          go_wp2_with fail
          refine N2.mono ?_
          rintro e wN ⟨rfl, hwN⟩
          have hwN' := hwN.symm
          subst hwN'
          clear hwN N2
          go_wp2_with fail
          refine L1.mono ?_
          rintro e wL ⟨aL, cL, rfl, oL, bL⟩
          have T2 := LR.below TA.out bL
          have L2 := lr T2
          clear L1 bL
          go_wp2_with fail
          refine L2.mono ?_
          rintro e wM ⟨aM, cM, rfl, oM, bM⟩
          have T3 := T2.below bM
          have S3 := same_any (own_below oL bM) oM hT
          clear L2 bM T2 oL oM
          go_wp2_with fail
          refine S3.mono ?_
          rintro e wS ⟨rfl, bS⟩
          have T4 := (T3.below bS).rz
          have T5 : Aside _ := T4
          clear S3 bS T3 T4 TA
          go_wp2_with fail
          go_roundw
          case rel => exact ⟨k + 1, s, by omega, by go_num, T5.out⟩
          case measure => simp [intOf]; omega
        have q0 : (kd == 0) = false := by simpa using k0
        have q1 : (kd == 1) = false := by simpa using k1
        have q2 : (kd == 2) = false := by simpa using k2
        have q3 : (kd == 3) = false := by simpa using k3
        have q4 : (kd == 4) = false := by simpa using k4
        obtain ⟨d0, d1, d2, d3, d4, d5, d6⟩ := bx.cells
        dsimp only at d0 d1 d2 d3 d4 d5 d6
        clear bx
        have T0 := LRZ.r zz
        have hsT := T0.srt.2
        have N1 := nq T0
        have N2 := nr T0
        have L1 := lq T0
        have hT : s.length ≤ 1000 := by omega
        have TA : Aside _ := T0
        clear zz T0 hsT
        go_wp2_with fail
        refine N1.mono ?_
        rintro e wN ⟨rfl, hwN⟩
        have hwN' := hwN.symm
        subst hwN'
        clear hwN N1
        go_wp2_with fail
        refine N2.mono ?_
        rintro e wN ⟨rfl, hwN⟩
        have hwN' := hwN.symm
        subst hwN'
        clear hwN N2
        go_wp2_with fail
        refine L1.mono ?_
        rintro e wL ⟨aL, cL, rfl, oL, bL⟩
        have T2 := LR.below TA.out bL
        have L2 := lr T2
        clear L1 bL
        go_wp2_with fail
        refine L2.mono ?_
        rintro e wM ⟨aM, cM, rfl, oM, bM⟩
        have T3 := T2.below bM
        have S3 := same_any (own_below oL bM) oM hT
        clear L2 bM T2 oL oM
        go_wp2_with fail
        refine S3.mono ?_
        rintro e wS ⟨rfl, bS⟩
        have T4 := (T3.below bS).rz
        have T5 : Aside _ := T4
        clear S3 bS T3 T4 TA
        go_wp2_with fail
        go_roundw
        case rel => exact ⟨k + 1, s, by omega, by go_num, T5.out⟩
        case measure => simp [intOf]; omega
      · have hkd : k = n := by omega
        subst hkd
        have hgt : ¬ ((k : Int) < (k : Int)) := by omega
        have m7 : mwf ((-7, 0, 0), 0, 0, 0) := by unfold mwf kwf i64; simp
        have P1 := zpq hq ((-7, 0, 0), 0, 0, 0) m7
        have P2 := fun (W : World) (hW : LRZ w W (fun _ => False) qb rb room (pushS s room ((-7, 0, 0), 0, 0, 0)) s) => zpr hW ((-7, 0, 0), 0, 0, 0)
        obtain ⟨s2, hs2⟩ : ∃ s2, pushS s room ((-7, 0, 0), 0, 0, 0) = s2 := ⟨_, rfl⟩
        obtain ⟨C1, hC1⟩ : ∃ C1, pushC s room ((-7, 0, 0), 0, 0, 0) = C1 := ⟨_, rfl⟩
        rw [hs2, hC1] at P1
        simp only [hs2, hC1] at P2
        dsimp only [mv] at P1 P2
        have PP2 : Aside _ := P2
        clear P2 hs2 hC1 m7 h hq
        go_wp2_with fail
        refine P1.mono ?_
        rintro e w3 ⟨rfl, q3, _⟩
        have P3 := PP2.out _ q3
        clear P1 q3
        go_wp2_with fail
        refine P3.mono ?_
        rintro e w4 ⟨rfl, q4, _⟩
        have N1 := nq q4.r
        have N2 := nr q4.r
        have hbel := q4.bel
        clear P3 q4 PP2
        go_wp2_with fail
        refine N1.mono ?_
        rintro e wN ⟨rfl, hwN⟩
        have hwN' := hwN.symm
        subst hwN'
        clear hwN N1
        go_wp2_with fail
        refine N2.mono ?_
        rintro e wN ⟨rfl, hwN⟩
        have hwN' := hwN.symm
        subst hwN'
        clear hwN N2
        go_wp2_with fail
        go_ret
        exact ⟨rfl, hbel⟩
end Go.Proofs.Ytnldbnlbfmjcbaa
