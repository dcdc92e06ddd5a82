/- Proved: the walk of the law CalendarGone. -/
import Derived.Test.YtjkcdkoomipfkaaLScr0
import Derived.Deep.RegionHeld3
import Derived.Deep.CutBlock
namespace Go.Proofs.Ytjkcdkoomipfkaa
open Go.RowKit Go.Sort Go.Lib
set_option linter.unusedVariables false

theorem hasK_del (s : List M) (k : K) : hasK (del s k) k = false := by
  simp only [hasK, del, List.any_eq_false, List.mem_filter, decide_eq_true_eq]
  rintro x ⟨_, hx⟩ e
  exact hx e

set_option maxRecDepth 100000 in
set_option maxHeartbeats 16000000 in
theorem gone_walk (w : World) (r1 : Int) (hr1 : i64 r1) (a : Option Addr) (n c : Nat) (l : List M) (hn : n ≤ maxLen) (h : InM w a n l) (k1 k2 k3 : Int) :
    Calls Try.prog 7 #[.int .i64 r1, .slice a n c, .agg #[.int .i64 k1, .int .i64 k2, .int .i64 k3]] w fun e w' => e = .returned (.bool true) ∧ Below w.heap.size w w' := by
  have mixed : Try.prog.follows .mixedOrders = true := by kernel_rfl
  unfold maxLen at hn
  obtain ⟨w0, hw0⟩ : ∃ w0, w0 = w.alloc (.cells #[.int .i64 k1, .int .i64 k2, .int .i64 k3] 30) := ⟨_, rfl⟩
  have b0 : Below w.heap.size w w0 := by rw [hw0]; exact (Below.refl _ _).alloc (Nat.le_refl _) _
  have BK : Aside _ := b0
  have s0 : w0.heap.size = w.heap.size + 1 := by rw [hw0]; simp
  have HW : Hid _ := hw0
  by_cases hbig : 64 < n
  · have g : (64 : Int) < (n : Int) := by omega
    clear h hw0 b0
    go_enter Try.func7, Try.ntmps7
    go_wp2_with fail
    rw [← HW.out]
    go_ret
    exact ⟨rfl, BK.out⟩
  · have g : ¬ (64 : Int) < (n : Int) := by omega
    have hl := h.1
    have c0 : w0.cell? ⟨w.heap.size, 0, none⟩ = some (.int .i64 k1) := by rw [hw0]; simp only [World.cell?, heap_alloc_new]; rfl
    have c1 : w0.cell? ⟨w.heap.size, 1, none⟩ = some (.int .i64 k2) := by rw [hw0]; simp only [World.cell?, heap_alloc_new]; rfl
    have c2 : w0.cell? ⟨w.heap.size, 2, none⟩ = some (.int .i64 k3) := by rw [hw0]; simp only [World.cell?, heap_alloc_new]; rfl
    obtain ⟨kB, hkB⟩ : ∃ kB, w.heap.size = kB := ⟨_, rfl⟩
    have hk0 : kB < w0.heap.size := by omega
    rw [hkB] at c0 c1 c2
    have KC : Aside (∀ W, Below w0.heap.size w0 W → W.cell? ⟨kB, 0, none⟩ = some (.int .i64 k1) ∧ W.cell? ⟨kB, 1, none⟩ = some (.int .i64 k2) ∧ W.cell? ⟨kB, 2, none⟩ = some (.int .i64 k3)) := fun W hW => ⟨(hW.cell (p := ⟨kB, 0, none⟩) hk0).trans c0, (hW.cell (p := ⟨kB, 1, none⟩) hk0).trans c1, (hW.cell (p := ⟨kB, 2, none⟩) hk0).trans c2⟩
    have h0 := h.keep b0
    have NW := knew 64 r1 w0 i64_64 hr1
    have NR := fun (W : World) => dnew 64 r1 W i64_64 hr1
    rw [clamp64] at NW
    simp only [clamp64] at NR
    obtain ⟨e1, he1⟩ : ∃ e1, clampD r1 = e1 := ⟨_, rfl⟩
    rw [he1] at NW
    simp only [he1] at NR
    have NA : Aside _ := NR
    have HKB : Hid _ := hkB
    clear NR he1 h hw0 b0 c0 c1 c2 hk0
    go_enter Try.func7, Try.ntmps7
    go_wp2_with fail
    rw [← HW.out]
    refine NW.mono ?_
    rintro e w1 ⟨pb, F1, rfl, h1, hF1, hb1⟩
    have R1 := NA.out w1
    clear NW NA
    go_wp2_with fail
    refine R1.mono ?_
    rintro e w2 ⟨db, rb, F2, rfl, h2, hF2, hb2⟩
    have h2' : Aside _ := (L2.start (thK _ _ _ _) h1 hF1 hb1 h2 hF2 hb2 : L2 w0 w2 (fun _ => False) (PK pb 64 e1 []) (PD db rb 64 e1 []))
    clear R1 h1 h2 hF1 hF2 hb1 hb2
    go_wp2_with fail
    go_loopw [9] (fun si wr => ∃ (k : Nat) (s : List M), k ≤ n ∧ si = .int .i64 k ∧ L2 w0 wr (fun _ => False) (PK pb 64 e1 s) (PD db rb 64 e1 s)) (fun si _ => n - (intOf si).toNat)
    case atStart => exact ⟨0, [], Nat.zero_le _, rfl, h2'.out⟩
    case round =>
      clear h2'
      obtain ⟨k, s, hk, rfl, hq⟩ := hrel
      by_cases hlt : k < n
      · obtain ⟨b, off, rfl, hB, hc⟩ := h0.2.2 (by omega)
        obtain ⟨x, hx⟩ : ∃ x, nth l k = x := ⟨_, rfl⟩
        have hkl : k < l.length := by omega
        have CE : Aside (∀ W, Below w0.heap.size w0 W → W.cell? ⟨b, off + k * 6, none⟩ = some (.int .i64 x.1.1) ∧ W.cell? ⟨b, off + k * 6 + 1, none⟩ = some (.int .i64 x.1.2.1) ∧ W.cell? ⟨b, off + k * 6 + 2, none⟩ = some (.int .i64 x.1.2.2) ∧ W.cell? ⟨b, off + k * 6 + 3, none⟩ = some (.int .i64 x.2.1) ∧ W.cell? ⟨b, off + k * 6 + 4, none⟩ = some (.int .i64 x.2.2.1) ∧ W.cell? ⟨b, off + k * 6 + 5, none⟩ = some (.int .i64 x.2.2.2)) := fun W hW => by
          rw [nth_get l k hkl] at hx
          subst hx
          have cc := fun c hc6 => (hW.cell (p := ⟨b, off + k * 6 + c, none⟩) hB).trans (hc k hkl c hc6)
          exact ⟨cc 0 (by omega), cc 1 (by omega), cc 2 (by omega), cc 3 (by omega), cc 4 (by omega), cc 5 (by omega)⟩
        have hlt' : (k : Int) < (n : Int) := by omega
        obtain ⟨⟨b1, b2, b3⟩, b4, b5, b6⟩ := x
        dsimp only at CE
        have zd := hq.below (thK _ _ _ _) (thD _ _ _ _ _) (Below.refl _ _).drew
        have P1 := zd.callP (thD _ _ _ _ _) (fun F hF => kpush hF ((b1, b2, b3), b4, b5, b6))
        have P2 := fun (W : World) (hW : L2 w0 W (fun _ => False) (PK pb 64 e1 (cpushS s 64 ((b1, b2, b3), b4, b5, b6))) (PD db rb 64 e1 s)) => hW.callQ (thK _ _ _ _) (fun F hF => dpush hF ((b1, b2, b3), b4, b5, b6))
        obtain ⟨s2, hs2⟩ : ∃ s2, cpushS s 64 ((b1, b2, b3), b4, b5, b6) = s2 := ⟨_, rfl⟩
        obtain ⟨C1, hC1⟩ : ∃ C1, cpushC s 64 ((b1, b2, b3), b4, b5, b6) = C1 := ⟨_, rfl⟩
        rw [hs2, hC1] at P1
        simp only [hs2, hC1] at P2
        dsimp only [mv] at P1 P2
        have PP2 : Aside _ := P2
        obtain ⟨x0, x1, x2, x3, x4, x5⟩ := CE.out _ hq.bel
        clear P2 hs2 hC1 zd hq hx hc
        go_wp2_with fail
        go_region_held3 (fun w' => w'.cell? ⟨b, off + k * 6, none⟩ = some (.int .i64 b1) ∧ w'.cell? ⟨b, off + k * 6 + 1, none⟩ = some (.int .i64 b2) ∧ w'.cell? ⟨b, off + k * 6 + 2, none⟩ = some (.int .i64 b3) ∧ w'.cell? ⟨b, off + k * 6 + 3, none⟩ = some (.int .i64 b4) ∧ w'.cell? ⟨b, off + k * 6 + 4, none⟩ = some (.int .i64 b5) ∧ w'.cell? ⟨b, off + k * 6 + 5, none⟩ = some (.int .i64 b6)) (go_keep) (first | (go_at_call 12; refine (PP2.out _ zA).mono ?_; rintro e wB ⟨rfl, zB, fB⟩; obtain ⟨f0, f1, f2, f3, f4, f5⟩ := CE.out _ zB.bel) | (go_at_call 11; refine P1.mono ?_; rintro e wA ⟨rfl, zA, fA⟩; obtain ⟨e0, e1', e2', e3, e4, e5⟩ := CE.out _ zA.bel))
        have ZB : Aside _ := zB
        clear P1 PP2 zB zA fA fB CE
        go_wp2_with fail
        go_roundw
        case rel => exact ⟨k + 1, s2, by omega, by go_num, ZB.out⟩
        case measure => simp [intOf]; omega
      · have hkd : k = n := by omega
        subst hkd
        have hgt : ¬ ((k : Int) < (k : Int)) := by omega
        by_cases hk0 : k = 0
        · subst hk0
          have z := hq
          clear hq h0

          have Q1 := z.callP (thD _ _ _ _ _) (fun F hF => kremove hF (k1, k2, k3))
          have Q2 := fun (Z : Nat → Prop) (W : World) (hW : L2 w0 W Z (PK pb 64 e1 (del s (k1, k2, k3))) (PD db rb 64 e1 s)) => hW.callQ (thK _ _ _ _) (fun F hF => dremove hF (k1, k2, k3))
          have Q3 := fun (Z : Nat → Prop) (W : World) (hW : L2 w0 W Z (PK pb 64 e1 (del s (k1, k2, k3))) (PD db rb 64 e1 (del s (k1, k2, k3)))) => hW.callP (thD _ _ _ _ _) (fun F hF => kremove hF (k1, k2, k3))
          have hno : hasK (del s (k1, k2, k3)) (k1, k2, k3) = false := hasK_del s (k1, k2, k3)
          have hdd : del (del s (k1, k2, k3)) (k1, k2, k3) = del s (k1, k2, k3) := del_none hno
          have hff : fnd (del s (k1, k2, k3)) (k1, k2, k3) = zeroM := fnd_none hno
          simp only [hno, hdd, hff] at Q3
          obtain ⟨y, hy⟩ : ∃ y, fnd s (k1, k2, k3) = y := ⟨_, rfl⟩
          obtain ⟨ob, hob⟩ : ∃ ob, hasK s (k1, k2, k3) = ob := ⟨_, rfl⟩
          obtain ⟨s2, hs2⟩ : ∃ s2, del s (k1, k2, k3) = s2 := ⟨_, rfl⟩
          rw [hy, hob, hs2] at Q1
          simp only [hy, hob, hs2] at Q2
          simp only [hs2] at Q3
          obtain ⟨⟨y1, y2, y3⟩, y4, y5, y6⟩ := y
          dsimp only [mv, kv, zeroM] at Q1 Q2 Q3
          have QA : Aside _ := Q2
          have QB : Aside _ := Q3
          obtain ⟨c0, c1, c2⟩ := KC.out _ z.bel
          clear Q2 Q3 hy hob hs2 hno hdd hff z
          go_wp2_with fail
          refine Q1.mono ?_
          rintro e w5 ⟨rfl, z5, f5⟩
          have z6 := z5.more (thK _ _ _ _) (thD _ _ _ _ _) (.cells #[.int .i64 y1, .int .i64 y2, .int .i64 y3, .int .i64 y4, .int .i64 y5, .int .i64 y6] 32)
          have a6 := BoxM.made w5 ((y1, y2, y3), y4, y5, y6)
          dsimp only at a6
          obtain ⟨W6, hW6⟩ : ∃ W6, w5.alloc (.cells #[.int .i64 y1, .int .i64 y2, .int .i64 y3, .int .i64 y4, .int .i64 y5, .int .i64 y6] 32) = W6 := ⟨_, rfl⟩
          obtain ⟨aB, haB⟩ : ∃ aB, w5.heap.size = aB := ⟨_, rfl⟩
          rw [hW6, haB] at z6 a6
          have HW6 : Hid _ := hW6
          clear c0 c1 c2
          have z6d := z6.below (thK _ _ _ _) (thD _ _ _ _ _) (Below.refl _ _).drew
          have a6d := a6.below (Below.refl _ _).drew
          have Q6 := QA.out _ _ z6d
          have z7d := (z6.more (thK _ _ _ _) (thD _ _ _ _ _) (.cells #[.int .i64 0, .int .i64 0, .int .i64 0, .int .i64 0, .int .i64 0, .int .i64 0] 32)).below (thK _ _ _ _) (thD _ _ _ _ _) (Below.refl _ _).drew
          have a7d := (a6.below ((Below.refl _ W6).alloc (Nat.le_refl _) (.cells #[.int .i64 0, .int .i64 0, .int .i64 0, .int .i64 0, .int .i64 0, .int .i64 0] 32))).below (Below.refl _ _).drew
          have o7d := (BoxM.made W6 ((0, 0, 0), 0, 0, 0)).below (Below.refl _ _).drew
          dsimp only at o7d
          obtain ⟨xB, hxB⟩ : ∃ xB, W6.heap.size = xB := ⟨_, rfl⟩
          have hax := a6.lt
          rw [hxB] at z7d o7d hax
          have Q7 := QA.out _ _ z7d
          have R6 := Q6.mono (R' := fun e w' => e = .returned (.tuple #[.agg #[.int .i64 y1, .int .i64 y2, .int .i64 y3, .int .i64 y4, .int .i64 y5, .int .i64 y6], .bool ob]) ∧ L2 w0 w' (fun k => False ∨ k = aB) (PK pb 64 e1 s2) (PD db rb 64 e1 s2) ∧ BoxM w' aB ((y1, y2, y3), y4, y5, y6)) (fun e w' ⟨he, z', f'⟩ => ⟨he, z', a6d.keep f' (fun g => g (.inr rfl))⟩)
          have R7 := Q7.mono (R' := fun e w' => e = .returned (.tuple #[.agg #[.int .i64 y1, .int .i64 y2, .int .i64 y3, .int .i64 y4, .int .i64 y5, .int .i64 y6], .bool ob]) ∧ L2 w0 w' (fun k => (False ∨ k = aB) ∨ k = xB) (PK pb 64 e1 s2) (PD db rb 64 e1 s2) ∧ BoxM w' aB ((y1, y2, y3), y4, y5, y6) ∧ BoxM w' xB ((0, 0, 0), 0, 0, 0)) (fun e w' ⟨he, z', f'⟩ => ⟨he, z', a7d.keep f' (fun g => g (.inl (.inr rfl))), o7d.keep f' (fun g => g (.inr rfl))⟩)
          obtain ⟨c0, c1, c2⟩ := KC.out _ z6.bel
          have q0 := z6.c0
          have hql := cell_lt q0
          have hkl := cell_lt c0
          rw [hxB] at hql hkl
          have n1 : ¬ (db = xB) := by omega
          have n2 : ¬ (kB = xB) := by omega
          have n3 : ¬ (xB = db) := by omega
          have n4 : ¬ (xB = kB) := by omega
          clear Q1 QA z5 f5 Q6 Q7 z6d a6d a7d o7d z6 a6 hW6
          go_upto_region 14 with fail
          rw [HW6.out]
          go_cut [12, 13] from 70 (fun s12 s13 wx => ∃ bB : Nat, s12 = .pointer (some ⟨bB, 0, none⟩) ∧ s13 = .bool ob ∧ L2 w0 wx (fun k => (False ∨ k = aB) ∨ k = bB) (PK pb 64 e1 s2) (PD db rb 64 e1 s2) ∧ BoxM wx aB ((y1, y2, y3), y4, y5, y6) ∧ BoxM wx bB ((y1, y2, y3), y4, y5, y6) ∧ aB < bB)
          case first =>
            go_region_held3 (fun w' => w'.cell? ⟨db, 0, none⟩ = some (.pointer (some ⟨rb, 0, none⟩)) ∧ w'.cell? ⟨kB, 0, none⟩ = some (.int .i64 k1) ∧ w'.cell? ⟨kB, 1, none⟩ = some (.int .i64 k2) ∧ w'.cell? ⟨kB, 2, none⟩ = some (.int .i64 k3)) (go_keep) (first | (go_at_call 18; refine R6.mono ?_; rintro e wR ⟨rfl, zR, aR⟩; have qR := zR.c0; obtain ⟨t0, t1, t2⟩ := KC.out _ zR.bel; have hl1 := cell_lt qR; have hl2 := cell_lt t0) | (go_at_call 18; refine R7.mono ?_; rintro e wR ⟨rfl, zR, aR, oR⟩; have qR := zR.c0; obtain ⟨t0, t1, t2⟩ := KC.out _ zR.bel; have hl1 := cell_lt qR; have hl2 := cell_lt t0; obtain ⟨o0, o1, o2, o3, o4, o5⟩ := oR.cells; dsimp only at o0 o1 o2 o3 o4 o5; have oz := oR.2))
            · have zz := zR.more (thK _ _ _ _) (thD _ _ _ _ _) (.cells #[.int .i64 y1, .int .i64 y2, .int .i64 y3, .int .i64 y4, .int .i64 y5, .int .i64 y6] 32)
              have aa := aR.below ((Below.refl _ wR).alloc (Nat.le_refl _) (.cells #[.int .i64 y1, .int .i64 y2, .int .i64 y3, .int .i64 y4, .int .i64 y5, .int .i64 y6] 32))
              have bb := BoxM.made wR ((y1, y2, y3), y4, y5, y6)
              dsimp only at bb
              have E : Aside _ := And.intro zz (And.intro aa (And.intro bb aR.lt))
              clear zz aa bb zR aR
              go_wp2_with fail
              go_meet
              exact ⟨_, rfl, rfl, E.out⟩
            · have zz := zR.six (thK _ _ _ _) (thD _ _ _ _ _) (B := xB) (.inr rfl) (.int .i64 y1) (.int .i64 y2) (.int .i64 y3) (.int .i64 y4) (.int .i64 y5) (.int .i64 y6)
              have aa := aR.keep (fr6 wR xB (.int .i64 y1) (.int .i64 y2) (.int .i64 y3) (.int .i64 y4) (.int .i64 y5) (.int .i64 y6)) (by omega)
              have bb := oR.put ((y1, y2, y3), y4, y5, y6)
              dsimp only at bb
              have E : Aside _ := And.intro zz (And.intro aa (And.intro bb hax))
              clear zz aa bb zR aR oR
              go_wp2_with fail
              go_meet
              exact ⟨_, rfl, rfl, E.out⟩
          case rest =>
            obtain ⟨bB, rfl, rfl, z8, a8, b8, hab⟩ := hcut
            have Q8 := QB.out _ _ z8
            clear R6 R7 q0 c0 c1 c2 hql hkl n1 n2 n3 n4 HW6 hxB
            obtain ⟨c0, c1, c2⟩ := KC.out _ z8.bel
            have A8 : Aside _ := a8
            have B8 : Aside _ := b8
            clear QB z8 a8 b8
            go_wp2_with fail
            refine Q8.mono ?_
            rintro e w9 ⟨rfl, z9, f9⟩
            have a9 := BoxM.keep A8.out f9 (fun g => g (.inl (.inr rfl)))
            have b9 := BoxM.keep B8.out f9 (fun g => g (.inr rfl))
            have z10 := (z9.more (thK _ _ _ _) (thD _ _ _ _ _) (.cells #[.int .i64 0, .int .i64 0, .int .i64 0, .int .i64 0, .int .i64 0, .int .i64 0] 32)).fewer (Z2 := fun k => (False ∨ k = aB) ∨ k = bB) (fun k g => .inl g)
            have bz : Below w9.heap.size w9 (w9.alloc (.cells #[.int .i64 0, .int .i64 0, .int .i64 0, .int .i64 0, .int .i64 0, .int .i64 0] 32)) := (Below.refl _ w9).alloc (Nat.le_refl _) _
            have a10 := a9.below bz
            have b10 := b9.below bz
            obtain ⟨F1, hF1⟩ := z10.seeP
            have D1 := kdays' hF1
            have TA : Aside _ := z10
            have A10 : Aside _ := a10
            have B10 : Aside _ := b10
            clear Q8 z9 f9 a9 b9 z10 bz a10 b10 A8 B8 hF1 c0 c1 c2
            go_wp2_with fail
            refine D1.mono ?_
            rintro e wD ⟨uB, rfl, rU, bD⟩
            have T1 := L2.below TA.out (thK _ _ _ _) (thD _ _ _ _ _) bD
            obtain ⟨G1, hG1⟩ := T1.seeQ
            have D2 := ddays' hG1
            have RU : Aside _ := rU
            have TB : Aside _ := T1
            have A11 : Aside _ := BoxM.below A10.out bD
            have B11 : Aside _ := BoxM.below B10.out bD
            clear D1 bD hG1 TA T1 rU A10 B10
            go_wp2_with fail
            refine D2.mono ?_
            rintro e wE ⟨vB, rfl, rV, bE⟩
            have T2 := L2.below TB.out (thK _ _ _ _) (thD _ _ _ _ _) bE
            have RU2 : Aside _ := row_below RU.out bE
            have RV : Aside _ := rV
            have a12 := BoxM.below A11.out bE
            have b12 := BoxM.below B11.out bE
            obtain ⟨m0, m1, m2, m3, m4, m5⟩ := a12.cells
            dsimp only at m0 m1 m2 m3 m4 m5
            obtain ⟨r0, r1, r2, r3, r4, r5⟩ := b12.cells
            dsimp only at r0 r1 r2 r3 r4 r5
            have T3 : Aside _ := T2
            have hT : s2.length ≤ 64 := by obtain ⟨F0, hF0⟩ := T2.seeP; have := (ksrt hF0).2; omega
            have HU : Aside (∀ n, n ≤ 8 → upto e1 s2 n ≤ s2.length) := fun n hn => upto_le e1 s2 n hn
            have HALL : Hid (upto e1 s2 8 = s2.length) := upto_all e1 s2
            clear D2 TB RU bE rV T2 A11 B11 a12 b12
            go_wp2_with fail
            clear m0 m1 m2 m3 m4 m5 r0 r1 r2 r3 r4 r5
            go_loopw [18, 19] (fun sn si wx => ∃ (j : Nat), j ≤ 8 ∧ si = .int .i64 j ∧ sn = .int .i64 (upto e1 s2 j) ∧ ∃ q, wx = wE.drewN q) (fun _ si _ => 8 - (intOf si).toNat)
            case atStart => exact ⟨0, Nat.zero_le _, rfl, rfl, 0, rfl⟩
            case round =>
              obtain ⟨j, hj, rfl, rfl, q, rfl⟩ := hrel
              by_cases hj8 : j < 8
              · have hj8' : (j : Int) < 8 := by omega
                have c1 := day_cell RU2.out hj8
                have c2 := day_cell RV.out hj8
                have h1 := HU.out (j + 1) (by omega)
                obtain ⟨na, hna⟩ : ∃ na, upto e1 s2 j = na := ⟨_, rfl⟩
                obtain ⟨cn, hcn⟩ : ∃ cn, (pg e1 j s2).length = cn := ⟨_, rfl⟩
                have hS : upto e1 s2 (j + 1) = na + cn := by rw [← hna, ← hcn]; rfl
                rw [hS] at h1
                rw [hna]
                rw [hcn] at c1 c2
                have HS : Hid _ := hS
                clear hS hcn hna
                go_wp2_with fail
                go_quiet (fail)
                go_wp2_with fail
                go_roundw
                case rel => exact ⟨j + 1, by omega, by go_num, by rw [HS.out]; go_num, _, rfl⟩
                case measure => simp [intOf]; omega
              · obtain rfl : j = 8 := by omega
                rw [HALL.out]
                have z13 := L2.below T3.out (thK _ _ _ _) (thD _ _ _ _ _) (bdrew _ q)
                obtain ⟨wF, hwF⟩ : ∃ wF, wE.drewN q = wF := ⟨_, rfl⟩
                rw [hwF] at z13 ⊢
                have zd := z13.below (thK _ _ _ _) (thD _ _ _ _ _) (Below.refl _ _).drew
                have c0 := z13.c0
                have c0d := zd.c0
                have hdl := cell_lt c0d
                obtain ⟨F3, hF3⟩ := zd.seeP
                have N1 := klen hF3
                have L1 := klist hF3
                have HL : Aside (∀ W', Below wF.drew.heap.size wF.drew W' → Calls Try.prog 26 #[.pointer (some ⟨rb, 0, none⟩)] W' fun e w' => ∃ a cap, e = .returned (.slice a s2.length cap) ∧ Own w' (.slice a s2.length cap) s2 ∧ Below W'.heap.size W' w') := fun W' hW' => by
                  obtain ⟨G, hG⟩ := (zd.below (thK _ _ _ _) (thD _ _ _ _ _) hW').seeQ
                  exact dlist hG
                have ZD : Aside _ := zd
                clear hwF z13 zd hF3 T3 RU2 RV
                go_wp2_with fail
                go_region_held3 (fun w' => w'.cell? ⟨db, 0, none⟩ = some (.pointer (some ⟨rb, 0, none⟩))) (go_keep) (first | (go_at_call 23; refine N1.mono ?_; rintro e wN ⟨rfl, hwN⟩; subst hwN) | (go_at_call 25; refine L1.mono ?_; rintro e wL ⟨aL, cL, rfl, oL, bL⟩; have cL0 := (bL.cell (p := ⟨db, 0, none⟩) hdl).trans c0d) | (go_at_call 26; refine Calls.mono (HL.out _ bL) ?_; rintro e wM ⟨aM, cM, rfl, oM, bM⟩; have cM0 := (bM.cell (p := ⟨db, 0, none⟩) (cell_lt cL0)).trans cL0) | (go_at_call 19; refine (same_any (own_below oL bM) oM (Nat.le_trans hT (by omega))).mono ?_; rintro e wS ⟨rfl, bS⟩; have cS0 := (bS.cell (p := ⟨db, 0, none⟩) (cell_lt cM0)).trans cM0))
                have T5 : Aside _ := (((L2.below ZD.out (thK _ _ _ _) (thD _ _ _ _ _) bL).below (thK _ _ _ _) (thD _ _ _ _ _) bM).below (thK _ _ _ _) (thD _ _ _ _ _) bS).bel
                clear N1 L1 HL ZD oL oM bL bM bS cL0 cM0 cS0 c0 c0d hdl
                go_wp2_with fail
                go_ret
                exact ⟨rfl, BK.out.trans (T5.out.mono BK.out.size)⟩
        · obtain ⟨b, off, rfl, hB, hc⟩ := h0.2.2 hk0
          obtain ⟨x, hx⟩ : ∃ x, nth l 0 = x := ⟨_, rfl⟩
          have hkl : 0 < l.length := by omega
          have CE : Aside (∀ W, Below w0.heap.size w0 W → W.cell? ⟨b, off, none⟩ = some (.int .i64 x.1.1) ∧ W.cell? ⟨b, off + 1, none⟩ = some (.int .i64 x.1.2.1) ∧ W.cell? ⟨b, off + 2, none⟩ = some (.int .i64 x.1.2.2)) := fun W hW => by
            rw [nth_get l 0 hkl] at hx
            subst hx
            have cc := fun c hc6 => (hW.cell (p := ⟨b, off + 0 * 6 + c, none⟩) hB).trans (hc 0 hkl c hc6)
            simp only [Nat.zero_mul, Nat.add_zero] at cc
            exact ⟨cc 0 (by omega), cc 1 (by omega), cc 2 (by omega)⟩
          have hlt' : (0 : Int) < (k : Int) := by omega
          obtain ⟨⟨b1, b2, b3⟩, b4, b5, b6⟩ := x
          dsimp only at CE
          have P1 := hq.callP (thD _ _ _ _ _) (fun F hF => kremove hF (b1, b2, b3))
          have P2 := fun (W : World) (hW : L2 w0 W (fun _ => False) (PK pb 64 e1 (del s (b1, b2, b3))) (PD db rb 64 e1 s)) => hW.callQ (thK _ _ _ _) (fun F hF => dremove hF (b1, b2, b3))
          obtain ⟨sx, hsx⟩ : ∃ sx, del s (b1, b2, b3) = sx := ⟨_, rfl⟩
          obtain ⟨yy, hyy⟩ : ∃ yy, fnd s (b1, b2, b3) = yy := ⟨_, rfl⟩
          obtain ⟨oo, hoo⟩ : ∃ oo, hasK s (b1, b2, b3) = oo := ⟨_, rfl⟩
          rw [hsx, hyy, hoo] at P1
          simp only [hsx, hyy, hoo] at P2
          obtain ⟨⟨q1, q2, q3⟩, q4, q5, q6⟩ := yy
          dsimp only [mv, kv] at P1 P2
          have PP2 : Aside _ := P2
          obtain ⟨x0, x1, x2⟩ := CE.out _ hq.bel
          clear P2 hsx hyy hoo hq hx hc h0
          go_wp2_with fail
          refine P1.mono ?_
          rintro e wA ⟨rfl, zA, fA⟩
          have zd := zA.below (thK _ _ _ _) (thD _ _ _ _ _) (Below.refl _ _).drew
          have P3 := PP2.out _ zd
          have q0 := zA.c0
          clear x0 x1 x2
          obtain ⟨x0, x1, x2⟩ := CE.out _ zA.bel
          clear P1 PP2 fA zA zd
          go_wp2_with fail
          go_region_held3 (fun w' => w'.cell? ⟨db, 0, none⟩ = some (.pointer (some ⟨rb, 0, none⟩)) ∧ w'.cell? ⟨b, off, none⟩ = some (.int .i64 b1) ∧ w'.cell? ⟨b, off + 1, none⟩ = some (.int .i64 b2) ∧ w'.cell? ⟨b, off + 2, none⟩ = some (.int .i64 b3)) (go_keep) (first | (go_at_call 18; refine P3.mono ?_; rintro e wB ⟨rfl, z, fB⟩; have qB := z.c0; obtain ⟨t0, t1, t2⟩ := CE.out _ z.bel))
          clear P3 fB CE qB t0 t1 t2 q0 x0 x1 x2

          have Q1 := z.callP (thD _ _ _ _ _) (fun F hF => kremove hF (k1, k2, k3))
          have Q2 := fun (Z : Nat → Prop) (W : World) (hW : L2 w0 W Z (PK pb 64 e1 (del sx (k1, k2, k3))) (PD db rb 64 e1 sx)) => hW.callQ (thK _ _ _ _) (fun F hF => dremove hF (k1, k2, k3))
          have Q3 := fun (Z : Nat → Prop) (W : World) (hW : L2 w0 W Z (PK pb 64 e1 (del sx (k1, k2, k3))) (PD db rb 64 e1 (del sx (k1, k2, k3)))) => hW.callP (thD _ _ _ _ _) (fun F hF => kremove hF (k1, k2, k3))
          have hno : hasK (del sx (k1, k2, k3)) (k1, k2, k3) = false := hasK_del sx (k1, k2, k3)
          have hdd : del (del sx (k1, k2, k3)) (k1, k2, k3) = del sx (k1, k2, k3) := del_none hno
          have hff : fnd (del sx (k1, k2, k3)) (k1, k2, k3) = zeroM := fnd_none hno
          simp only [hno, hdd, hff] at Q3
          obtain ⟨y, hy⟩ : ∃ y, fnd sx (k1, k2, k3) = y := ⟨_, rfl⟩
          obtain ⟨ob, hob⟩ : ∃ ob, hasK sx (k1, k2, k3) = ob := ⟨_, rfl⟩
          obtain ⟨s2, hs2⟩ : ∃ s2, del sx (k1, k2, k3) = s2 := ⟨_, rfl⟩
          rw [hy, hob, hs2] at Q1
          simp only [hy, hob, hs2] at Q2
          simp only [hs2] at Q3
          obtain ⟨⟨y1, y2, y3⟩, y4, y5, y6⟩ := y
          dsimp only [mv, kv, zeroM] at Q1 Q2 Q3
          have QA : Aside _ := Q2
          have QB : Aside _ := Q3
          obtain ⟨c0, c1, c2⟩ := KC.out _ z.bel
          clear Q2 Q3 hy hob hs2 hno hdd hff z
          go_wp2_with fail
          refine Q1.mono ?_
          rintro e w5 ⟨rfl, z5, f5⟩
          have z6 := z5.more (thK _ _ _ _) (thD _ _ _ _ _) (.cells #[.int .i64 y1, .int .i64 y2, .int .i64 y3, .int .i64 y4, .int .i64 y5, .int .i64 y6] 32)
          have a6 := BoxM.made w5 ((y1, y2, y3), y4, y5, y6)
          dsimp only at a6
          obtain ⟨W6, hW6⟩ : ∃ W6, w5.alloc (.cells #[.int .i64 y1, .int .i64 y2, .int .i64 y3, .int .i64 y4, .int .i64 y5, .int .i64 y6] 32) = W6 := ⟨_, rfl⟩
          obtain ⟨aB, haB⟩ : ∃ aB, w5.heap.size = aB := ⟨_, rfl⟩
          rw [hW6, haB] at z6 a6
          have HW6 : Hid _ := hW6
          clear c0 c1 c2
          have z6d := z6.below (thK _ _ _ _) (thD _ _ _ _ _) (Below.refl _ _).drew
          have a6d := a6.below (Below.refl _ _).drew
          have Q6 := QA.out _ _ z6d
          have z7d := (z6.more (thK _ _ _ _) (thD _ _ _ _ _) (.cells #[.int .i64 0, .int .i64 0, .int .i64 0, .int .i64 0, .int .i64 0, .int .i64 0] 32)).below (thK _ _ _ _) (thD _ _ _ _ _) (Below.refl _ _).drew
          have a7d := (a6.below ((Below.refl _ W6).alloc (Nat.le_refl _) (.cells #[.int .i64 0, .int .i64 0, .int .i64 0, .int .i64 0, .int .i64 0, .int .i64 0] 32))).below (Below.refl _ _).drew
          have o7d := (BoxM.made W6 ((0, 0, 0), 0, 0, 0)).below (Below.refl _ _).drew
          dsimp only at o7d
          obtain ⟨xB, hxB⟩ : ∃ xB, W6.heap.size = xB := ⟨_, rfl⟩
          have hax := a6.lt
          rw [hxB] at z7d o7d hax
          have Q7 := QA.out _ _ z7d
          have R6 := Q6.mono (R' := fun e w' => e = .returned (.tuple #[.agg #[.int .i64 y1, .int .i64 y2, .int .i64 y3, .int .i64 y4, .int .i64 y5, .int .i64 y6], .bool ob]) ∧ L2 w0 w' (fun k => False ∨ k = aB) (PK pb 64 e1 s2) (PD db rb 64 e1 s2) ∧ BoxM w' aB ((y1, y2, y3), y4, y5, y6)) (fun e w' ⟨he, z', f'⟩ => ⟨he, z', a6d.keep f' (fun g => g (.inr rfl))⟩)
          have R7 := Q7.mono (R' := fun e w' => e = .returned (.tuple #[.agg #[.int .i64 y1, .int .i64 y2, .int .i64 y3, .int .i64 y4, .int .i64 y5, .int .i64 y6], .bool ob]) ∧ L2 w0 w' (fun k => (False ∨ k = aB) ∨ k = xB) (PK pb 64 e1 s2) (PD db rb 64 e1 s2) ∧ BoxM w' aB ((y1, y2, y3), y4, y5, y6) ∧ BoxM w' xB ((0, 0, 0), 0, 0, 0)) (fun e w' ⟨he, z', f'⟩ => ⟨he, z', a7d.keep f' (fun g => g (.inl (.inr rfl))), o7d.keep f' (fun g => g (.inr rfl))⟩)
          obtain ⟨c0, c1, c2⟩ := KC.out _ z6.bel
          have q0 := z6.c0
          have hql := cell_lt q0
          have hkl := cell_lt c0
          rw [hxB] at hql hkl
          have n1 : ¬ (db = xB) := by omega
          have n2 : ¬ (kB = xB) := by omega
          have n3 : ¬ (xB = db) := by omega
          have n4 : ¬ (xB = kB) := by omega
          clear Q1 QA z5 f5 Q6 Q7 z6d a6d a7d o7d z6 a6 hW6
          go_upto_region 14 with fail
          rw [HW6.out]
          go_cut [12, 13] from 70 (fun s12 s13 wx => ∃ bB : Nat, s12 = .pointer (some ⟨bB, 0, none⟩) ∧ s13 = .bool ob ∧ L2 w0 wx (fun k => (False ∨ k = aB) ∨ k = bB) (PK pb 64 e1 s2) (PD db rb 64 e1 s2) ∧ BoxM wx aB ((y1, y2, y3), y4, y5, y6) ∧ BoxM wx bB ((y1, y2, y3), y4, y5, y6) ∧ aB < bB)
          case first =>
            go_region_held3 (fun w' => w'.cell? ⟨db, 0, none⟩ = some (.pointer (some ⟨rb, 0, none⟩)) ∧ w'.cell? ⟨kB, 0, none⟩ = some (.int .i64 k1) ∧ w'.cell? ⟨kB, 1, none⟩ = some (.int .i64 k2) ∧ w'.cell? ⟨kB, 2, none⟩ = some (.int .i64 k3)) (go_keep) (first | (go_at_call 18; refine R6.mono ?_; rintro e wR ⟨rfl, zR, aR⟩; have qR := zR.c0; obtain ⟨t0, t1, t2⟩ := KC.out _ zR.bel; have hl1 := cell_lt qR; have hl2 := cell_lt t0) | (go_at_call 18; refine R7.mono ?_; rintro e wR ⟨rfl, zR, aR, oR⟩; have qR := zR.c0; obtain ⟨t0, t1, t2⟩ := KC.out _ zR.bel; have hl1 := cell_lt qR; have hl2 := cell_lt t0; obtain ⟨o0, o1, o2, o3, o4, o5⟩ := oR.cells; dsimp only at o0 o1 o2 o3 o4 o5; have oz := oR.2))
            · have zz := zR.more (thK _ _ _ _) (thD _ _ _ _ _) (.cells #[.int .i64 y1, .int .i64 y2, .int .i64 y3, .int .i64 y4, .int .i64 y5, .int .i64 y6] 32)
              have aa := aR.below ((Below.refl _ wR).alloc (Nat.le_refl _) (.cells #[.int .i64 y1, .int .i64 y2, .int .i64 y3, .int .i64 y4, .int .i64 y5, .int .i64 y6] 32))
              have bb := BoxM.made wR ((y1, y2, y3), y4, y5, y6)
              dsimp only at bb
              have E : Aside _ := And.intro zz (And.intro aa (And.intro bb aR.lt))
              clear zz aa bb zR aR
              go_wp2_with fail
              go_meet
              exact ⟨_, rfl, rfl, E.out⟩
            · have zz := zR.six (thK _ _ _ _) (thD _ _ _ _ _) (B := xB) (.inr rfl) (.int .i64 y1) (.int .i64 y2) (.int .i64 y3) (.int .i64 y4) (.int .i64 y5) (.int .i64 y6)
              have aa := aR.keep (fr6 wR xB (.int .i64 y1) (.int .i64 y2) (.int .i64 y3) (.int .i64 y4) (.int .i64 y5) (.int .i64 y6)) (by omega)
              have bb := oR.put ((y1, y2, y3), y4, y5, y6)
              dsimp only at bb
              have E : Aside _ := And.intro zz (And.intro aa (And.intro bb hax))
              clear zz aa bb zR aR oR
              go_wp2_with fail
              go_meet
              exact ⟨_, rfl, rfl, E.out⟩
          case rest =>
            obtain ⟨bB, rfl, rfl, z8, a8, b8, hab⟩ := hcut
            have Q8 := QB.out _ _ z8
            clear R6 R7 q0 c0 c1 c2 hql hkl n1 n2 n3 n4 HW6 hxB
            obtain ⟨c0, c1, c2⟩ := KC.out _ z8.bel
            have A8 : Aside _ := a8
            have B8 : Aside _ := b8
            clear QB z8 a8 b8
            go_wp2_with fail
            refine Q8.mono ?_
            rintro e w9 ⟨rfl, z9, f9⟩
            have a9 := BoxM.keep A8.out f9 (fun g => g (.inl (.inr rfl)))
            have b9 := BoxM.keep B8.out f9 (fun g => g (.inr rfl))
            have z10 := (z9.more (thK _ _ _ _) (thD _ _ _ _ _) (.cells #[.int .i64 0, .int .i64 0, .int .i64 0, .int .i64 0, .int .i64 0, .int .i64 0] 32)).fewer (Z2 := fun k => (False ∨ k = aB) ∨ k = bB) (fun k g => .inl g)
            have bz : Below w9.heap.size w9 (w9.alloc (.cells #[.int .i64 0, .int .i64 0, .int .i64 0, .int .i64 0, .int .i64 0, .int .i64 0] 32)) := (Below.refl _ w9).alloc (Nat.le_refl _) _
            have a10 := a9.below bz
            have b10 := b9.below bz
            obtain ⟨F1, hF1⟩ := z10.seeP
            have D1 := kdays' hF1
            have TA : Aside _ := z10
            have A10 : Aside _ := a10
            have B10 : Aside _ := b10
            clear Q8 z9 f9 a9 b9 z10 bz a10 b10 A8 B8 hF1 c0 c1 c2
            go_wp2_with fail
            refine D1.mono ?_
            rintro e wD ⟨uB, rfl, rU, bD⟩
            have T1 := L2.below TA.out (thK _ _ _ _) (thD _ _ _ _ _) bD
            obtain ⟨G1, hG1⟩ := T1.seeQ
            have D2 := ddays' hG1
            have RU : Aside _ := rU
            have TB : Aside _ := T1
            have A11 : Aside _ := BoxM.below A10.out bD
            have B11 : Aside _ := BoxM.below B10.out bD
            clear D1 bD hG1 TA T1 rU A10 B10
            go_wp2_with fail
            refine D2.mono ?_
            rintro e wE ⟨vB, rfl, rV, bE⟩
            have T2 := L2.below TB.out (thK _ _ _ _) (thD _ _ _ _ _) bE
            have RU2 : Aside _ := row_below RU.out bE
            have RV : Aside _ := rV
            have a12 := BoxM.below A11.out bE
            have b12 := BoxM.below B11.out bE
            obtain ⟨m0, m1, m2, m3, m4, m5⟩ := a12.cells
            dsimp only at m0 m1 m2 m3 m4 m5
            obtain ⟨r0, r1, r2, r3, r4, r5⟩ := b12.cells
            dsimp only at r0 r1 r2 r3 r4 r5
            have T3 : Aside _ := T2
            have hT : s2.length ≤ 64 := by obtain ⟨F0, hF0⟩ := T2.seeP; have := (ksrt hF0).2; omega
            have HU : Aside (∀ n, n ≤ 8 → upto e1 s2 n ≤ s2.length) := fun n hn => upto_le e1 s2 n hn
            have HALL : Hid (upto e1 s2 8 = s2.length) := upto_all e1 s2
            clear D2 TB RU bE rV T2 A11 B11 a12 b12
            go_wp2_with fail
            clear m0 m1 m2 m3 m4 m5 r0 r1 r2 r3 r4 r5
            go_loopw [18, 19] (fun sn si wx => ∃ (j : Nat), j ≤ 8 ∧ si = .int .i64 j ∧ sn = .int .i64 (upto e1 s2 j) ∧ ∃ q, wx = wE.drewN q) (fun _ si _ => 8 - (intOf si).toNat)
            case atStart => exact ⟨0, Nat.zero_le _, rfl, rfl, 0, rfl⟩
            case round =>
              obtain ⟨j, hj, rfl, rfl, q, rfl⟩ := hrel
              by_cases hj8 : j < 8
              · have hj8' : (j : Int) < 8 := by omega
                have c1 := day_cell RU2.out hj8
                have c2 := day_cell RV.out hj8
                have h1 := HU.out (j + 1) (by omega)
                obtain ⟨na, hna⟩ : ∃ na, upto e1 s2 j = na := ⟨_, rfl⟩
                obtain ⟨cn, hcn⟩ : ∃ cn, (pg e1 j s2).length = cn := ⟨_, rfl⟩
                have hS : upto e1 s2 (j + 1) = na + cn := by rw [← hna, ← hcn]; rfl
                rw [hS] at h1
                rw [hna]
                rw [hcn] at c1 c2
                have HS : Hid _ := hS
                clear hS hcn hna
                go_wp2_with fail
                go_quiet (fail)
                go_wp2_with fail
                go_roundw
                case rel => exact ⟨j + 1, by omega, by go_num, by rw [HS.out]; go_num, _, rfl⟩
                case measure => simp [intOf]; omega
              · obtain rfl : j = 8 := by omega
                rw [HALL.out]
                have z13 := L2.below T3.out (thK _ _ _ _) (thD _ _ _ _ _) (bdrew _ q)
                obtain ⟨wF, hwF⟩ : ∃ wF, wE.drewN q = wF := ⟨_, rfl⟩
                rw [hwF] at z13 ⊢
                have zd := z13.below (thK _ _ _ _) (thD _ _ _ _ _) (Below.refl _ _).drew
                have c0 := z13.c0
                have c0d := zd.c0
                have hdl := cell_lt c0d
                obtain ⟨F3, hF3⟩ := zd.seeP
                have N1 := klen hF3
                have L1 := klist hF3
                have HL : Aside (∀ W', Below wF.drew.heap.size wF.drew W' → Calls Try.prog 26 #[.pointer (some ⟨rb, 0, none⟩)] W' fun e w' => ∃ a cap, e = .returned (.slice a s2.length cap) ∧ Own w' (.slice a s2.length cap) s2 ∧ Below W'.heap.size W' w') := fun W' hW' => by
                  obtain ⟨G, hG⟩ := (zd.below (thK _ _ _ _) (thD _ _ _ _ _) hW').seeQ
                  exact dlist hG
                have ZD : Aside _ := zd
                clear hwF z13 zd hF3 T3 RU2 RV
                go_wp2_with fail
                go_region_held3 (fun w' => w'.cell? ⟨db, 0, none⟩ = some (.pointer (some ⟨rb, 0, none⟩))) (go_keep) (first | (go_at_call 23; refine N1.mono ?_; rintro e wN ⟨rfl, hwN⟩; subst hwN) | (go_at_call 25; refine L1.mono ?_; rintro e wL ⟨aL, cL, rfl, oL, bL⟩; have cL0 := (bL.cell (p := ⟨db, 0, none⟩) hdl).trans c0d) | (go_at_call 26; refine Calls.mono (HL.out _ bL) ?_; rintro e wM ⟨aM, cM, rfl, oM, bM⟩; have cM0 := (bM.cell (p := ⟨db, 0, none⟩) (cell_lt cL0)).trans cL0) | (go_at_call 19; refine (same_any (own_below oL bM) oM (Nat.le_trans hT (by omega))).mono ?_; rintro e wS ⟨rfl, bS⟩; have cS0 := (bS.cell (p := ⟨db, 0, none⟩) (cell_lt cM0)).trans cM0))
                have T5 : Aside _ := (((L2.below ZD.out (thK _ _ _ _) (thD _ _ _ _ _) bL).below (thK _ _ _ _) (thD _ _ _ _ _) bM).below (thK _ _ _ _) (thD _ _ _ _ _) bS).bel
                clear N1 L1 HL ZD oL oM bL bM bS cL0 cM0 cS0 c0 c0d hdl
                go_wp2_with fail
                go_ret
                exact ⟨rfl, BK.out.trans (T5.out.mono BK.out.size)⟩
end Go.Proofs.Ytjkcdkoomipfkaa
