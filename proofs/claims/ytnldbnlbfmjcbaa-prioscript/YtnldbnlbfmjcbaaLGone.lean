/- Proved: the walk of the law PrioGone. -/
import Derived.Test.YtnldbnlbfmjcbaaLFirst
import Derived.Test.YtnldbnlbfmjcbaaOpen2
namespace Go.Proofs.Ytnldbnlbfmjcbaa
open Go.RowKit Go.Sort
set_option linter.unusedVariables false

theorem LW.z {w W : World} {qb room : Nat} {s l : List M} {v : Value} (h : LW w W qb room s v l) : LZ w W (fun k => v.ownBlock = some k) qb room s := by
  obtain ⟨F, h1, h2, h3, h4, h5⟩ := h
  exact ⟨F, h1, h2, h3, fun k hk => ⟨h5 k hk, h4.lt hk⟩⟩
theorem LZ.w {w W : World} {Z : Nat → Prop} {qb room : Nat} {s l : List M} {v : Value} (h : LZ w W Z qb room s) (ho : Own W v l) (hz : ∀ k, v.ownBlock = some k → Z k) : LW w W qb room s v l := by
  obtain ⟨F, h1, h2, h3, h4⟩ := h
  exact ⟨F, h1, h2, h3, ho, fun g hg => (h4 g (hz g hg)).1⟩
theorem del_gone {s : List M} {k : K} : hasK (del s k) k = false := by
  cases e : hasK (del s k) k
  · rfl
  · rw [hasK_iff] at e
    obtain ⟨x, hx, e2⟩ := List.mem_map.1 e
    simp [del] at hx
    exact absurd e2 hx.2
theorem hasK_nth {s : List M} {j : Nat} (h : j < s.length) : hasK s (nth s j).1 = true := hasK_take h rfl

set_option maxRecDepth 100000 in
set_option maxHeartbeats 4000000 in
theorem gone_walk (w : World) (a : Option Addr) (n c : Nat) (l : List M) (hn : n ≤ maxLen) (h : InM w a n l) (ga : Option Addr) (gn gc : Nat) (z : List Int) (hgn : gn ≤ maxLen) (hz : InB w ga gn z) :
    Calls Try.prog 5 #[.slice a n c, .slice ga gn gc] w fun e w' => e = .returned (.bool true) ∧ Below w.heap.size w w' := by
  unfold maxLen at hn hgn
  by_cases hbig : 64 < n
  · have g : (64 : Int) < (n : Int) := by omega
    clear h hz
    go_enter Try.func5, Try.ntmps5
    go_wp2
    go_ret
    exact ⟨rfl, Below.refl _ _⟩
  · have g : ¬ (64 : Int) < (n : Int) := by omega
    by_cases hbig2 : 200 < gn
    · have g2 : (200 : Int) < (gn : Int) := by omega
      clear h hz
      go_enter Try.func5, Try.ntmps5
      go_wp2
      go_ret
      exact ⟨rfl, Below.refl _ _⟩
    · have g2 : ¬ (200 : Int) < (gn : Int) := by omega
      have hl := h.1
      have NW := lnew (w := w) (W := w) 64 (by unfold i64; omega) (Below.refl _ _)
      rw [clamp64] at NW
      go_enter Try.func5, Try.ntmps5
      go_wp2_with fail
      refine NW.mono ?_
      rintro e w1 ⟨qb, rfl, h1, _⟩
      have hw1 := h1.with ((Below.refl w1.heap.size w1).alloc (Nat.le_refl _) (.cells #[] 30)) (own_empty w1) (fun k hk => by simp [Value.ownBlock] at hk; omega)
      clear NW
      go_wp2_with fail
      go_loopw [6, 7] (fun v6 si wr => ∃ (k : Nat) (s : List M) (a6 : Option Addr) (c6 : Nat), k ≤ n ∧ si = .int .i64 k ∧ v6 = .slice a6 s.length c6 ∧ LW w wr qb 64 s (.slice a6 s.length c6) s) (fun _ si _ => n - (intOf si).toNat)
      case atStart => exact ⟨0, [], some ⟨w1.heap.size, 0, none⟩, 0, Nat.zero_le _, rfl, rfl, hw1⟩
      case round =>
        obtain ⟨k, s, a6, c6, hk, rfl, rfl, hq⟩ := hrel
        obtain ⟨hs, _, hsl, hsw⟩ := hq.q.srt
        by_cases hlt : k < n
        · obtain ⟨x, hx⟩ : ∃ x, nth l k = x := ⟨_, rfl⟩
          have hxw : mwf x := by rw [← hx, nth_get l k (by omega)]; exact h.2.1 _ (List.getElem_mem _)
          obtain ⟨b, off, rfl, x0, x1, x2, x3, x4, x5⟩ := h.cells hq.q.bel (i := k) (by omega) hx
          have P1 := wpush hq x hxw
          have CE := fun (W : World) (hW : Below w.heap.size w W) => h.cells hW (i := k) (by omega) hx
          have hlt' : (k : Int) < (n : Int) := by omega
          by_cases hC : pushC s 64 x = 0
          · have hpz := (pushC_zero hC).2.2
            rw [hC, hpz] at P1
            have P2 := fun (W : World) (hW : LW w W qb 64 (ins s x) (.slice a6 s.length c6) s) => winsert hW (by omega) x
            have hil := ins_len s x
            have HI : Hid _ := hil
            obtain ⟨s2, hs2⟩ : ∃ s2, ins s x = s2 := ⟨_, rfl⟩
            rw [hs2] at P1 P2 HI
            clear hil hs2 hC hpz hx
            obtain ⟨⟨b1, b2, b3⟩, b4, b5, b6⟩ := x
            dsimp only [mv] at P1 P2 x0 x1 x2 x3 x4 x5
            dsimp only at CE
            have PP2 : Aside _ := P2
            have CA : Aside _ := CE
            clear P2 CE hs hsw
            go_wp2_with fail
            refine P1.mono ?_
            rintro e w3 ⟨rfl, q2⟩
            obtain ⟨_, _, hab, y0, y1, y2, y3, y4, y5⟩ := CA.out w3 q2.q.bel
            simp only [Option.some.injEq, Addr.mk.injEq] at hab
            obtain ⟨rfl, rfl, _⟩ := hab
            clear x0 x1 x2 x3 x4 x5 P1
            go_wp2_with fail
            refine (PP2.out _ q2).mono ?_
            rintro e w4 ⟨a7, c7, rfl, q4⟩
            clear y0 y1 y2 y3 y4 y5
            go_wp2_with fail
            go_roundw
            case rel => exact ⟨k + 1, s2, a7, c7, by omega, by go_num, by rw [HI.out], by rw [HI.out]; exact q4⟩
            case measure => simp [intOf]; omega
          · have hps := pushS_ne hC
            rw [hps] at P1
            obtain ⟨C1, hC1⟩ : ∃ C1, pushC s 64 x = C1 := ⟨_, rfl⟩
            rw [hC1] at P1 hC
            have hC2 : (C1 == 0) = false := by simpa using hC
            clear hC1 hps hx CE
            obtain ⟨⟨b1, b2, b3⟩, b4, b5, b6⟩ := x
            dsimp only [mv] at P1 x0 x1 x2 x3 x4 x5
            clear hs hsw
            go_wp2_with fail
            refine P1.mono ?_
            rintro e w3 ⟨rfl, q2⟩
            clear x0 x1 x2 x3 x4 x5 P1
            go_wp2_with fail
            go_roundw
            case rel => exact ⟨k + 1, s, a6, c6, by omega, by go_num, rfl, q2⟩
            case measure => simp [intOf]; omega
        · have hkd : k = n := by omega
          subst hkd
          have hgt : ¬ ((k : Int) < (k : Int)) := by omega
          have N1 := llen hq.q
          clear h hs hsw
          go_wp2_with fail
          refine N1.mono ?_
          rintro e w3 ⟨rfl, hw3⟩
          have hw3' := hw3.symm
          subst hw3'
          clear hw3 N1
          go_wp2_with fail
          go_loopw [6, 8] (fun v6 si wr => ∃ (i : Nat) (s : List M) (a6 : Option Addr) (c6 : Nat), i ≤ gn ∧ si = .int .i64 i ∧ v6 = .slice a6 s.length c6 ∧ LW w wr qb 64 s (.slice a6 s.length c6) s) (fun _ si _ => gn - (intOf si).toNat)
          case atStart => exact ⟨0, s, a6, c6, Nat.zero_le _, rfl, rfl, hq⟩
          case round =>
            clear hq hsl
            obtain ⟨i, s, a6, c6, hi, rfl, rfl, hq⟩ := hrel
            obtain ⟨hs, _, hsl, hsw⟩ := hq.q.srt
            by_cases hgo : i < gn ∧ 0 < s.length
            · obtain ⟨hig, hs0⟩ := hgo
              obtain ⟨gb, goff, rfl, hgb, hgc⟩ := hz.2 (by omega)
              have gcell := (hq.q.bel.cell (p := ⟨gb, goff + i, none⟩) hgb).trans (hgc i hig)
              have hzb := hz.1 i
              obtain ⟨zv, hzv⟩ : ∃ zv, z.getD i 0 = zv := ⟨_, rfl⟩
              rw [hzv] at gcell hzb
              have hsz : (0 : Int) < (s.length : Int) := by omega
              have hm1 := Int.emod_nonneg zv (show (s.length : Int) ≠ 0 by omega)
              have hm2 := Int.emod_lt_of_pos zv hsz
              obtain ⟨j, hj⟩ : ∃ j : Nat, zv % (s.length : Int) = (j : Int) := ⟨(zv % (s.length : Int)).toNat, by omega⟩
              have hjs : j < s.length := by omega
              have hjs' : (j : Int) < (s.length : Int) := by omega
              obtain ⟨g6, c6', hv6, _⟩ := own_nonempty hq.own hjs
              obtain ⟨rfl, rfl⟩ : a6 = some ⟨g6, 0, none⟩ ∧ c6 = c6' := by simpa using hv6
              obtain ⟨x, hx⟩ : ∃ x, nth s j = x := ⟨_, rfl⟩
              obtain ⟨x0, x1, x2, x3, x4, x5⟩ := own_cell hq.own (x := x) hjs (by rw [← nth_get]; exact hx)
              have hxm : x ∈ s := by rw [← hx, nth_get s j hjs]; exact List.getElem_mem _
              have hxw : mwf x := hsw x hxm
              have hxk : hasK s x.1 = true := by rw [← hx]; exact hasK_nth hjs
              have hxf : fnd s x.1 = x := fnd_of hs.nodup hxm
              have hdl := del_len s x.1
              have nz1 : ¬ ((s.length : Int) = 0) := by omega
              have nz2 : ((s.length : Int) == 0) = false := by simpa using nz1
              have hig' : (i : Int) < (gn : Int) := by omega
              have zz := hq.z.more (.cells #[.int .i64 x.1.1, .int .i64 x.1.2.1, .int .i64 x.1.2.2, .int .i64 x.2.1, .int .i64 x.2.2.1, .int .i64 x.2.2.2] 30)
              have bx := BoxM.made wr x
              have ow := own_below hq.own ((Below.refl wr.heap.size wr).alloc (Nat.le_refl _) (.cells #[.int .i64 x.1.1, .int .i64 x.1.2.1, .int .i64 x.1.2.2, .int .i64 x.2.1, .int .i64 x.2.2.1, .int .i64 x.2.2.2] 30))
              have R1 := zremove zz x.1 hxw.1
              rw [hxf, hxk] at R1
              dsimp only [mv, kv] at R1
              obtain ⟨mB, hmB⟩ : ∃ mB, wr.heap.size = mB := ⟨_, rfl⟩
              have bx' : BoxM (wr.alloc (.cells #[.int .i64 x.1.1, .int .i64 x.1.2.1, .int .i64 x.1.2.2, .int .i64 x.2.1, .int .i64 x.2.2.1, .int .i64 x.2.2.2] 30)) mB x := by rw [← hmB]; exact bx
              have BX : Aside _ := bx'
              have OW : Aside _ := ow
              clear hx hv6 bx bx' ow zz hs hsw hxm hxk hxf hq hgc hz
              go_wp2_with fail
              refine R1.mono ?_
              rintro e w5 ⟨rfl, z5, f5⟩
              have b5 := BoxM.keep BX.out f5 (fun g => g (.inr hmB.symm))
              have o5 := Own.keep OW.out f5 (fun k hk g => g (.inl hk))
              obtain ⟨m0, m1, m2, m3, m4, m5⟩ := b5.cells
              have hml := b5.lt
              have bb : Below w5.heap.size w5 (w5.alloc (.cells #[.int .i64 x.1.1, .int .i64 x.1.2.1, .int .i64 x.1.2.2, .int .i64 x.2.1, .int .i64 x.2.2.1, .int .i64 x.2.2.2] 30)) := (Below.refl _ _).alloc (Nat.le_refl _) _
              have z6 := z5.more (.cells #[.int .i64 x.1.1, .int .i64 x.1.2.1, .int .i64 x.1.2.2, .int .i64 x.2.1, .int .i64 x.2.2.1, .int .i64 x.2.2.2] 30)
              have bm6 := b5.below bb
              have bx6 := BoxM.made w5 x
              have o6 := own_below o5 bb
              have R2 := zremove z6 x.1 hxw.1
              rw [fnd_none del_gone, del_none del_gone, del_gone] at R2
              dsimp only [mv, kv] at R2
              obtain ⟨xB, hxB⟩ : ∃ xB, w5.heap.size = xB := ⟨_, rfl⟩
              have bx6' : BoxM (w5.alloc (.cells #[.int .i64 x.1.1, .int .i64 x.1.2.1, .int .i64 x.1.2.2, .int .i64 x.2.1, .int .i64 x.2.2.1, .int .i64 x.2.2.2] 30)) xB x := by rw [← hxB]; exact bx6
              have hmx : mB < xB := by rw [← hxB]; exact hml
              have hmx2 : ¬ (mB = xB) := by omega
              have hmx3 : ¬ (xB = mB) := by omega
              have hmx4 : (xB == mB) = false := by simpa using hmx3
              have BM6 : Aside _ := bm6
              have BX6 : Aside _ := bx6'
              have O6 : Aside _ := o6
              clear b5 o5 z5 f5 R1 BX OW bb z6 bm6 bx6 bx6' o6 x0 x1 x2 x3 x4 x5 gcell
              go_wp2_with fail
              refine R2.mono ?_
              rintro e w7 ⟨rfl, z7, f7⟩
              have bm7 := BoxM.keep BM6.out f7 (fun g => g (.inl (.inr hmB.symm)))
              have bx7 := BoxM.keep BX6.out f7 (fun g => g (.inr hxB.symm))
              have o7 := Own.keep O6.out f7 (fun k hk g => g (.inl (.inl hk)))
              clear m0 m1 m2 m3 m4 m5 hml
              obtain ⟨m0, m1, m2, m3, m4, m5⟩ := bm7.cells
              obtain ⟨n0, n1, n2, n3, n4, n5⟩ := bx7.cells
              have hml := bm7.lt
              have hnl := bx7.lt
              have bb8 : Below w7.heap.size w7 (w7.alloc zobj) := (Below.refl _ _).alloc (Nat.le_refl _) _
              have l8 := (z7.below bb8).w (own_below o7 bb8) (fun k hk => .inl (.inl hk))
              have W8 := wwithout l8 (by omega) x.1.1 x.1.2.1 x.1.2.2
              clear bm7 bx7 o7 z7 f7 R2 BM6 BX6 O6 bb8 l8
              obtain ⟨⟨d1, d2, d3⟩, d4, d5, d6⟩ := x
              dsimp only at m0 m1 m2 m3 m4 m5 n0 n1 n2 n3 n4 n5 W8
              go_wp2_with fail
              refine W8.mono ?_
              rintro e w9 ⟨a9, c9, rfl, q9⟩
              have QA : Aside _ := q9
              clear q9 W8 m0 m1 m2 m3 m4 m5 n0 n1 n2 n3 n4 n5
              go_wp2_with fail
              go_roundw
              case rel => exact ⟨i + 1, _, a9, c9, by omega, by go_num, rfl, QA.out⟩
              case measure => simp [intOf]; omega
            · have L1 := llist hq.q
              have hob := hq.own
              have hps := pushS_some s ((-3, -3, 0), 0, 0, 0)
              have m0w : mwf ((-3, -3, 0), 0, 0, 0) := by unfold mwf kwf i64; simp
              have P1 := fun (W : World) (hW : LQ w W qb 64 s) => lpush hW ((-3, -3, 0), 0, 0, 0) m0w
              have CL := pushC_lt (s := s) (room := 64) (m := ((-3, -3, 0), 0, 0, 0))
              obtain ⟨s2, hs2⟩ : ∃ s2, pushS s 64 ((-3, -3, 0), 0, 0, 0) = s2 := ⟨_, rfl⟩
              obtain ⟨C1, hC1⟩ : ∃ C1, pushC s 64 ((-3, -3, 0), 0, 0, 0) = C1 := ⟨_, rfl⟩
              rw [hs2] at hps P1
              rw [hC1] at P1 CL
              have hs2l : (0 : Int) < (s2.length : Int) := by
                rcases Nat.eq_zero_or_pos s2.length with e | e
                · exact absurd (List.length_eq_zero_iff.1 e) hps
                · omega
              dsimp only [mv] at P1
              have PP : Aside _ := P1
              have HOB : Aside _ := hob
              clear P1 hob hps hs2 hC1 hs hsw hz m0w
              have hcase : (i < gn ∧ s.length = 0) ∨ ¬ i < gn := by omega
              rcases hcase with ⟨c1, c2⟩ | c1
              all_goals
                first
                  | (have k1 : (i : Int) < (gn : Int) := by omega
                     have k2 : ¬ (0 : Int) < (s.length : Int) := by omega
                     have C2 : Hid _ := c2
                     clear c2)
                  | (have k1 : ¬ (i : Int) < (gn : Int) := by omega
                     have k2 : decide ((i : Int) < (gn : Int)) = false := by simpa using k1)
                have CH : Hid _ := hgo
                have CG : Hid _ := c1
                clear hgo c1
                go_wp2_with fail
                refine L1.mono ?_
                rintro e w3 ⟨a3, c3, rfl, o3, q3, b3⟩
                have S3 := same_any o3 (own_below HOB.out b3) (by omega)
                go_wp2_with fail
                refine S3.mono ?_
                rintro e w4 ⟨rfl, b4⟩
                have q4 := q3.below b4
                have P4 := PP.out _ q4
                clear S3 o3 q3 b3 b4 q4
                rcases CL with rfl | rfl | rfl
                all_goals
                  go_wp2_with fail
                  refine P4.mono ?_
                  rintro e w5 ⟨rfl, q5⟩
                  have L5 := llen q5
                  have hbel := q5.bel
                  clear q5
                  go_wp2_with fail
                  refine L5.mono ?_
                  rintro e w6 ⟨rfl, hw6⟩
                  have hw6' := hw6.symm
                  subst hw6'
                  clear hw6 L5
                  go_wp2_with fail
                  go_ret
                  refine ⟨?_, hbel⟩
                  have hdd : decide (0 < s2.length) = true := by simpa using (by omega : 0 < s2.length)
                  simp [hdd, Array.getD]
                  try omega
end Go.Proofs.Ytnldbnlbfmjcbaa
