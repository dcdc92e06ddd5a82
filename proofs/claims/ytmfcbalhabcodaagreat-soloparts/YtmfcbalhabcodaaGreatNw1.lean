/- Proved: the contract of New: none where the federation may not be, else a run in which the first messages wait. -/
import Derived.Test.YtmfcbalhabcodaaGreatNw0
namespace Go.Proofs.YtmfcbalhabcodaaGreat
open Go.RowKit Go.Shelf
set_option linter.unusedVariables false

set_option maxRecDepth 100000 in
set_option maxHeartbeats 1000000 in
theorem new_bad {w : World} {D : Wd} (h : Ww w D) {N E : Int} (hE : wldE D = (N, E)) (h0 : E ≠ 0) :
    Calls Tryz.prog 10 #[wv D] w fun e w' => e = .returned (.tuple #[.pointer none, .int .i64 E]) ∧ Below w.heap.size w w' := by
  have hb0 := al w (.cells (wcs D) 25)
  have C := wcheck_any _ D (h.below hb0)
  rw [hE] at C
  have k1 : (E != 0) = true := by simpa using h0
  have HB0 : Hid _ := hb0
  dsimp only [wv, wcs] at C HB0 ⊢
  clear h hb0 hE
  go_enter Tryz.func10, Tryz.ntmps10
  go_wp2_with fail
  refine C.mono ?_
  rintro e w1 ⟨rfl, hb1⟩
  go_wp2_with fail
  go_ret2
  exact ⟨rfl, (HB0.out).trans (hb1.mono (HB0.out).size)⟩

set_option maxRecDepth 100000 in
set_option maxHeartbeats 4000000 in
theorem new_ok {w : World} {D : Wd} (h : Ww w D) {N : Int} (hE : wldE D = (N, 0)) :
    Calls Tryz.prog 10 #[wv D] w fun e w' => ∃ rb F, e = .returned (.tuple #[.pointer (some ⟨rb, 0, none⟩), .int .i64 0]) ∧ RunF rb D (newR D) w' F ∧ (∀ k, F k → w.heap.size ≤ k) ∧ Below w.heap.size w w' := by
  have mixed : Tryz.prog.follows .mixedOrders = true := by kernel_rfl
  have hok := okD_of hE
  obtain ⟨fa, hfa⟩ : ∃ fa, D.fa = fa := ⟨_, rfl⟩
  obtain ⟨W0, hW0⟩ : ∃ W0, W0 = w.alloc (.cells (wcs D) 25) := ⟨_, rfl⟩
  have hb0 : Below w.heap.size w W0 := by rw [hW0]; exact al _ _
  have hWw := h.below hb0
  have hBX := BoxW.new h
  rw [← hW0] at hBX
  obtain ⟨B, hB⟩ : ∃ B, w.heap.size = B := ⟨_, rfl⟩
  rw [hB] at hBX
  have HX : Hid (∀ W, Below W0.heap.size W0 W → W.cell? ⟨B, 0, none⟩ = some (.slice D.pa D.ps.length D.pc) ∧ W.cell? ⟨B, 1, none⟩ = some (.slice fa D.fs.length D.fc) ∧ W.cell? ⟨B, 2, none⟩ = some (.int .i64 D.en) ∧ Ww W D) := fun W hW => by
    obtain ⟨y0, y1, y2, y3⟩ := hBX.below hW
    rw [hfa] at y1
    exact ⟨y0, y1, y2, y3⟩
  have C := wcheck_any W0 D hWw
  rw [hE] at C
  have HC2 : Hid (∀ W, Below W0.heap.size W0 W → Calls Tryz.prog 26 #[.agg #[.slice D.pa D.ps.length D.pc, .slice fa D.fs.length D.fc, .int .i64 D.en]] W fun e w' => ∃ D', e = .returned (wv D') ∧ Lik D' D ∧ Ww (mask (fun k => decide (k < W.heap.size)) w') D' ∧ Below W.heap.size W w') := fun W hW => by
    have := kept_any W D (hWw.below hW)
    dsimp only [wv] at this ⊢
    rw [hfa] at this
    exact this
  have HC3 : Hid (∀ W, Below W0.heap.size W0 W → Calls Tryz.prog 28 #[.agg #[.slice D.pa D.ps.length D.pc, .slice fa D.fs.length D.fc, .int .i64 D.en]] W fun e w' => ∃ v, e = .returned v ∧ RowM W w' v (sts D)) := fun W hW => by
    have := starts_any W D (hWw.below hW)
    dsimp only [wv] at this
    rw [hfa] at this
    exact this
  have HB0 : Hid _ := hb0
  have HOK : Hid _ := hok
  have HFA : Hid _ := hfa
  have HW0 : Hid _ := hW0
  have HBE : Hid _ := hB
  have hfl := h.fl
  rw [hW0] at C
  dsimp only [wv, wcs] at C HW0 ⊢
  rw [hfa] at C HW0 ⊢
  clear h hb0 hE hWw hBX hW0 hfa hok hB
  go_enter Tryz.func10, Tryz.ntmps10
  go_wp2_with fail
  refine C.mono ?_
  rintro e w1 ⟨rfl, hb1⟩
  rw [← HW0.out] at hb1
  rw [HBE.out]
  obtain ⟨x0, x1, x2, _⟩ := HX.out w1 hb1
  have HB1 : Hid _ := hb1
  clear C hb1
  go_wp2_with fail
  refine (HC2.out w1 HB1.out).mono ?_
  rintro e w2 ⟨D', rfl, hlik, hww, hb2⟩
  have hb02 := (HB1.out).trans (hb2.mono (HB1.out).size)
  clear x0 x1 x2
  have HL : Hid _ := Lay.begin hww hb2.size
  obtain ⟨W3, hW3⟩ : ∃ W3, W3 = ((w2.alloc (.cells #[] 38)).alloc (.cells #[.slice (some ⟨w2.heap.size, 0, none⟩) 0 0] 67)).alloc (.cells (rcs D' (.slice none 0 0) (w2.heap.size + 1)) 70) := ⟨_, rfl⟩
  have hb3 : Below w2.heap.size w2 W3 := by rw [hW3]; exact (((Below.refl _ w2).alloc (Nat.le_refl _) _).alloc (by simp) _).alloc (by simp; omega) _
  rw [← hW3] at HL
  have hb03 := hb02.trans (hb3.mono hb02.size)
  obtain ⟨x0, x1, x2, _⟩ := HX.out w2 hb02
  obtain ⟨y0, y1, y2, hW3w⟩ := HX.out W3 hb03
  have HW3 : Hid _ := hW3
  have HB03 : Hid _ := hb03
  have HLIK : Hid _ := hlik
  have HS2 : Hid (W0.heap.size ≤ w2.heap.size) := hb02.size
  have HS1 : Hid (W0.heap.size ≤ w1.heap.size) := (HB1.out).size
  obtain ⟨hi, hhi⟩ : ∃ hi, w2.heap.size = hi := ⟨_, rfl⟩
  have HHI : Hid _ := hhi
  have lB : B < w2.heap.size := clt x1
  have lB' := lB
  rw [hhi] at lB'
  have lB1 : B < hi + 1 := by omega
  have lB2 : B < hi + 1 + 1 := by omega
  have lB3 : ¬ B = hi := by omega
  have lB4 : ¬ B = hi + 1 := by omega
  have lB5 : ¬ B = hi + 1 + 1 := by omega
  dsimp only [wv, rcs] at HW3 ⊢
  rw [hhi] at HW3
  rw [HW3.out] at y1
  clear hww hlik hb2 hb02 hb3 hb03 hW3 hW3w
  go_wp2_with fail
  rw [← HW3.out]
  clear x0 x1 x2 lB lB' lB1 lB2 lB3 lB4 lB5
  have HY1 : Hid (∀ W, Below W0.heap.size W0 W → Ww W D) := fun W hW => (HX.out W hW).2.2.2
  rw [hhi] at HL
  clear hhi y0 y1 y2
  go_loopw [26] (fun s26 wr => ∃ (k : Nat) (fv : Value), k ≤ D.fs.length ∧ s26 = .int .i64 k ∧ Lay wr (hi + 1 + 1) w1.heap.size hi D' fv (.slice (some ⟨hi, 0, none⟩) 0 0) (hi + 1) [] (newE D.fs k) ∧ Below W0.heap.size W0 wr) (fun s26 _ => D.fs.length - (intOf s26).toNat)
  case atStart => exact ⟨0, _, Nat.zero_le _, rfl, HL.out, HB03.out⟩
  case round =>
    clear HL HB03 HW3
    obtain ⟨k, fv, hk, rfl, hL, hbr⟩ := hrel
    by_cases hkl : k < D.fs.length
    · have hk' : (k : Int) < (D.fs.length : Int) := by omega
      obtain ⟨g, hg⟩ : ∃ g, nthF D.fs k = g := ⟨_, rfl⟩
      have hc := (HY1.out wr hbr).f.cells hkl hg
      have hlt : LtF g := (HY1.out wr hbr).lt g (hg ▸ nthF_mem hkl)
      rw [HFA.out] at hc
      obtain ⟨b, off, rfl, hbb, z0, z1, z2, z3, z4, z5, z6⟩ := hc
      obtain ⟨_, _, _, y3, _⟩ := hL.cellsR
      have lrb : hi + 1 + 1 < wr.heap.size := clt y3
      obtain ⟨FB, hFB⟩ : ∃ FB, wr.heap.size = FB := ⟨_, rfl⟩
      obtain ⟨W7, hW7⟩ : ∃ W7, W7 = wr.alloc (.cells #[.int .i64 g.kd, .int .i64 g.lk, .int .i64 g.st, .slice g.ra g.rs.length g.rc, .slice g.pa g.ps.length g.pc, .slice g.sa g.ss.length g.sc, .slice g.ia g.is.length g.ic] 54) := ⟨_, rfl⟩
      have hb7 : Below wr.heap.size wr W7 := by rw [hW7]; exact al _ _
      have s7 : W7.heap.size = FB + 1 := by rw [hW7, ← hFB]; simp
      have hb8 := (al W7 (.cells #[.int .i64 g.st, .int .i64 g.is.length, .slice none 0 0] 72)).drew
      have hb78 := hb7.trans (hb8.mono hb7.size)
      have hNB : (W7.alloc (.cells #[.int .i64 g.st, .int .i64 g.is.length, .slice none 0 0] 72)).drew.heap[FB + 1]? = some (.cells #[.int .i64 g.st, .int .i64 g.is.length, .slice none 0 0] 72 (0, 0)) := by
        have := World.alloc_heap_new W7 (.cells #[.int .i64 g.st, .int .i64 g.is.length, .slice none 0 0] 72)
        rw [s7] at this
        exact this
      have hX : newE D.fs k ++ [e0 g] = newE D.fs (k + 1) := by rw [newE_succ, hg]
      obtain ⟨a', c', w8, hrun, hfz, hcl, hL8, hbl8, _⟩ := (hL.below hb78).addFed g (FB + 1) hNB (by rw [newE_len]; omega) 68 _ hX
      have HRUN : Hid _ := hrun
      have hir := hL.hs
      have hbw : Below W0.heap.size W0 (w8.setCell ⟨hi + 1 + 1, 3, none⟩ (.slice a' (newE D.fs (k + 1)).length c')) := by
        have h1 := hbr.trans (hb78.mono hbr.size)
        have h2 := HS2.out
        rw [HHI.out] at h2
        exact h1.trans (hbl8.mono h2)
      have HL8 : Hid _ := hL8
      have HBW : Hid _ := hbw
      have y37 : W7.cell? ⟨hi + 1 + 1, 3, none⟩ = some fv := (hb7.cell (p := ⟨hi + 1 + 1, 3, none⟩) lrb).trans y3
      have q2 : W7.cell? ⟨FB, 2, none⟩ = some (.int .i64 g.st) := by rw [hW7, ← hFB, World.cell?_alloc_new]; rfl
      have q6 : W7.cell? ⟨FB, 6, none⟩ = some (.slice g.ia g.is.length g.ic) := by rw [hW7, ← hFB, World.cell?_alloc_new]; rfl
      have l7 : hi + 1 + 1 < W7.heap.size := clt y37
      have l7b : FB < W7.heap.size := clt q2
      have hil := hlt.i
      have l7c : hi + 1 + 1 < FB + 1 := by omega
      have l7d : ¬ hi + 1 + 1 = FB + 1 := by omega
      have l7e : ¬ FB + 1 = hi + 1 + 1 := by omega
      have l7f : hi + 1 + 1 < FB := by omega
      have l7g : ¬ hi + 1 + 1 = FB := by omega
      have HW7 : Hid _ := hW7
      clear hg hlt hL hb7 hb8 hb78 hNB hX hrun hL8 hbl8 hbw hW7 hbr
      go_wp2_with fail
      rw [← HW7.out]
      go_region_law (refine step_append_run rfl (.tmp 34) (.tmp 41) 68 rfl (by simp [Act.eval]) (by simp [Act.eval]) HRUN.out ?_)
      all_goals go_wp2_with fail
      all_goals go_roundw
      all_goals (try (case measure => simp [intOf]; omega))
      all_goals exact ⟨k + 1, _, by omega, by go_num, HL8.out, HBW.out⟩
    · obtain rfl : k = D.fs.length := by omega
      obtain ⟨x0, x1, x2, _⟩ := HX.out wr hbr
      obtain ⟨_, _, _, _, y4⟩ := hL.cellsR
      have lrb : hi + 1 + 1 < wr.heap.size := clt y4
      have lBr : B < wr.heap.size := clt x0
      have HZ : Hid (∀ W, Below wr.heap.size wr W → W.cell? ⟨B, 0, none⟩ = some (.slice D.pa D.ps.length D.pc) ∧ W.cell? ⟨B, 1, none⟩ = some (.slice fa D.fs.length D.fc) ∧ W.cell? ⟨B, 2, none⟩ = some (.int .i64 D.en) ∧ W.cell? ⟨hi + 1 + 1, 4, none⟩ = some (.pointer (some ⟨hi + 1, 0, none⟩))) := fun W hW => ⟨(hW.cell (p := ⟨B, 0, none⟩) lBr).trans x0, (hW.cell (p := ⟨B, 1, none⟩) lBr).trans x1, (hW.cell (p := ⟨B, 2, none⟩) lBr).trans x2, (hW.cell (p := ⟨hi + 1 + 1, 4, none⟩) lrb).trans y4⟩
      have HPI : Hid (∀ W a c, Below wr.heap.size wr W → RdX (H.FP (hi + 1) (.slice (some ⟨hi, 0, none⟩) 0 0)) W a (sts D) → Calls Tryz.prog 27 #[.slice a (sts D).length c, .func (.func 29) #[.pointer (some ⟨hi + 1, 0, none⟩)] #[]] W fun e w' => e = .returned (.tuple #[]) ∧ ∃ pv', Lay w' (hi + 1 + 1) w1.heap.size hi D' fv pv' (hi + 1) (putL [] (sts D)) (newE D.fs D.fs.length) ∧ Below hi W w' ∧ w'.cell? ⟨B, 0, none⟩ = some (.slice D.pa D.ps.length D.pc) ∧ w'.cell? ⟨B, 1, none⟩ = some (.slice fa D.fs.length D.fc) ∧ w'.cell? ⟨B, 2, none⟩ = some (.int .i64 D.en) ∧ w'.cell? ⟨hi + 1 + 1, 4, none⟩ = some (.pointer (some ⟨hi + 1, 0, none⟩))) := fun W a c hW hr => by
        have hLW := hL.below hW
        have hsl := sts_len HOK.out
        refine (handOn_any hLW.pil a c (sts D) hr (by simp; omega)).mono fun e w' ⟨h1, v', h2, h3, h4⟩ => ?_
        have hLf := hLW.pile h2 h3 h4
        have hS : ∀ k, H.FP (hi + 1) (.slice (some ⟨hi, 0, none⟩) 0 0) k → hi ≤ k := fun k hk => by
          rcases hk with rfl | hk
          · omega
          · simp [Value.ownBlock] at hk; omega
        have hbl := h3.below hLW.hs hS
        have lBh : B < hi := by
          have h5 := HS2.out
          rw [HHI.out] at h5
          have h6 := HW0.out
          have : W0.heap.size = w.heap.size + 1 := by rw [h6]; simp
          have h7 := HBE.out
          omega
        obtain ⟨q0, q1, q2, _⟩ := HZ.out W hW
        obtain ⟨_, _, _, _, q4⟩ := hLf.cellsR
        exact ⟨h1, v', hLf, hbl, (hbl.cell (p := ⟨B, 0, none⟩) lBh).trans q0, (hbl.cell (p := ⟨B, 1, none⟩) lBh).trans q1, (hbl.cell (p := ⟨B, 2, none⟩) lBh).trans q2, q4⟩
      have HPL : Hid (∀ k, H.FP (hi + 1) (.slice (some ⟨hi, 0, none⟩) 0 0) k → k < wr.heap.size) := hL.pil.lt
      have HBR : Hid _ := hbr
      clear hL hbr
      go_wp2_with fail
      go_region_held3 (fun w' => w'.cell? ⟨B, 0, none⟩ = some (.slice D.pa D.ps.length D.pc) ∧ w'.cell? ⟨B, 1, none⟩ = some (.slice fa D.fs.length D.fc) ∧ w'.cell? ⟨B, 2, none⟩ = some (.int .i64 D.en) ∧ w'.cell? ⟨hi + 1 + 1, 4, none⟩ = some (.pointer (some ⟨hi + 1, 0, none⟩))) (go_keep) (first
        | (go_at_call 27; refine (HPI.out _ _ _ HB7.out HR7.out).mono ?_; rintro e w8 ⟨rfl, pv', hL8, hb8, t0, t1, t2, t4⟩; have HL8 : Hid _ := hL8; have HB8 : Hid _ := hb8; clear hL8 hb8)
        | (go_at_call 28; refine (HC3.out _ ((HBR.out).drew)).mono ?_; rintro e w7 ⟨v7, rfl, hr7⟩; have hb7 := ((Below.refl _ wr).drew).trans hr7.2; obtain ⟨a7, c7, rfl, hx7⟩ := hr7.rdx (F := H.FP (hi + 1) (.slice (some ⟨hi, 0, none⟩) 0 0)) HPL.out; obtain ⟨t0, t1, t2, t4⟩ := HZ.out w7 hb7; have HB7 : Hid _ := hb7; have HR7 : Hid _ := hx7; clear hb7 hr7 hx7))
      all_goals
        go_wp2_with fail
        go_ret2
        have hL8 := HL8.out
        have h2 := HS2.out
        rw [HHI.out] at h2
        have h1 := HS1.out
        have h0 := (HB0.out).size
        refine ⟨hi + 1 + 1, _, rfl, ⟨w1.heap.size, hi, D', fv, pv', hi + 1, _, ⟨hL8, HLIK.out, newE_len _ _, fun i hi' => ?_, Inv.new HOK.out, HOK.out, ?_⟩, rfl⟩, ?_, ?_⟩
        · rw [newE_nth _ hi']
          exact ⟨by show _ = nthI (D.fs.map (·.st)) i; rw [nth_mapF _ _ hi'], by show _ = nthI (D.fs.map (fun f => (f.is.length : Int))) i; rw [nth_mapF _ _ hi'], rfl⟩
        · show (putL [] (sts D)).length ≤ _
          rw [putL_len]
          have := sts_len HOK.out
          simp
          omega
        · rintro k (⟨k1, _⟩ | rfl | hk | (rfl | hk) | ⟨i, hi', hk⟩)
          · omega
          · omega
          · have := (own_lt hL8.row hk).2; omega
          · omega
          · have := hL8.hpv k hk; omega
          · have := (own_lt (hL8.lgs i hi') hk).2; omega
        · have h5 := (HB0.out).trans ((HBR.out).mono h0)
          have h6 := h5.trans ((HB7.out).mono h5.size)
          exact h6.trans ((HB8.out).mono (by omega))
end Go.Proofs.YtmfcbalhabcodaaGreat
