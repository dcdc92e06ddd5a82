/- Joined: the texts that follow, each with its own sentence. -/
import Derived.Test.YtiaopafkfadmkaaGreatZVi
import Derived.Deep.RegionWith
import Derived.Deep.RegionHeld3
import Derived.Deep.RegionHeld
import Derived.Deep.CutBlock
import Derived.Deep.CutRange
set_option linter.unusedVariables false
set_option maxRecDepth 100000
namespace Go.Proofs.YtiaopafkfadmkaaGreat
open Go.RowKit Go.Shelf
theorem row_at {w : World} {b0 n c gb : Nat} {l : List Fd} (h : w.ownsRow b0 77 7 (.slice (some ⟨gb, 0, none⟩) n c) n (flatG l)) (hl : l.length = n) {i : Nat} (hi : i < n) {k : Nat} (hk : k < 7) : w.cell? ⟨gb, i * 7 + k, none⟩ = (encG (nthG l i))[k]? := by
 rw [World.ownsRow.cellAt h _ (by omega), flatG_get l i k (by omega) hk]
set_option maxHeartbeats 4000000 in
theorem kept_any (w : World) (d : Wd) (f : Nat) (h : Ww w d) (hf : f < d.fs.length) :
  Calls Tryz.prog 42 #[wv d, .int .i64 (f : Int)] w fun e w' => ∃ D', e = .returned (wv D') ∧ LikP f D' d ∧ Ww (mask (fun k => decide (k < w.heap.size)) w') D' ∧ Below w.heap.size w w' := by
 have mixed : Tryz.prog.follows .mixedOrders = true := by kernel_rfl
 have HPL : Hid (d.ps.length ≤ 50 ∧ d.fs.length ≤ 20) := ⟨h.pl, h.fl⟩
 have HLTS : Hid (∀ i, i < d.fs.length → LtF (nthF d.fs i)) := fun i hi => h.lt _ (nthF_mem hi)
 have hfl := h.fl
 have hfI : (f : Int) < (d.fs.length : Int) := by omega
 obtain ⟨fb, off, hfa, _, _⟩ := h.f.1 (by intro e; rw [e] at hf; simp at hf)
 obtain ⟨fa, hfa2⟩ : ∃ fa, d.fa = fa := ⟨_, rfl⟩
 have HFA : Hid _ := hfa2
 have HFB : Hid (fa = some ⟨fb, off, none⟩) := by show fa = _; rw [← hfa2]; exact hfa
 obtain ⟨W0, hW0⟩ : ∃ W0, W0 = (w.alloc (.cells #[.slice d.pa d.ps.length d.pc, .slice fa d.fs.length d.fc, .int .i64 d.en] 25)).alloc (.cells #[.slice none 0 0, .slice none 0 0, .int .i64 0] 25) := ⟨_, rfl⟩
 have hb0 : Below w.heap.size w W0 := by rw [hW0]; exact ((Below.refl _ w).alloc (Nat.le_refl _) _).alloc (by simp) _
 have s0 : W0.heap.size = w.heap.size + 1 + 1 := by rw [hW0]; simp
 have hWw := h.below hb0
 have HX : Hid (∀ W, Below W0.heap.size W0 W → W.cell? ⟨w.heap.size, 0, none⟩ = some (.slice d.pa d.ps.length d.pc) ∧ W.cell? ⟨w.heap.size, 1, none⟩ = some (.slice fa d.fs.length d.fc) ∧ W.cell? ⟨w.heap.size, 2, none⟩ = some (.int .i64 d.en) ∧ W.heap[w.heap.size + 1]? = some (.cells #[.slice none 0 0, .slice none 0 0, .int .i64 0] 25 (0, 0)) ∧ Ww W d) := fun W hW => by
  refine ⟨(hW.cell (p := ⟨w.heap.size, 0, none⟩) (by show w.heap.size < _; omega)).trans ?_, (hW.cell (p := ⟨w.heap.size, 1, none⟩) (by show w.heap.size < _; omega)).trans ?_, (hW.cell (p := ⟨w.heap.size, 2, none⟩) (by show w.heap.size < _; omega)).trans ?_, (hW.block (w.heap.size + 1) (by omega)).trans ?_, hWw.below hW⟩
  ·rw [hW0]; go_simp
  ·rw [hW0]; go_simp
  ·rw [hW0]; go_simp
  ·have := World.alloc_heap_new (w.alloc (.cells #[.slice d.pa d.ps.length d.pc, .slice fa d.fs.length d.fc, .int .i64 d.en] 25)) (.cells #[.slice none 0 0, .slice none 0 0, .int .i64 0] 25)
   rw [hW0]
   simpa using this
 have HCL : Hid (∀ W, Below W0.heap.size W0 W → Calls Tryz.prog 97 #[.slice d.pa d.ps.length d.pc] W fun e w' => ∃ a' c', e = .returned (.slice a' d.ps.length c') ∧ w'.ownsRow W.heap.size 3 1 (.slice a' d.ps.length c') d.ps.length (d.ps.map (Value.int .i64)) ∧ Below W.heap.size W w') := fun W hW => cloneInts W d.pa d.pc d.ps (hWw.below hW).p (by have := h.pl; omega)
 have HW0 : Hid _ := hW0
 have HB0 : Hid _ := hb0
 have HF : Hid _ := hf
 dsimp only [wv]
 rw [hfa2]
 clear h hWw hW0 hb0 hfa hfa2 hf
 go_enter Tryz.func42, Tryz.ntmps42
 go_wp2_with fail
 rw [← HW0.out]
 obtain ⟨x0, x1, x2, _, _⟩ := HX.out W0 (Below.refl _ _)
 obtain ⟨B, hB⟩ : ∃ B, w.heap.size = B := ⟨_, rfl⟩
 simp only [hB] at x0 x1 x2 HX s0 ⊢
 have HBE : Hid _ := hB
 clear hB
 have hbz := al W0 (.cells #[.slice none 0 0, .slice none 0 0, .int .i64 0] 25)
 have bz := World.alloc_heap_new W0 (.cells #[.slice none 0 0, .slice none 0 0, .int .i64 0] 25)
 have sz : (W0.alloc (.cells #[.slice none 0 0, .slice none 0 0, .int .i64 0] 25)).heap.size = B + 1 + 1 + 1 := by simp [s0]
 rw [s0] at bz
 have HZ : Hid (∀ W, Below (W0.alloc (.cells #[.slice none 0 0, .slice none 0 0, .int .i64 0] 25)).heap.size (W0.alloc (.cells #[.slice none 0 0, .slice none 0 0, .int .i64 0] 25)) W → Below W0.heap.size W0 W ∧ W.heap[B + 1 + 1]? = some (.cells #[.slice none 0 0, .slice none 0 0, .int .i64 0] 25 (0, 0)) ∧ B + 1 + 1 < W.heap.size) := fun W hW => by
  refine ⟨hbz.trans (hW.mono hbz.size), (hW.block _ (by omega)).trans bz, ?_⟩
  have := hW.size
  omega
 have HBZ : Hid _ := hbz
 have HS0 : Hid _ := s0
 clear hbz bz sz
 have nB2 : B + 1 + 1 ≠ B := by omega
 have nB3 : ¬ B = B + 1 + 1 := by omega
 go_cut [5] from 10 (fun s5 wx => ∃ (XB : Nat) (pa : Option Addr) (pc : Nat), s5 = .pointer (some ⟨XB, 0, none⟩) ∧ KK W0 XB pa pc d wx (.slice none 0 0) [])
 case first =>
  go_region_held3 (fun w' => w'.cell? ⟨B, 0, none⟩ = some (.slice d.pa d.ps.length d.pc) ∧ w'.cell? ⟨B, 2, none⟩ = some (.int .i64 d.en)) (go_keep) (first
   | (go_at_call 97; refine (HCL.out _ ((Below.refl _ W0).drew)).mono ?_; rintro e w1 ⟨pa, pc, rfl, ho1, hb1⟩; have hb1' := ((Below.refl _ W0).drew).trans hb1; obtain ⟨z0, z1, z2, z3, z4⟩ := HX.out w1 hb1'; have HO : Hid _ := ho1; have HB1 : Hid _ := hb1'; have lB : B < w1.heap.size := clt z0; have nB1 : w1.heap.size ≠ B := (by omega); clear ho1 hb1' hb1)
   | (go_at_call 97; refine (HCL.out _ ((HBZ.out).drew)).mono ?_; rintro e w1 ⟨pa, pc, rfl, ho1, hb1⟩; obtain ⟨hb1', bx1, lX⟩ := HZ.out w1 (((Below.refl _ _).drew).trans hb1); obtain ⟨z0, z1, z2, z3, z4⟩ := HX.out w1 hb1'; have HO : Hid _ := ho1; have HB1 : Hid _ := hb1'; have HX1 : Hid _ := bx1; obtain ⟨f1, c1, c2, c3⟩ := box3 bx1; have nB1 : B + 1 + 1 ≠ B := (by omega); clear ho1 hb1' hb1 bx1))
  ·have R : Hid (KK W0 w1.heap.size pa pc d (w1.alloc (.cells (kcs pa pc d (.slice none 0 0)) 25)) (.slice none 0 0) []) := KK.start HB1.out HO.out
   go_wp2_with fail
   go_meet
   exact ⟨_, _, _, rfl, R.out⟩
  ·have R : Hid (KK W0 (B + 1 + 1) pa pc d (((w1.setCell ⟨B + 1 + 1, 0, none⟩ (.slice pa d.ps.length pc)).setCell ⟨B + 1 + 1, 1, none⟩ (.slice none 0 0)).setCell ⟨B + 1 + 1, 2, none⟩ (.int .i64 d.en)) (.slice none 0 0) []) := KK.begin3 HB1.out (by rw [HS0.out]; exact Nat.le_refl _) (by show B + 1 + 1 < (W0.alloc _).heap.size; simp [HS0.out]) HX1.out HO.out
   go_wp2_with fail
   go_meet
   exact ⟨_, _, _, rfl, R.out⟩
 case rest =>
  obtain ⟨XB, pa, pc, rfl, hKK⟩ := hcut
  obtain ⟨y0, y1, y2, _, _⟩ := HX.out wc hKK.bel
  have HKK : Hid _ := hKK
  clear x0 x1 x2 HW0 HZ HBZ hKK HCL
  go_wp2_with fail
  go_loopw [19] (fun s19 wr => ∃ (k : Nat) (v : Value) (l : List Fd), k ≤ d.fs.length ∧ s19 = .int .i64 k ∧ l.length = k ∧ KK W0 XB pa pc d wr v l) (fun s19 _ => d.fs.length - (intOf s19).toNat)
  case atStart => exact ⟨0, _, [], Nat.zero_le _, rfl, rfl, HKK.out⟩
  case round =>
   clear y0 y1 y2 HKK
   obtain ⟨k, v, l, hk, rfl, hlk, hKK⟩ := hrel
   obtain ⟨WR, hWR⟩ : ∃ WR, WR = wr := ⟨_, rfl⟩
   subst hWR
   obtain ⟨_, x1, _, q1, hWw⟩ := HX.out WR hKK.bel
   by_cases hkl : k < d.fs.length
   ·clear x1 q1
    have hk' : (k : Int) < (d.fs.length : Int) := by omega
    obtain ⟨g, hg⟩ : ∃ g, nthF d.fs k = g := ⟨_, rfl⟩
    have hc := hWw.f.cells hkl hg
    have hok := hWw.f.at hkl hg
    have hlt : LtF g := hWw.lt g (hg ▸ nthF_mem hkl)
    rw [HFA.out] at hc
    obtain ⟨b, off', rfl, hbb, z0, z1, z2, z3, z4, z5, z6⟩ := hc
    have HG : Hid _ := hg
    have HK : Hid _ := hKK
    have HLK : Hid _ := hlk
    obtain ⟨W6, hW6⟩ : ∃ W6, W6 = WR.alloc (.cells #[.int .i64 g.kd, .int .i64 g.lk, .int .i64 g.st, .slice g.ra g.rs.length g.rc, .slice g.pa g.ps.length g.pc, .slice g.sa g.ss.length g.sc, .slice g.ia g.is.length g.ic] 77) := ⟨_, rfl⟩
    have hb6 : Below WR.heap.size WR W6 := by rw [hW6]; exact al _ _
    have bx6 : W6.heap[WR.heap.size]? = some (.cells #[.int .i64 g.kd, .int .i64 g.lk, .int .i64 g.st, .slice g.ra g.rs.length g.rc, .slice g.pa g.ps.length g.pc, .slice g.sa g.ss.length g.sc, .slice g.ia g.is.length g.ic] 77 (0, 0)) := by rw [hW6]; exact World.alloc_heap_new WR _
    have ly1 := hKK.cells.2.1
    have lX := hKK.lt
    obtain ⟨FB, hFB⟩ : ∃ FB, WR.heap.size = FB := ⟨_, rfl⟩
    have HFB2 : Hid _ := hFB
    have HW6 : Hid _ := hW6
    have hok6 := hok.below hb6
    rw [hFB] at bx6
    have hvl : Hid (∀ k, v.ownBlock = some k → k < FB) := fun k e => by rw [← hFB]; exact (own_lt hKK.row e).1
    have C2 := cloneInts W6.drew g.sa g.sc g.ss (hok6.below ((Below.refl _ W6).drew)).s (by have := hlt.s; omega)
    have HST : Hid (∀ w8 (sa' : Option Addr) (sc' : Nat), Below W6.heap.size W6 w8 → w8.ownsRow W6.heap.size 3 1 (.slice sa' g.ss.length sc') g.ss.length (g.ss.map (Value.int .i64)) →
      (w8.cell? ⟨XB, 1, none⟩ = some v ∧ w8.cell? ⟨FB, 0, none⟩ = some (.int .i64 g.kd) ∧ w8.cell? ⟨FB, 1, none⟩ = some (.int .i64 g.lk) ∧ w8.cell? ⟨FB, 5, none⟩ = some (.slice g.sa g.ss.length g.sc)) ∧ XB < w8.heap.size ∧ FB < w8.heap.size ∧
      ∃ a' c' w', (Builtin.append_ #[23, 23] 23 #[v, .slice (some ⟨w8.heap.size, 0, none⟩) 1 1]).run Tryz.prog (w8.alloc (.cells #[.int .i64 g.kd, .int .i64 g.lk, .int .i64 0, .slice none 0 0, .slice none 0 0, .slice sa' g.ss.length sc', .slice none 0 0] 77)) = .ok (.slice a' (k + 1) c') w' ∧ w'.frozen? ⟨XB, 1, none⟩ = false ∧
      (w'.cell? ⟨XB, 1, none⟩ = some v ∧ w'.cell? ⟨FB, 0, none⟩ = some (.int .i64 g.kd) ∧ w'.cell? ⟨FB, 1, none⟩ = some (.int .i64 g.lk) ∧ w'.cell? ⟨FB, 5, none⟩ = some (.slice g.sa g.ss.length g.sc)) ∧ XB < w'.heap.size ∧ FB < w'.heap.size ∧
      KK W0 XB pa pc d (w'.setCell ⟨XB, 1, none⟩ (.slice a' (k + 1) c')) (.slice a' (k + 1) c') (l ++ [smF g sa' sc'])) := fun w8 sa' sc' h8 o8 => by
     have lF6 : FB < W6.heap.size := (Array.getElem?_eq_some_iff.1 bx6).1
     have lF8 : FB < w8.heap.size := Nat.lt_of_lt_of_le lF6 h8.size
     have bx8 := (h8.block FB lF6).trans bx6
     have hb8 := hb6.trans (h8.mono hb6.size)
     have hbA := al w8 (.cells (fcs (smF g sa' sc')) 77)
     have hbW := hb8.trans (hbA.mono hb8.size)
     have lX8 : XB < w8.heap.size := Nat.lt_of_lt_of_le lX hb8.size
     have hll : l.length ≤ 1000 := by omega
     have hoks : okF (mask (fun k => decide (k < WR.heap.size)) (w8.alloc (.cells (fcs (smF g sa' sc')) 77))) (smF g sa' sc') := by
      refine ⟨⟨fun g => absurd rfl g, fun r hr => by cases hr⟩, fun g => absurd rfl g, ?_, fun g => absurd rfl g⟩
      refine rdI_mask (b0 := W6.heap.size) (b1 := 0) (own_below o8 hbA) (fun k hk => ?_)
      have h1 := (own_lt o8 hk).2
      have h2 := hb6.size
      simp; omega
     obtain ⟨a', c', w', hrun, hfz, hcl, hsz, hblk, hKK2⟩ := KK.step hKK hbW (smF g sa' sc') w8.heap.size (rdG_new w8 _) hoks ⟨sa', sc', by rw [hlk, hg]⟩ hll 23 _ rfl
     have hXl : (l ++ [smF g sa' sc']).length = k + 1 := by simp [hlk]
     rw [hXl] at hrun hKK2
     have hFv : v.ownBlock ≠ some FB := fun e => by have := hvl.out FB e; omega
     have hs8 : w8.heap.size ≤ (w8.alloc (.cells (fcs (smF g sa' sc')) 77)).heap.size := hbA.size
     have bx' := (hblk FB (by omega) hFv).trans ((hbA.block FB lF8).trans bx8)
     refine ⟨⟨(hb8.cell (p := ⟨XB, 1, none⟩) lX).trans ly1, cellN bx8 0, cellN bx8 1, cellN bx8 5⟩, lX8, lF8, a', c', w', hrun, hfz, ⟨hcl, cellN bx' 0, cellN bx' 1, cellN bx' 5⟩, by omega, by omega, hKK2⟩
    have lF6 : FB < W6.heap.size := (Array.getElem?_eq_some_iff.1 bx6).1
    have t0 : W6.cell? ⟨FB, 0, none⟩ = some (.int .i64 g.kd) := cellN bx6 0
    have t1 : W6.cell? ⟨FB, 1, none⟩ = some (.int .i64 g.lk) := cellN bx6 1
    have t5 : W6.cell? ⟨FB, 5, none⟩ = some (.slice g.sa g.ss.length g.sc) := cellN bx6 5
    have y1 : W6.cell? ⟨XB, 1, none⟩ = some v := (hb6.cell (p := ⟨XB, 1, none⟩) lX).trans ly1
    have nXF : ¬ XB = FB := by omega
    have nXF2 : ¬ FB = XB := by omega
    clear hg hKK hlk hok hok6 hWw hb6 bx6 hW6 hlt ly1 hvl
    go_wp2_with fail
    rw [← HW6.out]
    refine wp_region_held_drew (S := fun w' => w'.cell? ⟨FB, 0, none⟩ = some (.int .i64 g.kd) ∧ w'.cell? ⟨FB, 1, none⟩ = some (.int .i64 g.lk) ∧ w'.cell? ⟨FB, 5, none⟩ = some (.slice g.sa g.ss.length g.sc)) (by kernel_rfl) ⟨t0, t1, t5⟩ (fun hHeld => ?_)
    refine wpAnyH_take (i := 0) rfl (by kernel_rfl) (by kernel_rfl) (by kernel_rfl) (fun _ _ _ h => h) (Or.inl ⟨by rfl, fun w hSw => by (dsimp only at hSw; go_simp; first | done | with_reducible rfl)⟩) hHeld ?_
    go_frame
    refine wpAnyH_take (i := 2) rfl (by kernel_rfl) (by kernel_rfl) (by kernel_rfl) (fun _ _ _ h => h) (Or.inl ⟨by rfl, fun w hSw => by (dsimp only at hSw; go_simp; first | done | with_reducible rfl)⟩) hHeld ?_
    go_frame
    refine wpAnyH_take (i := 3) rfl (by kernel_rfl) (by kernel_rfl) (by kernel_rfl) (fun _ _ _ h => h) (Or.inl ⟨by rfl, fun w hSw => by (dsimp only at hSw; go_simp; first | done | with_reducible rfl)⟩) hHeld ?_
    go_frame
    refine wpAnyH_take (i := 4) rfl (by kernel_rfl) (by kernel_rfl) (by kernel_rfl) (fun _ _ _ h => h) (Or.inl ⟨by rfl, fun w hSw => by (dsimp only at hSw; go_simp; first | done | with_reducible rfl)⟩) hHeld ?_
    go_frame
    refine wpAnyH_take (i := 5) rfl (by kernel_rfl) (by kernel_rfl) (by kernel_rfl) (fun _ _ _ h => h) (Or.inl ⟨by rfl, fun w hSw => by (dsimp only at hSw; go_simp; first | done | with_reducible rfl)⟩) hHeld ?_
    go_frame
    refine wpAnyH_take (i := 6) rfl (by kernel_rfl) (by kernel_rfl) (by kernel_rfl) (fun _ _ _ h => h) (Or.inl ⟨by rfl, fun w hSw => by (dsimp only at hSw; go_simp; first | done | with_reducible rfl)⟩) hHeld ?_
    go_frame
    refine wpAnyH_take (i := 7) rfl (by kernel_rfl) (by kernel_rfl) (by kernel_rfl) (fun _ _ _ h => h) (Or.inl ⟨by rfl, fun w hSw => by (dsimp only at hSw; go_simp; first | done | with_reducible rfl)⟩) hHeld ?_
    go_frame
    refine wpAnyH_ready (rs := [1, 8]) (by kernel_rfl) (by simp) (AllReadyH.cons rfl (fun K hK => ?_) (AllReadyH.cons rfl (fun K hK => ?_) AllReadyH.nil))
    ·go_simp
     refine hK.out _ _ hHeld (fun _ => ?_)
     clear hK K
     try go_frame
     refine wpAnyH_ready (rs := [8]) (by kernel_rfl) (by simp) (AllReadyH.cons rfl (fun K hK => ?_) AllReadyH.nil)
     go_simp
     refine C2.mono ?_; rintro e w8 ⟨sa', sc', rfl, o8, hb8⟩; obtain ⟨⟨k0, k1, k2, k3⟩, lX8, lF8, a', c', w13, hrun, hfz, hS, lX13, lF13, hKK2⟩ := HST.out w8 sa' sc' (((Below.refl _ W6).drew).trans hb8) o8; have HRUN : Hid _ := hrun; have HKK2 : Hid _ := hKK2; obtain ⟨m0, m1, m2, m3⟩ := hS; clear o8 hb8 hrun hKK2
     go_wp2_with fail
     refine hK.out _ _ ⟨k1, k2, k3⟩ (fun hHeld8 => ?_)
     clear hK K
     try go_frame
     refine wpAnyH_take (i := 9) rfl (by kernel_rfl) (by kernel_rfl) (by kernel_rfl) (fun _ _ _ h => h) (Or.inl ⟨by rfl, fun w hSw => by (dsimp only at hSw; go_simp; first | done | with_reducible rfl)⟩) hHeld8 ?_
     go_frame
     refine wpAnyH_ready (rs := [10]) (by kernel_rfl) (by simp) (AllReadyH.cons rfl (fun K hK => ?_) AllReadyH.nil)
     go_simp
     refine hK.out _ _ (by (try dsimp only); go_keep) (fun hHeld10 => ?_)
     clear hK K
     try go_frame
     refine wpAnyH_ready (rs := [11]) (by kernel_rfl) (by simp) (AllReadyH.cons rfl (fun K hK => ?_) AllReadyH.nil)
     refine step_append_run rfl (.tmp 24) (.tmp 33) 23 rfl (by simp [Act.eval]) (by simp [Act.eval]) HRUN.out ?_
     refine hK.out _ _ ⟨m1, m2, m3⟩ (fun hHeld11 => ?_)
     clear hK K
     try go_frame
     refine wpAnyH_take (i := 12) rfl (by kernel_rfl) (by kernel_rfl) (by kernel_rfl) (fun _ _ _ h => h) (Or.inl ⟨by rfl, fun w hSw => by (dsimp only at hSw; go_simp; first | done | with_reducible rfl)⟩) hHeld11 ?_
     go_frame
     refine wpAnyH_ready (rs := [13]) (by kernel_rfl) (by simp) (AllReadyH.cons rfl (fun K hK => ?_) AllReadyH.nil)
     go_simp
     refine hK.out _ _ (by (try dsimp only); go_keep) (fun hHeld13 => ?_)
     clear hK K
     refine wpAnyH_done (by kernel_rfl) ?_ _
     go_wp2_with fail
     go_roundw
     case measure => simp [intOf]; omega
     case rel => exact ⟨k + 1, _, l ++ [smF g sa' sc'], by omega, by go_num, by simp [HLK.out], HKK2.out⟩
    ·go_simp
     refine C2.mono ?_; rintro e w8 ⟨sa', sc', rfl, o8, hb8⟩; obtain ⟨⟨k0, k1, k2, k3⟩, lX8, lF8, a', c', w13, hrun, hfz, hS, lX13, lF13, hKK2⟩ := HST.out w8 sa' sc' (((Below.refl _ W6).drew).trans hb8) o8; have HRUN : Hid _ := hrun; have HKK2 : Hid _ := hKK2; obtain ⟨m0, m1, m2, m3⟩ := hS; clear o8 hb8 hrun hKK2
     go_wp2_with fail
     refine hK.out _ _ ⟨k1, k2, k3⟩ (fun hHeld8 => ?_)
     clear hK K
     try go_frame
     refine wpAnyH_take (i := 9) rfl (by kernel_rfl) (by kernel_rfl) (by kernel_rfl) (fun _ _ _ h => h) (Or.inl ⟨by rfl, fun w hSw => by (dsimp only at hSw; go_simp; first | done | with_reducible rfl)⟩) hHeld8 ?_
     go_frame
     refine wpAnyH_ready (rs := [1, 10]) (by kernel_rfl) (by simp) (AllReadyH.cons rfl (fun K hK => ?_) (AllReadyH.cons rfl (fun K hK => ?_) AllReadyH.nil))
     ·go_simp
      refine hK.out _ _ hHeld8 (fun _ => ?_)
      clear hK K
      try go_frame
      refine wpAnyH_ready (rs := [10]) (by kernel_rfl) (by simp) (AllReadyH.cons rfl (fun K hK => ?_) AllReadyH.nil)
      go_simp
      refine hK.out _ _ (by (try dsimp only); go_keep) (fun hHeld10 => ?_)
      clear hK K
      try go_frame
      refine wpAnyH_ready (rs := [11]) (by kernel_rfl) (by simp) (AllReadyH.cons rfl (fun K hK => ?_) AllReadyH.nil)
      refine step_append_run rfl (.tmp 24) (.tmp 33) 23 rfl (by simp [Act.eval]) (by simp [Act.eval]) HRUN.out ?_
      refine hK.out _ _ ⟨m1, m2, m3⟩ (fun hHeld11 => ?_)
      clear hK K
      try go_frame
      refine wpAnyH_take (i := 12) rfl (by kernel_rfl) (by kernel_rfl) (by kernel_rfl) (fun _ _ _ h => h) (Or.inl ⟨by rfl, fun w hSw => by (dsimp only at hSw; go_simp; first | done | with_reducible rfl)⟩) hHeld11 ?_
      go_frame
      refine wpAnyH_ready (rs := [13]) (by kernel_rfl) (by simp) (AllReadyH.cons rfl (fun K hK => ?_) AllReadyH.nil)
      go_simp
      refine hK.out _ _ (by (try dsimp only); go_keep) (fun hHeld13 => ?_)
      clear hK K
      refine wpAnyH_done (by kernel_rfl) ?_ _
      go_wp2_with fail
      go_roundw
      case measure => simp [intOf]; omega
      case rel => exact ⟨k + 1, _, l ++ [smF g sa' sc'], by omega, by go_num, by simp [HLK.out], HKK2.out⟩
     ·go_simp
      refine hK.out _ _ (by (try dsimp only); go_keep) (fun hHeld10 => ?_)
      clear hK K
      try go_frame
      refine wpAnyH_ready (rs := [1]) (by kernel_rfl) (by simp) (AllReadyH.cons rfl (fun K hK => ?_) AllReadyH.nil)
      go_simp
      refine hK.out _ _ hHeld10 (fun _ => ?_)
      clear hK K
      try go_frame
      refine wpAnyH_ready (rs := [11]) (by kernel_rfl) (by simp) (AllReadyH.cons rfl (fun K hK => ?_) AllReadyH.nil)
      refine step_append_run rfl (.tmp 24) (.tmp 33) 23 rfl (by simp [Act.eval]) (by simp [Act.eval]) HRUN.out ?_
      refine hK.out _ _ ⟨m1, m2, m3⟩ (fun hHeld11 => ?_)
      clear hK K
      try go_frame
      refine wpAnyH_take (i := 12) rfl (by kernel_rfl) (by kernel_rfl) (by kernel_rfl) (fun _ _ _ h => h) (Or.inl ⟨by rfl, fun w hSw => by (dsimp only at hSw; go_simp; first | done | with_reducible rfl)⟩) hHeld11 ?_
      go_frame
      refine wpAnyH_ready (rs := [13]) (by kernel_rfl) (by simp) (AllReadyH.cons rfl (fun K hK => ?_) AllReadyH.nil)
      go_simp
      refine hK.out _ _ (by (try dsimp only); go_keep) (fun hHeld13 => ?_)
      clear hK K
      refine wpAnyH_done (by kernel_rfl) ?_ _
      go_wp2_with fail
      go_roundw
      case measure => simp [intOf]; omega
      case rel => exact ⟨k + 1, _, l ++ [smF g sa' sc'], by omega, by go_num, by simp [HLK.out], HKK2.out⟩
   ·obtain rfl : k = d.fs.length := by omega
    obtain ⟨va, vc, hv⟩ := shape_of hKK.row
    rw [hlk] at hv
    subst hv
    have hrow := hKK.row
    rw [hlk] at hrow
    obtain ⟨gb, rfl⟩ := own_some hrow (by have := HF.out; omega)
    obtain ⟨g, hg⟩ : ∃ g, nthF d.fs f = g := ⟨_, rfl⟩
    obtain ⟨sa, sc, hsm⟩ : LikS (nthF l f) (nthF d.fs f) := hKK.lk f (by rw [hlk]; exact HF.out)
    rw [hg] at hsm
    have HY : Hid (∀ W, Below W0.heap.size W0 W → W.cell? ⟨B, 1, none⟩ = some (.slice (some ⟨fb, off, none⟩) d.fs.length d.fc) ∧ W.cell? ⟨fb, off + f * 7 + 3, none⟩ = some (.slice g.ra g.rs.length g.rc) ∧ W.cell? ⟨fb, off + f * 7 + 4, none⟩ = some (.slice g.pa g.ps.length g.pc) ∧ okF W g ∧ fb < W.heap.size) := fun W hW => by
     obtain ⟨_, r1, _, _, hWw2⟩ := HX.out W hW
     have hc := hWw2.f.cells HF.out hg
     have hok := hWw2.f.at HF.out hg
     rw [HFA.out] at hc
     rw [HFB.out] at hc r1
     obtain ⟨b, off', e1, hbb, z0, z1, z2, z3, z4, z5, z6⟩ := hc
     cases e1
     exact ⟨r1, z3, z4, hok, hbb⟩
    have HHI : Hid (fb < w.heap.size) := by
     show fb < w.heap.size
     assumption
    have hgl := own_lt hrow (g := gb) rfl
    have hgX : gb ≠ XB := fun e => hKK.nv (by rw [e]; rfl)
    have lX := hKK.lt
    have e0 := HS0.out
    have e4 := HBE.out
    have hhi := HHI.out
    have n1 : ¬ gb = XB := hgX
    have n2 : ¬ XB = gb := fun e => hgX e.symm
    have n3 : ¬ gb = B := by omega
    have n4 : ¬ B = gb := by omega
    have n5 : ¬ gb = fb := by omega
    have n6 : ¬ fb = gb := by omega
    have HK2 : Hid (∀ w9 (ba : Option Addr) (bc : Nat), Below WR.heap.size WR w9 → w9.ownsRow WR.heap.size 3 1 (.slice ba g.ps.length bc) g.ps.length (g.ps.map (Value.int .i64)) →
      (w9.cell? ⟨XB, 1, none⟩ = some (.slice (some ⟨gb, 0, none⟩) d.fs.length vc) ∧ w9.cell? ⟨B, 1, none⟩ = some (.slice (some ⟨fb, off, none⟩) d.fs.length d.fc) ∧ w9.cell? ⟨fb, off + f * 7 + 4, none⟩ = some (.slice g.pa g.ps.length g.pc)) ∧ (w9.cell? ⟨gb, f * 7 + 4, none⟩ = some (.slice none 0 0) ∧ w9.frozen? ⟨gb, f * 7 + 4, none⟩ = false ∧ gb < w9.heap.size) ∧
      K2 W0 XB gb vc pa pc d f l g sa sc ba bc (w9.setCell ⟨gb, f * 7 + 4, none⟩ (.slice ba g.ps.length bc)) none 0 []) := fun w9 ba bc h9 o9 => by
     obtain ⟨r1, r3, r4, _, _⟩ := HY.out w9 (hKK.bel.trans (h9.mono hKK.bel.size))
     have hrow9 := own_below hrow h9
     refine ⟨⟨(hKK.below h9).cells.2.1, r1, r4⟩, ⟨?_, World.ownsRow.frozenAt hrow9 _, Nat.lt_of_lt_of_le hgl.1 h9.size⟩, K2.start hKK hlk HF.out hsm h9 o9⟩
     rw [row_at hrow9 hlk HF.out (by omega), show nthG l f = smF g sa sc from hsm]
     rfl
    obtain ⟨r1, r3, r4, hokW, lfb⟩ := HY.out WR hKK.bel
    have y1 := hKK.cells.2.1
    have C4 := cloneInts WR.drew g.pa g.pc g.ps (hokW.below ((Below.refl _ WR).drew)).p (by have := HLTS.out f HF.out; rw [hg] at this; have := this.p; omega)
    have HKKl : Hid (∀ i, i < l.length → LikS (nthF l i) (nthF d.fs i)) := hKK.lk
    have HLK : Hid _ := hlk
    have HG : Hid _ := hg
    have HSM : Hid _ := hsm
    have hrl : g.rs.length ≤ 60 := by have := HLTS.out f HF.out; rw [hg] at this; exact this.r.1
    have HRL : Hid (∀ r ∈ g.rs, r.os.length ≤ 20) := by have := HLTS.out f HF.out; rw [hg] at this; exact this.r.2
    clear hKK hrow hsm hg hlk hokW x1 q1 hWw hgl hgX e0 e4 hhi hk lX
    go_wp2_with fail
    go_region_held3 (fun w' => w'.cell? ⟨XB, 1, none⟩ = some (.slice (some ⟨gb, 0, none⟩) d.fs.length vc) ∧ w'.cell? ⟨B, 1, none⟩ = some (.slice (some ⟨fb, off, none⟩) d.fs.length d.fc) ∧ w'.cell? ⟨fb, off + f * 7 + 4, none⟩ = some (.slice g.pa g.ps.length g.pc)) (first | (go_keep; done) | exact Hid.out KEEP) (first
     | (go_at_call 97; refine C4.mono ?_; rintro e w9 ⟨ba, bc, rfl, o9, hb9⟩; obtain ⟨⟨k0, k1, k2⟩, ⟨s0', s1', s2'⟩, hK2⟩ := HK2.out w9 ba bc (((Below.refl _ WR).drew).trans hb9) o9; have KEEP : Hid _ := And.intro k0 (And.intro k1 k2); have HKK3 : Hid _ := hK2; clear o9 hb9 hK2))
    obtain ⟨W9, hW9⟩ : ∃ W9, W9 = w9.setCell ⟨gb, f * 7 + 4, none⟩ (.slice ba g.ps.length bc) := ⟨_, rfl⟩
    rw [← hW9] at HKK3 ⊢
    obtain ⟨ra, hra⟩ : ∃ ra, g.ra = ra := ⟨_, rfl⟩
    obtain ⟨p1, p3, p4, _, _⟩ := HY.out W9 HKK3.out.bel
    rw [hra] at p3
    have HRA : Hid _ := hra
    clear hW9 KEEP k0 k1 k2 s0' s1' s2' r1 r3 r4 y1 HK2 C4 hra
    go_wp2_with fail
    go_loopw [56] (fun s56 wr => ∃ (j : Nat) (a : Option Addr) (c : Nat) (q : List Rl), j ≤ g.rs.length ∧ s56 = .int .i64 j ∧ q.length = j ∧ Hid (∀ i, i < j → LikR (nthR q i) (nthR g.rs i)) ∧ K2 W0 XB gb vc pa pc d f l g sa sc ba bc wr a c q) (fun s56 _ => g.rs.length - (intOf s56).toNat)
    case atStart => exact ⟨0, none, 0, [], Nat.zero_le _, rfl, rfl, fun i hi => absurd hi (Nat.not_lt_zero _), HKK3.out⟩
    case round =>
     clear HKK3 p1 p3 p4
     obtain ⟨j, a, c, q, hj, rfl, hql, HLR, hK⟩ := hrel
     obtain ⟨WQ, hWQ⟩ : ∃ WQ, WQ = wr := ⟨_, rfl⟩
     subst hWQ
     obtain ⟨p1, p3, p4, hokQ, lfq⟩ := HY.out WQ hK.bel
     by_cases hjl : j < g.rs.length
     ·clear p1 p3 p4
      have hj' : (j : Int) < (g.rs.length : Int) := by omega
      obtain ⟨r, hr⟩ : ∃ r, nthR g.rs j = r := ⟨_, rfl⟩
      have hcr := hokQ.r.cells hjl hr
      have hro : RdO WQ r.sa r.os := (hokQ.r.2 r (hr ▸ nthR_mem hjl)).2.2
      rw [HRA.out] at hcr
      obtain ⟨rb, roff, rfl, lrb, z0, z1, z2, z3⟩ := hcr
      have hrl2 : r.os.length ≤ 20 := HRL.out r (hr ▸ nthR_mem hjl)
      obtain ⟨W10, hW10⟩ : ∃ W10, W10 = WQ.alloc (.cells #[.int .i64 r.st, .int .i64 r.cl, .int .i64 r.nx, .slice r.sa r.os.length r.sc] 86) := ⟨_, rfl⟩
      have hb10 : Below WQ.heap.size WQ W10 := by rw [hW10]; exact al _ _
      have bx10 : W10.heap[WQ.heap.size]? = some (.cells #[.int .i64 r.st, .int .i64 r.cl, .int .i64 r.nx, .slice r.sa r.os.length r.sc] 86 (0, 0)) := by rw [hW10]; exact World.alloc_heap_new WQ _
      obtain ⟨RB, hRB⟩ : ∃ RB, WQ.heap.size = RB := ⟨_, rfl⟩
      rw [hRB] at bx10
      have s10 : RB < W10.heap.size := (Array.getElem?_eq_some_iff.1 bx10).1
      have e3 : W10.cell? ⟨RB, 3, none⟩ = some (.slice r.sa r.os.length r.sc) := cellN bx10 3
      have KC := clone_any W10 r.sa r.sc r.os (hro.below hb10) (by omega)
      obtain ⟨lX, lG, lo⟩ := hK.lt
      have HST : Hid (∀ w11 (a1 : Option Addr) (c1 : Nat), RowO W10 w11 (.slice a1 r.os.length c1) r.os →
        (w11.cell? ⟨RB, 3, none⟩ = some (.slice r.sa r.os.length r.sc) ∧ w11.frozen? ⟨RB, 3, none⟩ = false ∧ RB < w11.heap.size) ∧ ∃ W12, W12 = w11.setCell ⟨RB, 3, none⟩ (.slice a1 r.os.length c1) ∧
        (W12.cell? ⟨XB, 1, none⟩ = some (.slice (some ⟨gb, 0, none⟩) d.fs.length vc) ∧ W12.cell? ⟨RB, 0, none⟩ = some (.int .i64 r.st) ∧ W12.cell? ⟨RB, 1, none⟩ = some (.int .i64 r.cl) ∧ W12.cell? ⟨RB, 2, none⟩ = some (.int .i64 r.nx) ∧ W12.cell? ⟨RB, 3, none⟩ = some (.slice a1 r.os.length c1)) ∧ W12.cell? ⟨gb, f * 7 + 3, none⟩ = some (.slice a j c) ∧ XB < W12.heap.size ∧ RB < W12.heap.size ∧ gb < W12.heap.size ∧
        ∃ a' c' w', (Builtin.append_ #[75, 75] 75 #[.slice a j c, .slice (some ⟨W12.heap.size, 0, none⟩) 1 1]).run Tryz.prog (W12.alloc (.cells #[.int .i64 r.st, .int .i64 r.cl, .int .i64 r.nx, .slice a1 r.os.length c1] 86)).drew = .ok (.slice a' (j + 1) c') w' ∧
        (w'.cell? ⟨XB, 1, none⟩ = some (.slice (some ⟨gb, 0, none⟩) d.fs.length vc) ∧ w'.cell? ⟨RB, 0, none⟩ = some (.int .i64 r.st) ∧ w'.cell? ⟨RB, 1, none⟩ = some (.int .i64 r.cl) ∧ w'.cell? ⟨RB, 2, none⟩ = some (.int .i64 r.nx) ∧ w'.cell? ⟨RB, 3, none⟩ = some (.slice a1 r.os.length c1)) ∧ w'.cell? ⟨gb, f * 7 + 3, none⟩ = some (.slice a j c) ∧ w'.frozen? ⟨gb, f * 7 + 3, none⟩ = false ∧ XB < w'.heap.size ∧ RB < w'.heap.size ∧ gb < w'.heap.size ∧
        Hid (∀ i, i < j + 1 → LikR (nthR (q ++ [⟨r.st, r.cl, r.nx, a1, c1, r.os⟩]) i) (nthR g.rs i)) ∧
        K2 W0 XB gb vc pa pc d f l g sa sc ba bc (w'.setCell ⟨gb, f * 7 + 3, none⟩ (.slice a' (j + 1) c')) a' c' (q ++ [⟨r.st, r.cl, r.nx, a1, c1, r.os⟩])) := fun w11 a1 c1 hR => by
       have bx11 := (hR.2.block RB s10).trans bx10
       have l11 : RB < w11.heap.size := Nat.lt_of_lt_of_le s10 hR.2.size
       have hb11 := hb10.trans (hR.2.mono hb10.size)
       have hb12 : Below WQ.heap.size WQ (w11.setCell ⟨RB, 3, none⟩ (.slice a1 r.os.length c1)) := hb11.setCell (p := ⟨RB, 3, none⟩) (Nat.le_of_eq hRB) _
       have bx12 : (w11.setCell ⟨RB, 3, none⟩ (.slice a1 r.os.length c1)).heap[RB]? = some (.cells #[.int .i64 r.st, .int .i64 r.cl, .int .i64 r.nx, .slice a1 r.os.length c1] 86 (0, 0)) := by
        rw [heap_setCell_same w11 RB 3 _ _ _ bx11]; rfl
       refine ⟨⟨cellN bx11 3, by simp [World.frozen?, bx11], l11⟩, _, rfl, ?_⟩
       obtain ⟨W12, hW12⟩ : ∃ W12, W12 = w11.setCell ⟨RB, 3, none⟩ (.slice a1 r.os.length c1) := ⟨_, rfl⟩
       rw [← hW12] at hb12 bx12 ⊢
       have hs12 : w11.heap.size = W12.heap.size := by rw [hW12]; simp
       have hbA := (al W12 (.cells #[.int .i64 r.st, .int .i64 r.cl, .int .i64 r.nx, .slice a1 r.os.length c1] 86)).drew
       have hbW := hb12.trans (hbA.mono hb12.size)
       have hrd : RdO (mask (fun k => decide (k < WQ.heap.size)) (W12.alloc (.cells #[.int .i64 r.st, .int .i64 r.cl, .int .i64 r.nx, .slice a1 r.os.length c1] 86)).drew) a1 r.os := by
        have o12 : W12.ownsRow W10.heap.size 147 3 (.slice a1 r.os.length c1) r.os.length (flatO r.os) := by
         rw [hW12]
         exact own_keep hR.1 (frN w11 RB 3 _) (fun k hk e => by have := (own_lt hR.1 hk).2; omega)
        have o13 := own_below o12 hbA
        refine RdO.mask (own_rdO o13) (fun k off e => ?_)
        subst e
        rcases o13.2 with ⟨e, _⟩ | ⟨g', cap, cur, e, hb, _⟩
        ·simp at e
        ·simp at e
         obtain ⟨⟨rfl, rfl⟩, rfl⟩ := e
         have := hb10.size
         simp
         omega
       have hxn : (W12.alloc (.cells #[.int .i64 r.st, .int .i64 r.cl, .int .i64 r.nx, .slice a1 r.os.length c1] 86)).drew.heap[W12.heap.size]? = some (.cells #[.int .i64 r.st, .int .i64 r.cl, .int .i64 r.nx, .slice a1 r.os.length c1] 86 (0, 0)) := World.alloc_heap_new W12 _
       have hq1000 : q.length ≤ 1000 := by omega
       obtain ⟨a', c', w', hrun, c1x, c1g, c1f, hsz, hblk, hK2⟩ := K2.step hK HLK.out HF.out hbW ⟨r.st, r.cl, r.nx, a1, c1, r.os⟩ W12.heap.size hxn hrd hq1000 75 _ rfl
       have hXl : (q ++ [(⟨r.st, r.cl, r.nx, a1, c1, r.os⟩ : Rl)]).length = j + 1 := by simp [hql]
       rw [hXl, hql] at hrun
       rw [hXl] at hK2
       rw [hql] at c1g
       have hnR : (Value.slice a q.length c).ownBlock ≠ some RB := fun e => by have := (own_lt hK.rr e).1; omega
       have hs13 : W12.heap.size ≤ (W12.alloc (.cells #[.int .i64 r.st, .int .i64 r.cl, .int .i64 r.nx, .slice a1 r.os.length c1] 86)).drew.heap.size := hbA.size
       have bx13 := (hblk RB (by omega) hnR).trans ((hbA.block RB (by omega)).trans bx12)
       have hK12 := hK.below hb12
       have hrow12 := hK12.row
       have hg12 : W12.cell? ⟨gb, f * 7 + 3, none⟩ = some (.slice a j c) := by
        rw [row_at hrow12 (by rw [List.length_set]; exact HLK.out) HF.out (by omega), show nthG (l.set f (fkF g sa sc ba bc a c q)) f = fkF g sa sc ba bc a c q by (show nthF _ f = _; rw [nthF_set _ _ _ _ (by rw [HLK.out]; exact HF.out), if_pos rfl]), ← hql]
        rfl
       refine ⟨⟨cellN hK12.bx 1, cellN bx12 0, cellN bx12 1, cellN bx12 2, cellN bx12 3⟩, hg12, hK12.lt.1, by omega, hK12.lt.2.1, a', c', w', hrun, ⟨c1x, cellN bx13 0, cellN bx13 1, cellN bx13 2, cellN bx13 3⟩, c1g, c1f, by omega, by omega, by omega, fun i hi => ?_, hK2⟩
       by_cases e : i < j
       ·have := HLR.out i e
        unfold nthR at this ⊢
        rw [List.getD_eq_getElem?_getD] at this ⊢
        rw [List.getElem?_append_left (by omega)]
        exact this
       ·have e2 : i = q.length := by omega
        subst e2
        have : nthR (q ++ [(⟨r.st, r.cl, r.nx, a1, c1, r.os⟩ : Rl)]) q.length = ⟨r.st, r.cl, r.nx, a1, c1, r.os⟩ := by unfold nthR; simp
        rw [this, hql, hr]
        exact ⟨rfl, rfl, rfl, rfl⟩
      have HRB : Hid _ := hRB
      have HW10 : Hid _ := hW10
      have m1 : ¬ gb = RB := by omega
      have m2 : ¬ RB = gb := by omega
      have m3 : ¬ XB = RB := by omega
      have m4 : ¬ RB = XB := by omega
      clear hr hro hK hb10 hW10 hokQ bx10
      go_wp2_with fail
      rw [← HW10.out]
      refine KC.mono ?_
      rintro e w11 ⟨a1, c1, rfl, hR⟩
      obtain ⟨⟨u0, u1, u2⟩, W12, hW12, ⟨k0, k1, k2, k3, k4⟩, kg, l12, l13, l14, a', c', w13, hrun, hS, mg, mf, l15, l16, l17, HLR2, hK2⟩ := HST.out w11 a1 c1 hR
      have HRUN : Hid _ := hrun
      have HKK4 : Hid _ := hK2
      obtain ⟨v0, v1, v2, v3, v4⟩ := hS
      clear hR hrun hK2 KC HST
      go_wp2_with fail
      rw [← hW12]
      clear hW12 u0 u1 u2
      refine wp_region_held_drew (S := fun w' => w'.cell? ⟨XB, 1, none⟩ = some (.slice (some ⟨gb, 0, none⟩) d.fs.length vc) ∧ w'.cell? ⟨RB, 0, none⟩ = some (.int .i64 r.st) ∧ w'.cell? ⟨RB, 1, none⟩ = some (.int .i64 r.cl) ∧ w'.cell? ⟨RB, 2, none⟩ = some (.int .i64 r.nx) ∧ w'.cell? ⟨RB, 3, none⟩ = some (.slice a1 r.os.length c1)) (by kernel_rfl) ⟨k0, k1, k2, k3, k4⟩ (fun hHeld => ?_)
      refine wpAnyH_take (i := 0) rfl (by kernel_rfl) (by kernel_rfl) (by kernel_rfl) (fun _ _ _ h => h) (Or.inl ⟨by rfl, fun w hSw => by (dsimp only at hSw; go_simp; first | done | with_reducible rfl)⟩) hHeld ?_
      go_frame
      refine wpAnyH_take (i := 1) rfl (by kernel_rfl) (by kernel_rfl) (by kernel_rfl) (fun _ _ _ h => h) (Or.inl ⟨by rfl, fun w hSw => by (dsimp only at hSw; go_simp; first | done | with_reducible rfl)⟩) hHeld ?_
      go_frame
      refine wpAnyH_take (i := 2) rfl (by kernel_rfl) (by kernel_rfl) (by kernel_rfl) (fun _ _ _ h => h) (Or.inl ⟨by rfl, fun w hSw => by (dsimp only at hSw; go_simp; first | done | with_reducible rfl)⟩) hHeld ?_
      go_frame
      refine wpAnyH_take (i := 3) rfl (by kernel_rfl) (by kernel_rfl) (by kernel_rfl) (fun _ _ _ h => h) (Or.inl ⟨by rfl, fun w hSw => by (dsimp only at hSw; go_simp; first | done | with_reducible rfl)⟩) hHeld ?_
      go_frame
      refine wpAnyH_take (i := 4) rfl (by kernel_rfl) (by kernel_rfl) (by kernel_rfl) (fun _ _ _ h => h) (Or.inl ⟨by rfl, fun w hSw => by (dsimp only at hSw; go_simp; first | done | with_reducible rfl)⟩) hHeld ?_
      go_frame
      refine wpAnyH_take (i := 5) rfl (by kernel_rfl) (by kernel_rfl) (by kernel_rfl) (fun _ _ _ h => h) (Or.inl ⟨by rfl, fun w hSw => by (dsimp only at hSw; go_simp; first | done | with_reducible rfl)⟩) hHeld ?_
      go_frame
      refine wpAnyH_take (i := 6) rfl (by kernel_rfl) (by kernel_rfl) (by kernel_rfl) (fun _ _ _ h => h) (Or.inl ⟨by rfl, fun w hSw => by (dsimp only at hSw; go_simp; first | done | with_reducible rfl)⟩) hHeld ?_
      go_frame
      refine wpAnyH_take (i := 7) rfl (by kernel_rfl) (by kernel_rfl) (by kernel_rfl) (fun _ _ _ h => h) (Or.inl ⟨by rfl, fun w hSw => by (dsimp only at hSw; go_simp; first | done | with_reducible rfl)⟩) hHeld ?_
      go_frame
      refine wpAnyH_take (i := 9) rfl (by kernel_rfl) (by kernel_rfl) (by kernel_rfl) (fun _ _ _ h => h) (Or.inl ⟨by rfl, fun w hSw => by (dsimp only at hSw; go_simp; first | done | with_reducible rfl)⟩) hHeld ?_
      go_frame
      refine wpAnyH_ready (rs := [8, 10]) (by kernel_rfl) (by simp) (AllReadyH.cons rfl (fun K hK => ?_) (AllReadyH.cons rfl (fun K hK => ?_) AllReadyH.nil))
      ·go_simp
       refine hK.out _ _ hHeld (fun _ => ?_)
       clear hK K
       try go_frame
       refine wpAnyH_ready (rs := [10]) (by kernel_rfl) (by simp) (AllReadyH.cons rfl (fun K hK => ?_) AllReadyH.nil)
       go_simp
       refine hK.out _ _ (by (try dsimp only); go_keep) (fun hHeld10 => ?_)
       clear hK K
       try go_frame
       refine wpAnyH_ready (rs := [11]) (by kernel_rfl) (by simp) (AllReadyH.cons rfl (fun K hK => ?_) AllReadyH.nil)
       refine step_append_run rfl (.tmp 72) (.tmp 74) 75 rfl (by simp [Act.eval]) (by simp [Act.eval]) HRUN.out ?_
       refine hK.out _ _ ⟨v0, v1, v2, v3, v4⟩ (fun hHeld11 => ?_)
       clear hK K
       try go_frame
       refine wpAnyH_take (i := 12) rfl (by kernel_rfl) (by kernel_rfl) (by kernel_rfl) (fun _ _ _ h => h) (Or.inl ⟨by rfl, fun w hSw => by (dsimp only at hSw; go_simp; first | done | with_reducible rfl)⟩) hHeld11 ?_
       go_frame
       refine wpAnyH_take (i := 13) rfl (by kernel_rfl) (by kernel_rfl) (by kernel_rfl) (fun _ _ _ h => h) (Or.inl ⟨by rfl, fun w hSw => by (dsimp only at hSw; go_simp; first | done | with_reducible rfl)⟩) hHeld11 ?_
       go_frame
       refine wpAnyH_ready (rs := [14]) (by kernel_rfl) (by simp) (AllReadyH.cons rfl (fun K hK => ?_) AllReadyH.nil)
       go_simp
       refine hK.out _ _ (by (try dsimp only); go_keep) (fun hHeld13 => ?_)
       clear hK K
       refine wpAnyH_done (by kernel_rfl) ?_ _
       go_wp2_with fail
       go_roundw
       case measure => simp [intOf]; omega
       case rel => exact ⟨j + 1, a', c', _, by omega, by go_num, by simp [hql], HLR2, HKK4.out⟩
      ·go_simp
       refine hK.out _ _ (by (try dsimp only); go_keep) (fun hHeld10 => ?_)
       clear hK K
       try go_frame
       refine wpAnyH_ready (rs := [8]) (by kernel_rfl) (by simp) (AllReadyH.cons rfl (fun K hK => ?_) AllReadyH.nil)
       go_simp
       refine hK.out _ _ hHeld10 (fun _ => ?_)
       clear hK K
       try go_frame
       refine wpAnyH_ready (rs := [11]) (by kernel_rfl) (by simp) (AllReadyH.cons rfl (fun K hK => ?_) AllReadyH.nil)
       refine step_append_run rfl (.tmp 72) (.tmp 74) 75 rfl (by simp [Act.eval]) (by simp [Act.eval]) HRUN.out ?_
       refine hK.out _ _ ⟨v0, v1, v2, v3, v4⟩ (fun hHeld11 => ?_)
       clear hK K
       try go_frame
       refine wpAnyH_take (i := 12) rfl (by kernel_rfl) (by kernel_rfl) (by kernel_rfl) (fun _ _ _ h => h) (Or.inl ⟨by rfl, fun w hSw => by (dsimp only at hSw; go_simp; first | done | with_reducible rfl)⟩) hHeld11 ?_
       go_frame
       refine wpAnyH_take (i := 13) rfl (by kernel_rfl) (by kernel_rfl) (by kernel_rfl) (fun _ _ _ h => h) (Or.inl ⟨by rfl, fun w hSw => by (dsimp only at hSw; go_simp; first | done | with_reducible rfl)⟩) hHeld11 ?_
       go_frame
       refine wpAnyH_ready (rs := [14]) (by kernel_rfl) (by simp) (AllReadyH.cons rfl (fun K hK => ?_) AllReadyH.nil)
       go_simp
       refine hK.out _ _ (by (try dsimp only); go_keep) (fun hHeld13 => ?_)
       clear hK K
       refine wpAnyH_done (by kernel_rfl) ?_ _
       go_wp2_with fail
       go_roundw
       case measure => simp [intOf]; omega
       case rel => exact ⟨j + 1, a', c', _, by omega, by go_num, by simp [hql], HLR2, HKK4.out⟩
     ·obtain rfl : j = g.rs.length := by omega
      obtain ⟨_, _, _, q1, _⟩ := HX.out WQ hK.bel
      obtain ⟨D', e1, e2, e3, e4, hlik, hww⟩ := K2.done hK HLK.out HF.out HG.out HSM.out HKKl.out HPL.out HLTS.out hql HLR.out (fun r hr => ⟨(hokQ.r.2 r hr).1, (hokQ.r.2 r hr).2.1⟩)
      have y0 : WQ.cell? ⟨XB, 0, none⟩ = some (.slice pa d.ps.length pc) := cellN hK.bx 0
      have y1 : WQ.cell? ⟨XB, 1, none⟩ = some (.slice (some ⟨gb, 0, none⟩) d.fs.length vc) := cellN hK.bx 1
      have y2 : WQ.cell? ⟨XB, 2, none⟩ = some (.int .i64 d.en) := cellN hK.bx 2
      obtain ⟨qf, c0, c1, c2⟩ := box3 q1
      have lX : W0.heap.size ≤ XB := hK.lx
      have n7 : ¬ XB = B + 1 := by have := HS0.out; omega
      have n8 : ¬ B + 1 = XB := by omega
      have lB1 : B + 1 < WQ.heap.size := clt c0
      have hsub : Hid (Sub (mask (fun k => decide (k < W0.heap.size)) WQ) (mask (fun k => decide (k < w.heap.size)) (((WQ.setCell ⟨B + 1, 0, none⟩ (.slice pa d.ps.length pc)).setCell ⟨B + 1, 1, none⟩ (.slice (some ⟨gb, 0, none⟩) d.fs.length vc)).setCell ⟨B + 1, 2, none⟩ (.int .i64 d.en)))) := by
       have g0 : Fr (fun k => k = B + 1) WQ WQ := Fr.refl _ WQ
       have g1 := g0.setCell ⟨B + 1, 0, none⟩ (.slice pa d.ps.length pc) rfl
       have g2 := g1.setCell ⟨B + 1, 1, none⟩ (.slice (some ⟨gb, 0, none⟩) d.fs.length vc) rfl
       have g3 := g2.setCell ⟨B + 1, 2, none⟩ (.int .i64 d.en) rfl
       refine sub_mask g3.size (fun k hk hS => ?_)
       have hS' : W0.heap.size ≤ k := by simpa using hS
       have e0 := HS0.out
       have e4 := HBE.out
       exact ⟨by simp; omega, g3.block k hk (by omega)⟩
      have hbel : Hid (Below w.heap.size w (((WQ.setCell ⟨B + 1, 0, none⟩ (.slice pa d.ps.length pc)).setCell ⟨B + 1, 1, none⟩ (.slice (some ⟨gb, 0, none⟩) d.fs.length vc)).setCell ⟨B + 1, 2, none⟩ (.int .i64 d.en))) := by
       have h1 := (HB0.out).trans (hK.bel.mono (HB0.out).size)
       have e4 := HBE.out
       exact ((h1.setCell (p := ⟨B + 1, 0, none⟩) (by show _ ≤ B + 1; omega) _).setCell (p := ⟨B + 1, 1, none⟩) (by show _ ≤ B + 1; omega) _).setCell (p := ⟨B + 1, 2, none⟩) (by show _ ≤ B + 1; omega) _
      have R : Hid (∃ D', Value.agg #[.slice pa d.ps.length pc, .slice (some ⟨gb, 0, none⟩) d.fs.length vc, .int .i64 d.en] = wv D' ∧ LikP f D' d ∧ Ww (mask (fun k => decide (k < w.heap.size)) (((WQ.setCell ⟨B + 1, 0, none⟩ (.slice pa d.ps.length pc)).setCell ⟨B + 1, 1, none⟩ (.slice (some ⟨gb, 0, none⟩) d.fs.length vc)).setCell ⟨B + 1, 2, none⟩ (.int .i64 d.en))) D') := ⟨D', by rw [wv, hlik.ps, hlik.en, hlik.fl, e1, e2, e3, e4], hlik, hww.sub hsub.out⟩
      clear hK hlik hww e1 e2 e3 e4 q1 hokQ hql p1 p3 p4
      go_wp2_with fail
      refine bodyPost_ret (v := .agg #[.slice pa d.ps.length pc, .slice (some ⟨gb, 0, none⟩) d.fs.length vc, .int .i64 d.en]) ?_ rfl ?_
      ·have k0 := cell_set (v := .slice pa d.ps.length pc) c0
       have k1 : ((WQ.setCell ⟨B + 1, 0, none⟩ (.slice pa d.ps.length pc)).setCell ⟨B + 1, 1, none⟩ (.slice (some ⟨gb, 0, none⟩) d.fs.length vc)).cell? ⟨B + 1, 1, none⟩ = some (.slice (some ⟨gb, 0, none⟩) d.fs.length vc) := cell_set (u := .slice none 0 0) (by rw [World.cell?_setCell_other _ _ _ _ (by simp)]; exact c1)
       have k2 : (((WQ.setCell ⟨B + 1, 0, none⟩ (.slice pa d.ps.length pc)).setCell ⟨B + 1, 1, none⟩ (.slice (some ⟨gb, 0, none⟩) d.fs.length vc)).setCell ⟨B + 1, 2, none⟩ (.int .i64 d.en)).cell? ⟨B + 1, 2, none⟩ = some (.int .i64 d.en) := cell_set (u := .int .i64 0) (by rw [World.cell?_setCell_other _ _ _ _ (by simp), World.cell?_setCell_other _ _ _ _ (by simp)]; exact c2)
       simp [results, Tryz.results42, go_sem, k0, k1, k2]
      ·obtain ⟨D', r1, r2, r3⟩ := R.out
       exact ⟨D', by rw [r1], r2, r3, hbel.out⟩
end Go.Proofs.YtiaopafkfadmkaaGreat
