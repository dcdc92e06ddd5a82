/- Proved: the contract of kept: a copy of the federation in memory of its own. -/
import Derived.Test.YtmfcbalhabcodaaGreatKe0
import Derived.Deep.RegionWith
import Derived.Deep.CutBlock
import Derived.Deep.CutRange
namespace Go.Proofs.YtmfcbalhabcodaaGreat
open Go.RowKit Go.Shelf
set_option linter.unusedVariables false

theorem box3 {w : World} {b : Nat} {x y z : Value} {t : TypeId} (h : w.heap[b]? = some (.cells #[x, y, z] t (0, 0))) : (∀ j, w.frozen? ⟨b, j, none⟩ = false) ∧ w.cell? ⟨b, 0, none⟩ = some x ∧ w.cell? ⟨b, 1, none⟩ = some y ∧ w.cell? ⟨b, 2, none⟩ = some z := by
  refine ⟨fun j => ?_, ?_, ?_, ?_⟩ <;> simp [World.frozen?, World.cell?, h]

theorem box7 {w : World} {b : Nat} {x0 x1 x2 x3 x4 x5 x6 : Value} {t : TypeId} (h : w.heap[b]? = some (.cells #[x0, x1, x2, x3, x4, x5, x6] t (0, 0))) : (∀ j, w.frozen? ⟨b, j, none⟩ = false) ∧ w.cell? ⟨b, 3, none⟩ = some x3 ∧ w.cell? ⟨b, 4, none⟩ = some x4 ∧ w.cell? ⟨b, 5, none⟩ = some x5 ∧ w.cell? ⟨b, 6, none⟩ = some x6 ∧ w.cell? ⟨b, 0, none⟩ = some x0 ∧ w.cell? ⟨b, 1, none⟩ = some x1 ∧ w.cell? ⟨b, 2, none⟩ = some x2 := by
  refine ⟨fun j => ?_, ?_, ?_, ?_, ?_, ?_, ?_, ?_⟩ <;> simp [World.frozen?, World.cell?, h]

theorem own_some {w : World} {b0 e size n c : Nat} {a : Option Addr} {xs : List Value} (h : w.ownsRow b0 e size (.slice a n c) n xs) (hn : 0 < n) : ∃ g, a = some ⟨g, 0, none⟩ := by
  rcases h.2 with ⟨e, h0⟩ | ⟨g, cap, cur, e, _⟩
  · omega
  · simp at e
    exact ⟨g, e.1⟩
theorem rowR_cells {w : World} {b0 n c gb : Nat} {q : List Rl} (h : w.ownsRow b0 56 4 (.slice (some ⟨gb, 0, none⟩) n c) n (flatR q)) (hl : q.length = n) {j : Nat} (hj : j < n) {r : Rl} (hr : nthR q j = r) :
    w.cell? ⟨gb, j * 4, none⟩ = some (.int .i64 r.st) ∧ w.cell? ⟨gb, j * 4 + 1, none⟩ = some (.int .i64 r.cl) ∧ w.cell? ⟨gb, j * 4 + 2, none⟩ = some (.int .i64 r.nx) ∧ w.cell? ⟨gb, j * 4 + 3, none⟩ = some (.slice r.sa r.os.length r.sc) := by
  subst hr
  have hc : ∀ c', c' < 4 → w.cell? ⟨gb, j * 4 + c', none⟩ = (encR (nthR q j))[c']? := fun c' hc' => by rw [World.ownsRow.cellAt h _ (by omega), flatR_get q j c' (by omega) hc']
  exact ⟨hc 0 (by omega), hc 1 (by omega), hc 2 (by omega), hc 3 (by omega)⟩

set_option maxRecDepth 100000 in
set_option maxHeartbeats 2000000 in
theorem kept_any (w : World) (d : Wd) (h : Ww w d) :
    Calls Tryz.prog 26 #[wv d] w fun e w' => ∃ D', e = .returned (wv D') ∧ Lik D' d ∧ Ww (mask (fun k => decide (k < w.heap.size)) w') D' ∧ Below w.heap.size w w' := by
  have mixed : Tryz.prog.follows .mixedOrders = true := by kernel_rfl
  have HPL : Hid (d.ps.length ≤ 50 ∧ d.fs.length ≤ 20) := ⟨h.pl, h.fl⟩
  have hfl := h.fl
  obtain ⟨fa, hfa⟩ : ∃ fa, d.fa = fa := ⟨_, rfl⟩
  have HFA : Hid _ := hfa
  obtain ⟨W0, hW0⟩ : ∃ W0, W0 = (w.alloc (.cells #[.slice d.pa d.ps.length d.pc, .slice fa d.fs.length d.fc, .int .i64 d.en] 25)).alloc (.cells #[.slice none 0 0, .slice none 0 0, .int .i64 0] 25) := ⟨_, rfl⟩
  have hb0 : Below w.heap.size w W0 := by rw [hW0]; exact ((Below.refl _ w).alloc (Nat.le_refl _) _).alloc (by simp) _
  have s0 : W0.heap.size = w.heap.size + 1 + 1 := by rw [hW0]; simp
  have hWw := h.below hb0
  have HX : Hid (∀ W, Below W0.heap.size W0 W → W.cell? ⟨w.heap.size, 0, none⟩ = some (.slice d.pa d.ps.length d.pc) ∧ W.cell? ⟨w.heap.size, 1, none⟩ = some (.slice fa d.fs.length d.fc) ∧ W.cell? ⟨w.heap.size, 2, none⟩ = some (.int .i64 d.en) ∧ W.heap[w.heap.size + 1]? = some (.cells #[.slice none 0 0, .slice none 0 0, .int .i64 0] 25 (0, 0)) ∧ Ww W d) := fun W hW => by
    refine ⟨(hW.cell (p := ⟨w.heap.size, 0, none⟩) (by show w.heap.size < _; omega)).trans ?_, (hW.cell (p := ⟨w.heap.size, 1, none⟩) (by show w.heap.size < _; omega)).trans ?_, (hW.cell (p := ⟨w.heap.size, 2, none⟩) (by show w.heap.size < _; omega)).trans ?_, (hW.block (w.heap.size + 1) (by omega)).trans ?_, hWw.below hW⟩
    · rw [hW0]; go_simp
    · rw [hW0]; go_simp
    · rw [hW0]; go_simp
    · have := World.alloc_heap_new (w.alloc (.cells #[.slice d.pa d.ps.length d.pc, .slice fa d.fs.length d.fc, .int .i64 d.en] 25)) (.cells #[.slice none 0 0, .slice none 0 0, .int .i64 0] 25)
      rw [hW0]
      simpa using this
  have HCL : Hid (∀ W, Below W0.heap.size W0 W → Calls Tryz.prog 50 #[.slice d.pa d.ps.length d.pc] W fun e w' => ∃ a' c', e = .returned (.slice a' d.ps.length c') ∧ w'.ownsRow W.heap.size 3 1 (.slice a' d.ps.length c') d.ps.length (d.ps.map (Value.int .i64)) ∧ Below W.heap.size W w') := fun W hW => cloneInts W d.pa d.pc d.ps (hWw.below hW).p (by have := h.pl; omega)
  have HW0 : Hid _ := hW0
  have HB0 : Hid _ := hb0
  dsimp only [wv]
  rw [hfa]
  clear h hWw hW0 hb0 hfa
  go_enter Tryz.func26, Tryz.ntmps26
  go_wp2_with fail
  rw [← HW0.out]
  obtain ⟨x0, x1, x2, _, _⟩ := HX.out W0 (Below.refl _ _)
  obtain ⟨B, hB⟩ : ∃ B, w.heap.size = B := ⟨_, rfl⟩
  simp only [hB] at x0 x1 x2 HX s0 ⊢
  have HBE : Hid _ := hB
  clear hB
  have hbz := al W0 (.cells #[.slice none 0 0, .slice none 0 0, .int .i64 0] 25)
  have bz := World.alloc_heap_new W0 (.cells #[.slice none 0 0, .slice none 0 0, .int .i64 0] 25)
  have sz : (W0.alloc (.cells #[.slice none 0 0, .slice none 0 0, .int .i64 0] 25)).heap.size = B + 1 + 1 + 1 := by simp [s0]
  rw [s0] at bz
  have HZ : Hid (∀ W, Below (W0.alloc (.cells #[.slice none 0 0, .slice none 0 0, .int .i64 0] 25)).heap.size (W0.alloc (.cells #[.slice none 0 0, .slice none 0 0, .int .i64 0] 25)) W → Below W0.heap.size W0 W ∧ W.heap[B + 1 + 1]? = some (.cells #[.slice none 0 0, .slice none 0 0, .int .i64 0] 25 (0, 0)) ∧ B + 1 + 1 < W.heap.size) := fun W hW => by
    refine ⟨hbz.trans (hW.mono hbz.size), (hW.block _ (by omega)).trans bz, ?_⟩
    have := hW.size
    omega
  have HBZ : Hid _ := hbz
  have HS0 : Hid _ := s0
  clear hbz bz sz
  have nB2 : B + 1 + 1 ≠ B := by omega
  have nB3 : ¬ B = B + 1 + 1 := by omega
  go_cut [3] from 8 (fun s3 wx => ∃ (XB : Nat) (pa : Option Addr) (pc : Nat), s3 = .pointer (some ⟨XB, 0, none⟩) ∧ KK W0 XB pa pc d wx (.slice none 0 0) [])
  case first =>
    go_region_held3 (fun w' => w'.cell? ⟨B, 0, none⟩ = some (.slice d.pa d.ps.length d.pc) ∧ w'.cell? ⟨B, 2, none⟩ = some (.int .i64 d.en)) (go_keep) (first
      | (go_at_call 50; refine (HCL.out _ ((Below.refl _ W0).drew)).mono ?_; rintro e w1 ⟨pa, pc, rfl, ho1, hb1⟩; have hb1' := ((Below.refl _ W0).drew).trans hb1; obtain ⟨z0, z1, z2, z3, z4⟩ := HX.out w1 hb1'; have HO : Hid _ := ho1; have HB1 : Hid _ := hb1'; have lB : B < w1.heap.size := clt z0; have nB1 : w1.heap.size ≠ B := (by omega); clear ho1 hb1' hb1)
      | (go_at_call 50; refine (HCL.out _ ((HBZ.out).drew)).mono ?_; rintro e w1 ⟨pa, pc, rfl, ho1, hb1⟩; obtain ⟨hb1', bx1, lX⟩ := HZ.out w1 (((Below.refl _ _).drew).trans hb1); obtain ⟨z0, z1, z2, z3, z4⟩ := HX.out w1 hb1'; have HO : Hid _ := ho1; have HB1 : Hid _ := hb1'; have HX1 : Hid _ := bx1; obtain ⟨f1, c1, c2, c3⟩ := box3 bx1; have nB1 : B + 1 + 1 ≠ B := (by omega); clear ho1 hb1' hb1 bx1))
    · have R : Hid (KK W0 w1.heap.size pa pc d (w1.alloc (.cells (kcs pa pc d (.slice none 0 0)) 25)) (.slice none 0 0) []) := KK.start HB1.out HO.out
      go_wp2_with fail
      go_meet
      exact ⟨_, _, _, rfl, R.out⟩
    · have R : Hid (KK W0 (B + 1 + 1) pa pc d (((w1.setCell ⟨B + 1 + 1, 0, none⟩ (.slice pa d.ps.length pc)).setCell ⟨B + 1 + 1, 1, none⟩ (.slice none 0 0)).setCell ⟨B + 1 + 1, 2, none⟩ (.int .i64 d.en)) (.slice none 0 0) []) := KK.begin3 HB1.out (by rw [HS0.out]; exact Nat.le_refl _) (by show B + 1 + 1 < (W0.alloc _).heap.size; simp [HS0.out]) HX1.out HO.out
      go_wp2_with fail
      go_meet
      exact ⟨_, _, _, rfl, R.out⟩
  case rest =>
    obtain ⟨XB, pa, pc, rfl, hKK⟩ := hcut
    obtain ⟨y0, y1, y2, _, _⟩ := HX.out wc hKK.bel
    have HKK : Hid _ := hKK
    clear x0 x1 x2 HW0 HZ HBZ hKK HCL
    go_wp2_with fail
    go_loopw [17] (fun s17 wr => ∃ (k : Nat) (v : Value) (l : List Fd), k ≤ d.fs.length ∧ s17 = .int .i64 k ∧ l.length = k ∧ KK W0 XB pa pc d wr v l) (fun s17 _ => d.fs.length - (intOf s17).toNat)
    case atStart => exact ⟨0, _, [], Nat.zero_le _, rfl, rfl, HKK.out⟩
    case round =>
      clear y0 y1 y2 HKK
      obtain ⟨k, v, l, hk, rfl, hlk, hKK⟩ := hrel
      obtain ⟨WR, hWR⟩ : ∃ WR, WR = wr := ⟨_, rfl⟩
      subst hWR
      obtain ⟨_, _, _, q1, hWw⟩ := HX.out WR hKK.bel
      by_cases hkl : k < d.fs.length
      · have hk' : (k : Int) < (d.fs.length : Int) := by omega
        obtain ⟨g, hg⟩ : ∃ g, nthF d.fs k = g := ⟨_, rfl⟩
        have hc := hWw.f.cells hkl hg
        have hok := hWw.f.at hkl hg
        have hlt : LtF g := hWw.lt g (hg ▸ nthF_mem hkl)
        rw [HFA.out] at hc
        obtain ⟨b, off, rfl, hbb, z0, z1, z2, z3, z4, z5, z6⟩ := hc
        have HG : Hid _ := hg
        have HK : Hid _ := hKK
        have HLK : Hid _ := hlk
        obtain ⟨W6, hW6⟩ : ∃ W6, W6 = WR.alloc (.cells #[.int .i64 g.kd, .int .i64 g.lk, .int .i64 g.st, .slice g.ra g.rs.length g.rc, .slice g.pa g.ps.length g.pc, .slice g.sa g.ss.length g.sc, .slice none 0 0] 54) := ⟨_, rfl⟩
        have hb6 : Below WR.heap.size WR W6 := by rw [hW6]; exact al _ _
        have bx6 : W6.heap[WR.heap.size]? = some (.cells #[.int .i64 g.kd, .int .i64 g.lk, .int .i64 g.st, .slice g.ra g.rs.length g.rc, .slice g.pa g.ps.length g.pc, .slice g.sa g.ss.length g.sc, .slice none 0 0] 54 (0, 0)) := by rw [hW6]; exact World.alloc_heap_new WR _
        obtain ⟨FB, hFB⟩ : ∃ FB, WR.heap.size = FB := ⟨_, rfl⟩
        have HFB : Hid _ := hFB
        have HW6 : Hid _ := hW6
        have hok6 := hok.below hb6
        rw [hFB] at bx6
        have HX6 : Hid (∀ W, Below W6.heap.size W6 W → W.heap[FB]? = some (.cells #[.int .i64 g.kd, .int .i64 g.lk, .int .i64 g.st, .slice g.ra g.rs.length g.rc, .slice g.pa g.ps.length g.pc, .slice g.sa g.ss.length g.sc, .slice none 0 0] 54 (0, 0)) ∧ okF W g) := fun W hW => ⟨(hW.block FB (Array.getElem?_eq_some_iff.1 bx6).1).trans bx6, hok6.below hW⟩
        have C1 := cloneInts W6.drew g.pa g.pc g.ps (hok6.below ((Below.refl _ W6).drew)).p (by have := hlt.p; omega)
        have C2 : Hid (∀ W, Below W6.heap.size W6 W → Calls Tryz.prog 50 #[.slice g.sa g.ss.length g.sc] W fun e w' => ∃ a' c', e = .returned (.slice a' g.ss.length c') ∧ w'.ownsRow W.heap.size 3 1 (.slice a' g.ss.length c') g.ss.length (g.ss.map (Value.int .i64)) ∧ Below W.heap.size W w') := fun W hW => cloneInts W g.sa g.sc g.ss (hok6.below hW).s (by have := hlt.s; omega)
        have HOK : Hid (okF WR g) := hok
        have HLT : Hid (LtF g) := hlt
        clear hg hKK hlk hok hok6 hWw hb6 bx6 hW6 hlt
        go_wp2_with fail
        rw [← HW6.out]
        have lF6 : FB < W6.heap.size := (Array.getElem?_eq_some_iff.1 (HX6.out W6 (Below.refl _ _)).1).1
        obtain ⟨f6, t3, t4, t5, _⟩ := box7 (HX6.out W6 (Below.refl _ _)).1
        have HB6 : Hid (Below WR.heap.size WR W6) := by show Below _ _ _; rw [HW6.out]; exact al _ _
        go_cut [5, 17] from 17 to 57 (fun s5 s17 wx => ∃ (pa' : Option Addr) (pc' : Nat) (sa' : Option Addr) (sc' : Nat), s5 = .pointer (some ⟨FB, 0, none⟩) ∧ s17 = .int .i64 k ∧ Q1 WR FB g pa' pc' sa' sc' wx)
        case first =>
          go_region_with (first
            | (go_at_call 50; refine (C2.out _ hb7).mono ?_; rintro e w8 ⟨sa', sc', rfl, o8, hb8⟩; have hb8' := hb7.trans (hb8.mono hb7.size); have O8 : Hid _ := o8; have lF8 : FB < w8.heap.size := Nat.lt_of_lt_of_le lF6 hb8'.size; obtain ⟨f8, t3, t4, t5, _⟩ := box7 (HX6.out w8 hb8').1; clear o8)
            | (go_at_call 50; refine C1.mono ?_; rintro e w7 ⟨pa', pc', rfl, o7, hb7'⟩; have hb7 := ((Below.refl _ W6).drew).trans hb7'; have O7 : Hid _ := o7; have lF7 : FB < w7.heap.size := Nat.lt_of_lt_of_le lF6 hb7.size; obtain ⟨f7, t3, t4, t5, _⟩ := box7 (HX6.out w7 hb7).1; clear o7 hb7'))
          all_goals (have R : Hid (Q1 WR FB g pa' pc' sa' sc' ((w8.setCell ⟨FB, 4, none⟩ (.slice pa' g.ps.length pc')).setCell ⟨FB, 5, none⟩ (.slice sa' g.ss.length sc'))) := Q1.make HFB.out lF6 HB6.out hb7 hb8 (HX6.out w8 hb8').1 O7.out O8.out)
          all_goals go_wp2_with fail
          all_goals go_meet
          all_goals exact ⟨_, _, _, _, rfl, rfl, R.out⟩
        case rest =>
          obtain ⟨pa', pc', sa', sc', rfl, rfl, hQ1⟩ := hcut
          have hokc := (HOK.out).below hQ1.bel
          obtain ⟨fc, c3, c4, c5, c6, c0, c1, c2⟩ := box7 hQ1.bx
          have lFc : FB < wc.heap.size := clt c3
          have C3 := cloneRules wc g.ra g.rc g.rs hokc.r.1 (by have := (HLT.out).r.1; omega)
          have HQ1 : Hid _ := hQ1
          have HX9 : Hid (∀ W, Below wc.heap.size wc W → W.heap[FB]? = some (.cells (qcs g g.ra g.rc pa' pc' sa' sc') 54 (0, 0))) := fun W hW => (hW.block FB lFc).trans hQ1.bx
          clear hokc hQ1 C1 C2 HX6 HB6 HW6 lF6 f6 t3 t4 t5
          go_wp2_with fail
          refine C3.mono ?_
          rintro e w9 ⟨ra', rc', rfl, o9, hb9⟩
          have hQ := QQ.start HQ1.out hb9 o9
          obtain ⟨f9, d3, d4, d5, d6, d0, d1, d2⟩ := box7 (HX9.out w9 hb9)
          have lF9 : FB < w9.heap.size := clt d3
          have HQ : Hid _ := hQ
          clear C3 HX9 c0 c1 c2 c3 c4 c5 c6 fc o9 hb9 hQ
          go_wp2_with fail
          obtain ⟨W9, hW9⟩ : ∃ W9, W9 = w9.setCell ⟨FB, 3, none⟩ (.slice ra' g.rs.length rc') := ⟨_, rfl⟩
          rw [← hW9] at HQ ⊢
          clear hW9 d0 d1 d2 d3 d4 d5 d6 f9 lF9
          have hrl : g.rs.length ≤ 60 := (HLT.out).r.1
          go_loopw [37] (fun s37 wq => ∃ (j : Nat) (q : List Rl), j ≤ g.rs.length ∧ s37 = .int .i64 j ∧ QQ WR FB g ra' rc' pa' pc' sa' sc' wq q j) (fun s37 _ => g.rs.length - (intOf s37).toNat)
          case atStart => exact ⟨0, _, Nat.zero_le _, rfl, HQ.out⟩
          case round =>
            clear HQ
            obtain ⟨j, q, hj, rfl, hQ⟩ := hrel
            obtain ⟨ff, a3, a4, a5, a6, a0, a1, a2⟩ := box7 hQ.bx
            have lFr : FB < wr.heap.size := clt a3
            by_cases hjl : j < g.rs.length
            · have hj' : (j : Int) < (g.rs.length : Int) := by omega
              obtain ⟨gb, rfl⟩ := own_some hQ.row (by omega)
              obtain ⟨r, hr⟩ : ∃ r, nthR q j = r := ⟨_, rfl⟩
              obtain ⟨r0, r1, r2, r3⟩ := rowR_cells hQ.row hQ.ql hjl hr
              have lgb : gb < wr.heap.size := clt r0
              have hgf : FB < gb := (own_lt hQ.row (g := gb) rfl).2
              have hro : RdO WR r.sa r.os := by
                have e := hQ.un j (Nat.le_refl _) hjl
                rw [hr] at e
                rw [e]
                exact ((HOK.out).r.2 _ (nthR_mem hjl)).2.2
              have hrl2 : r.os.length ≤ 20 := by
                have e := hQ.un j (Nat.le_refl _) hjl
                rw [hr] at e
                rw [e]
                exact (HLT.out).r.2 _ (nthR_mem hjl)
              obtain ⟨W10, hW10⟩ : ∃ W10, W10 = wr.alloc (.cells #[.int .i64 r.st, .int .i64 r.cl, .int .i64 r.nx, .slice r.sa r.os.length r.sc] 56) := ⟨_, rfl⟩
              have hb10 : Below wr.heap.size wr W10 := by rw [hW10]; exact al _ _
              obtain ⟨RB, hRB⟩ : ∃ RB, wr.heap.size = RB := ⟨_, rfl⟩
              have s10 : RB < W10.heap.size := by rw [hW10, ← hRB]; simp
              have e3 : W10.cell? ⟨RB, 3, none⟩ = some (.slice r.sa r.os.length r.sc) := by rw [hW10, ← hRB, World.cell?_alloc_new]; rfl
              have K := clone_any W10.drew r.sa r.sc r.os ((hro.below hQ.bel).below (hb10.drew)) (by omega)
              have HY : Hid (∀ W, Below W10.heap.size W10 W → Below wr.heap.size wr W ∧ W.cell? ⟨FB, 3, none⟩ = some (.slice (some ⟨gb, 0, none⟩) g.rs.length rc') ∧ W.cell? ⟨RB, 3, none⟩ = some (.slice r.sa r.os.length r.sc) ∧ W.cell? ⟨gb, j * 4 + 3, none⟩ = some (.slice r.sa r.os.length r.sc) ∧ ∀ p, W.frozen? ⟨gb, p, none⟩ = false) := fun W hW => by
                have hbb := hb10.trans (hW.mono hb10.size)
                exact ⟨hbb, (hbb.cell (p := ⟨FB, 3, none⟩) lFr).trans a3, (hW.cell (p := ⟨RB, 3, none⟩) s10).trans e3, (hbb.cell (p := ⟨gb, j * 4 + 3, none⟩) lgb).trans r3, fun p => World.ownsRow.frozenAt (own_below hQ.row hbb) p⟩
              have HRE : Hid _ := hr
              have HQ : Hid _ := hQ
              have HRB : Hid _ := hRB
              have HW10 : Hid _ := hW10
              have n1 : ¬ gb = FB := by omega
              have n2 : ¬ FB = gb := by omega
              have n3 : ¬ gb = RB := by omega
              have n4 : ¬ RB = gb := by omega
              clear hr hro hQ hb10 hW10 a0 a1 a2 a4 a5 a6
              go_wp2_with fail
              rw [← HW10.out]
              obtain ⟨_, b3, b4, b5, b6⟩ := HY.out W10 (Below.refl _ _)
              go_region_held3 (fun w' => w'.cell? ⟨FB, 3, none⟩ = some (.slice (some ⟨gb, 0, none⟩) g.rs.length rc') ∧ w'.cell? ⟨RB, 3, none⟩ = some (.slice r.sa r.os.length r.sc)) (go_keep) (first
                | (go_at_call 52; refine K.mono ?_; rintro e w11 ⟨a', c', rfl, hR⟩; have hb11 := ((Below.refl _ W10).drew).trans hR.2; obtain ⟨hbq, b3, b4, b5, b6⟩ := HY.out w11 hb11; have HR : Hid _ := hR; clear hR))
              all_goals go_wp2_with fail
              all_goals go_roundw
              all_goals (try (case measure => simp [intOf]; omega))
              all_goals
                refine ⟨j + 1, q.set j ⟨r.st, r.cl, r.nx, a', c', r.os⟩, by omega, by go_num, ?_⟩
                have RR := QQ.step (a' := a') (c' := c') HQ.out hbq hjl (by rw [HRE.out]; exact own_since (HR.out).1 (by show _ ≤ W10.heap.size; rw [HRB.out]; exact Nat.le_of_lt s10))
                rw [HRE.out] at RR
                exact RR
            · obtain rfl : j = g.rs.length := by omega
              have hi64 : ∀ r ∈ g.rs, i64 r.st ∧ i64 r.cl := fun r hr => ⟨((HOK.out).r.2 r hr).1, ((HOK.out).r.2 r hr).2.1⟩
              obtain ⟨okk, lkk⟩ := QQ.done hQ HLT.out hi64
              have hql := hQ.ql
              have hb13 : Below wr.heap.size wr (wr.alloc (.cells (fcs (cpF g ra' rc' pa' pc' sa' sc' q)) 54)) := al _ _
              have hbW := hQ.bel.trans (hb13.mono hQ.bel.size)
              have hll : l.length ≤ 1000 := by rw [HLK.out]; omega
              have hXl : (l ++ [cpF g ra' rc' pa' pc' sa' sc' q]).length = k + 1 := by simp [HLK.out]
              obtain ⟨X, hX⟩ : ∃ X, l ++ [cpF g ra' rc' pa' pc' sa' sc' q] = X := ⟨_, rfl⟩
              obtain ⟨a2', c2', w13, hrun, hfz, hcl, hKK2⟩ := KK.step HK.out hbW (cpF g ra' rc' pa' pc' sa' sc' q) wr.heap.size (rdG_new wr _) (okk.sub (mask_below hb13)) (by rw [HLK.out, HG.out]; exact lkk) hll 23 X hX
              rw [hX] at hXl
              obtain ⟨_, y1, _, _⟩ := ((HK.out).below hQ.bel).cells
              have lX : XB < wr.heap.size := ((HK.out).below hQ.bel).lt
              have efc : fcs (cpF g ra' rc' pa' pc' sa' sc' q) = #[.int .i64 g.kd, .int .i64 g.lk, .int .i64 g.st, .slice ra' g.rs.length rc', .slice pa' g.ps.length pc', .slice sa' g.ss.length sc', .slice none 0 0] := by simp [fcs, cpF, hql]
              rw [efc] at hrun
              have HRUN : Hid _ := hrun
              have HKK2 : Hid _ := hKK2
              have HXL : Hid _ := hXl
              clear hQ okk lkk hb13 hbW hX hrun hKK2 hXl efc hql hi64
              go_wp2_with (at_builtin; refine wpList_append_run _ rfl _ _ 23 rfl rfl rfl HRUN.out ?_)
              go_roundw
              case rel => exact ⟨k + 1, _, X, by omega, by go_num, HXL.out, HKK2.out⟩
              case measure => simp [intOf]; omega
      · obtain rfl : k = d.fs.length := by omega
        obtain ⟨va, vc, hv⟩ := shape_of hKK.row
        rw [hlk] at hv
        subst hv
        obtain ⟨y0, y1, y2, yf⟩ := hKK.cells
        obtain ⟨D', e1, e2, e3, hlik, hww⟩ := hKK.done hlk HPL.out
        obtain ⟨qf, p0, p1, p2⟩ := box3 q1
        have lX : W0.heap.size ≤ XB := hKK.lx
        have n1 : ¬ XB = B + 1 := by have := HS0.out; omega
        have n2 : ¬ B + 1 = XB := by omega
        have lB1 : B + 1 < WR.heap.size := clt p0
        have hsub : Hid (Sub (mask (fun k => decide (k < W0.heap.size)) WR) (mask (fun k => decide (k < w.heap.size)) (((WR.setCell ⟨B + 1, 0, none⟩ (.slice pa d.ps.length pc)).setCell ⟨B + 1, 1, none⟩ (.slice va d.fs.length vc)).setCell ⟨B + 1, 2, none⟩ (.int .i64 d.en)))) := by
          have g0 : Fr (fun k => k = B + 1) WR WR := Fr.refl _ WR
          have g1 := g0.setCell ⟨B + 1, 0, none⟩ (.slice pa d.ps.length pc) rfl
          have g2 := g1.setCell ⟨B + 1, 1, none⟩ (.slice va d.fs.length vc) rfl
          have g3 := g2.setCell ⟨B + 1, 2, none⟩ (.int .i64 d.en) rfl
          refine sub_mask g3.size (fun k hk hS => ?_)
          have hS' : W0.heap.size ≤ k := by simpa using hS
          have e0 := HS0.out
          have e4 := HBE.out
          exact ⟨by simp; omega, g3.block k hk (by omega)⟩
        have hbel : Hid (Below w.heap.size w (((WR.setCell ⟨B + 1, 0, none⟩ (.slice pa d.ps.length pc)).setCell ⟨B + 1, 1, none⟩ (.slice va d.fs.length vc)).setCell ⟨B + 1, 2, none⟩ (.int .i64 d.en))) := by
          have h1 := (HB0.out).trans (hKK.bel.mono (HB0.out).size)
          have e4 := HBE.out
          exact ((h1.setCell (p := ⟨B + 1, 0, none⟩) (by show _ ≤ B + 1; omega) _).setCell (p := ⟨B + 1, 1, none⟩) (by show _ ≤ B + 1; omega) _).setCell (p := ⟨B + 1, 2, none⟩) (by show _ ≤ B + 1; omega) _
        have R : Hid (∃ D', Value.agg #[.slice pa d.ps.length pc, .slice va d.fs.length vc, .int .i64 d.en] = wv D' ∧ Lik D' d ∧ Ww (mask (fun k => decide (k < w.heap.size)) (((WR.setCell ⟨B + 1, 0, none⟩ (.slice pa d.ps.length pc)).setCell ⟨B + 1, 1, none⟩ (.slice va d.fs.length vc)).setCell ⟨B + 1, 2, none⟩ (.int .i64 d.en))) D') := ⟨D', by rw [wv, hlik.ps, hlik.en, ← e1, e2, e3], hlik, hww.sub hsub.out⟩
        clear hKK hlik hww e1 e2 e3 q1 hWw hlk
        go_wp2_with fail
        refine bodyPost_ret (v := .agg #[.slice pa d.ps.length pc, .slice va d.fs.length vc, .int .i64 d.en]) ?_ rfl ?_
        · have k0 := cell_set (v := .slice pa d.ps.length pc) p0
          have k1 : ((WR.setCell ⟨B + 1, 0, none⟩ (.slice pa d.ps.length pc)).setCell ⟨B + 1, 1, none⟩ (.slice va d.fs.length vc)).cell? ⟨B + 1, 1, none⟩ = some (.slice va d.fs.length vc) := cell_set (u := .slice none 0 0) (by rw [World.cell?_setCell_other _ _ _ _ (by simp)]; exact p1)
          have k2 : (((WR.setCell ⟨B + 1, 0, none⟩ (.slice pa d.ps.length pc)).setCell ⟨B + 1, 1, none⟩ (.slice va d.fs.length vc)).setCell ⟨B + 1, 2, none⟩ (.int .i64 d.en)).cell? ⟨B + 1, 2, none⟩ = some (.int .i64 d.en) := cell_set (u := .int .i64 0) (by rw [World.cell?_setCell_other _ _ _ _ (by simp), World.cell?_setCell_other _ _ _ _ (by simp)]; exact p2)
          simp [results, Tryz.results26, go_sem, k0, k1, k2]
        · obtain ⟨D', r1, r2, r3⟩ := R.out
          exact ⟨D', by rw [r1], r2, r3, hbel.out⟩
end Go.Proofs.YtmfcbalhabcodaaGreat
