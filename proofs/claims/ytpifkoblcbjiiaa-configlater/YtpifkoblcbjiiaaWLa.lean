/- Proved: what a rule of a federation that may be sends is later by the lookahead at least, of a published class, and goes to who hears it; the walk of the statement on it. -/
import Derived.Test.YtpifkoblcbjiiaaInb
namespace Go.Proofs.Ytpifkoblcbjiiaa
open Go.RowKit Go.Shelf
set_option linter.unusedVariables false

theorem later_mem {D : Wd} {G now body : Int} {g : Fd} {r : Rl} {x : M} (hg : fedE g D.ps.length = 0) (hr : r ∈ g.rs) (h0 : 0 ≤ now) (h1 : now ≤ 4294967295) (h : x ∈ spr D G 7 now body r.os) :
    now + g.lk ≤ x.t ∧ x.dst ≠ G ∧ x.fr = G ∧ 7 ≤ x.sq ∧ x.cl ∈ g.ps ∧ x.dst ∈ rts D G x.cl := by
  obtain ⟨i, hi, hx⟩ := sprF_mem h
  obtain ⟨e1, e2, e3, e4, e5⟩ := oneM_mem hx
  obtain ⟨⟨hl0, hl1⟩, hs, _⟩ := fed_ok hg
  have ho : nthO r.os i ∈ r.os := (memO _ _).2 ⟨i, hi, rfl⟩
  obtain ⟨k1, k2, k3⟩ := hs r hr _ ho
  have hv : vadd now (nthO r.os i).2.1 = now + (nthO r.os i).2.1 := by
    unfold vadd
    rw [cnt_mid (t := now) (by omega) (by omega), cnt_mid (t := (nthO r.os i).2.1) (by omega) (by omega), cnt_mid (by omega) (by omega)]
  rw [hv] at e4
  rw [← e3] at e5
  obtain ⟨j, _, _, hne, _⟩ := mem_rts.1 e5
  exact ⟨by omega, hne, e1, by omega, by rw [e3]; exact k1, e5⟩

set_option maxRecDepth 100000 in
set_option maxHeartbeats 4000000 in
theorem later_walk (w : World) (D : Wd) (hp : RdI w w.heap.size D.pa D.ps) (hf : RdF w D.fa D.fs) (a1 a2 a3 a4 : Int) (h10 : 0 ≤ a1) (h11 : a1 ≤ 255) (h20 : 0 ≤ a2) (h21 : a2 ≤ 255) (h30 : 0 ≤ a3) (h31 : a3 ≤ 4294967295) (h40 : 0 ≤ a4) (h41 : a4 ≤ 65535) :
    Calls Try.prog 5 #[wv D, .int .u8 a1, .int .u8 a2, .int .u32 a3, .int .u16 a4] w fun e w' => e = .returned (.bool true) ∧ Below w.heap.size w w' := by
  have mixed : Try.prog.follows .mixedOrders = true := by kernel_rfl
  obtain ⟨W0, hW0⟩ : ∃ W0, W0 = w.alloc (.cells (wcs D) 25) := ⟨_, rfl⟩
  have hb0 : Below w.heap.size w W0 := by rw [hW0]; exact al _ _
  obtain ⟨⟨x0, x1, x2⟩, hp1, hf1⟩ := box_of hp hf
  rw [← hW0] at hp1 hf1
  have HV := heavy_any _ D hp1 hf1
  have HW0 : Hid _ := hW0
  obtain ⟨B, hB⟩ : ∃ B, w.heap.size = B := ⟨_, rfl⟩
  rw [hB] at x0 x1 x2
  have lB := clt x0
  dsimp only at lB
  have key : ∀ W, Below W0.heap.size W0 W → Below w.heap.size w W := fun W hW => hb0.trans (hW.mono hb0.size)
  have HKEY : Hid _ := key
  obtain ⟨fa, hfa⟩ : ∃ fa, D.fa = fa := ⟨_, rfl⟩
  have HFA : Hid _ := hfa
  cases hh : hvyW D with
  | true =>
    rw [hh] at HV
    rw [hW0] at HV
    dsimp only [wv, wcs] at HV x0 x1 x2 lB HW0 ⊢
    clear hp hf hp1 hf1 hh hW0 key hfa
    go_enter Try.func5, Try.ntmps5
    go_wp2_with fail
    refine HV.mono ?_
    rintro e w1 ⟨rfl, hb1⟩
    rw [← HW0.out] at hb1
    clear HV
    go_wp2_with fail
    refine (shown_any w1).mono ?_
    rintro e w2 ⟨rfl, hb2⟩
    go_wp2_with fail
    go_ret
    exact ⟨rfl, HKEY.out _ (hb1.trans (hb2.mono hb1.size))⟩
  | false =>
    have hW := ww_of hp1 hf1 hh
    rw [hh, hW0] at HV
    have HX : Hid (∀ W, Below W0.heap.size W0 W → BoxW W B D) := fun W hW' => (BoxW.mk (hW0 ▸ x0) (hW0 ▸ x1) (hW0 ▸ x2) hW).below hW'
    have hfl := hW.fl
    have HLT : Hid _ := hW.lt
    obtain ⟨N, E, hNE⟩ : ∃ N E, wldE D = (N, E) := ⟨_, _, rfl⟩
    have HNE : Hid _ := hNE
    dsimp only [wv, wcs] at HV x0 x1 x2 lB HW0 ⊢
    simp only [hfa] at HV x0 x1 x2 lB HW0 ⊢
    clear hp hf hp1 hf1 hh hW hW0 key hfa hNE
    go_enter Try.func5, Try.ntmps5
    go_wp2_with fail
    refine HV.mono ?_
    rintro e w1 ⟨rfl, hb1⟩
    rw [← HW0.out] at hb1
    obtain ⟨x0, x1, x2, hW1⟩ := HX.out w1 hb1
    rw [HFA.out] at x1
    have C1 := wcheck_any w1 D hW1
    rw [HNE.out] at C1
    dsimp only [wv] at C1
    rw [HFA.out] at C1
    clear HV hW1
    go_wp2_with fail
    refine C1.mono ?_
    rintro e w2 ⟨rfl, hb2⟩
    have hb2' := hb1.trans (hb2.mono hb1.size)
    obtain ⟨x0, x1, x2, hW2⟩ := HX.out w2 hb2'
    rw [HFA.out] at x1
    have C2 := rwcheck_any w2 D hW2
    rw [HNE.out] at C2
    dsimp only [wv] at C2
    rw [HFA.out] at C2
    clear C1 hW2
    go_wp2_with fail
    refine C2.mono ?_
    rintro e w3 ⟨rfl, hb3⟩
    have hb3' := hb2'.trans (hb3.mono hb2'.size)
    clear C2
    go_wp2_with fail
    refine (shown_any w3).mono ?_
    rintro e w4 ⟨rfl, hb4⟩
    have hb4' := hb3'.trans (hb4.mono hb3'.size)
    by_cases e0 : E = 0
    · subst e0
      obtain ⟨x0, x1, x2, hW4⟩ := HX.out w4 hb4'
      rw [HFA.out] at x1
      obtain ⟨_, hf1, _, hfe⟩ := wld_ok HNE.out
      have hF0 : (0 : Int) < (D.fs.length : Int) := by omega
      have hne : ¬ (D.fs.length : Int) = 0 := by omega
      obtain ⟨G, hG⟩ : ∃ G : Nat, a1 % (D.fs.length : Int) = (G : Int) := ⟨(a1 % (D.fs.length : Int)).toNat, by rw [Int.toNat_of_nonneg (Int.emod_nonneg _ hne)]⟩
      have hGl : G < D.fs.length := by have := Int.emod_lt_of_pos a1 hF0; omega
      have hGl' : (G : Int) < (D.fs.length : Int) := by omega
      obtain ⟨g, hg⟩ : ∃ g, nthF D.fs G = g := ⟨_, rfl⟩
      have hRF := hW4.f
      rw [HFA.out] at hRF
      obtain ⟨b, off, rfl, hbb, z0, z1, z2, z3, z4, z5, z6⟩ := hRF.cells hGl hg
      have hok := hRF.at hGl hg
      have hlt := HLT.out g (hg ▸ nthF_mem hGl)
      have HFE : Hid (fedE g D.ps.length = 0) := hfe g (hg ▸ nthF_mem hGl)
      have hrr := hok.r
      have hlr := hlt.r.1
      have HLR : Hid _ := hlt.r.2
      have HPP : Hid _ := hok.p
      have hpp := hlt.p
      obtain ⟨kd, lk, st, ra, rc, rs, pa, pc, ps, sa, sc, ss, ia, ic, is⟩ := g
      dsimp only at z0 z1 z2 z3 z4 z5 z6 hrr hlr HLR HPP hpp
      clear hg hRF hok hlt hfe hW4
      by_cases hr0 : rs.length = 0
      · have kr : ((rs.length : Int) == 0) = true := by simp [hr0]
        go_wp2_with fail
        go_ret
        exact ⟨rfl, HKEY.out _ hb4'⟩
      · have kr : ((rs.length : Int) == 0) = false := by simpa using hr0
        have hR0 : (0 : Int) < (rs.length : Int) := by omega
        have hrn : ¬ (rs.length : Int) = 0 := by omega
        obtain ⟨Q, hQ⟩ : ∃ Q : Nat, a2 % (rs.length : Int) = (Q : Int) := ⟨(a2 % (rs.length : Int)).toNat, by rw [Int.toNat_of_nonneg (Int.emod_nonneg _ hrn)]⟩
        have hQl : Q < rs.length := by have := Int.emod_lt_of_pos a2 hR0; omega
        have hQl' : (Q : Int) < (rs.length : Int) := by omega
        obtain ⟨r, hr⟩ : ∃ r, nthR rs Q = r := ⟨_, rfl⟩
        obtain ⟨rb, ro, rfl, hrb, r0, r1, r2, r3⟩ := hrr.cells hQl hr
        have hro := (hrr.at hQl hr).2.2
        have HRM : Hid (r ∈ rs) := hr ▸ nthR_mem hQl
        have hrl : r.os.length ≤ 20 := HLR.out r (hr ▸ nthR_mem hQl)
        obtain ⟨rst, rcl, rnx, rsa, rsc, ros⟩ := r
        dsimp only at r0 r1 r2 r3 hro hrl
        have hwa : IntKind.i64.wrap a2 = a2 := by rw [IntKind.wrap_i64]; omega
        have hQt : a2.tmod (rs.length : Int) = (Q : Int) := by rw [Int.tmod_eq_emod_of_nonneg h20]; exact hQ
        clear hr hrr
        go_wp2_with fail
        simp only [hG]
        have HG : Hid _ := hG
        have hbd : Below W0.heap.size W0 w4.drew := hb4'.drew
        clear hG hne hF0
        go_region_held3 (fun w' => w'.cell? ⟨B, 1, none⟩ = some (.slice (some ⟨b, off, none⟩) D.fs.length D.fc) ∧ w'.cell? ⟨b, off + G * 7 + 3, none⟩ = some (.slice (some ⟨rb, ro, none⟩) rs.length rc) ∧ w'.cell? ⟨rb, ro + Q * 4, none⟩ = some (.int .i64 rst) ∧ w'.cell? ⟨rb, ro + Q * 4 + 1, none⟩ = some (.int .i64 rcl) ∧ w'.cell? ⟨rb, ro + Q * 4 + 2, none⟩ = some (.int .i64 rnx) ∧ w'.cell? ⟨rb, ro + Q * 4 + 3, none⟩ = some (.slice rsa ros.length rsc)) (go_keep) (first | fail)
        obtain ⟨W5, hW5⟩ : ∃ W5, W5 = (w4.alloc (.cells #[.int .i64 rst, .int .i64 rcl, .int .i64 rnx, .slice rsa ros.length rsc] 44)).drew := ⟨_, rfl⟩
        have hb45 : Below w4.heap.size w4 W5 := by rw [hW5]; exact (al w4 _).drew
        have hb5 : Below W0.heap.size W0 W5 := hb4'.trans (hb45.mono hb4'.size)
        have y3 : W5.cell? ⟨w4.heap.size, 3, none⟩ = some (.slice rsa ros.length rsc) := by
          rw [hW5]
          show (w4.alloc _).cell? _ = _
          rw [World.cell?_alloc_new]; rfl
        rw [← hW5]
        obtain ⟨RB, hRB⟩ : ∃ RB, w4.heap.size = RB := ⟨_, rfl⟩
        rw [hRB] at y3 ⊢
        obtain ⟨x0, x1, x2, hW5w⟩ := HX.out W5 hb5
        rw [HFA.out] at x1
        have C5 := spread_any W5 D (G : Int) 7 a3 a4 rsa rsc ros hW5w (hro.below hb45) hrl (by omega) (by omega)
        have hsl : (spr D (G : Int) 7 a3 a4 ros).length ≤ 400 := Nat.le_trans (sprF_len hfl _ _ _ _ _ _) (by omega)
        have HSM : Hid (∀ y ∈ spr D (G : Int) 7 a3 a4 ros, a3 + lk ≤ y.t ∧ y.dst ≠ (G : Int) ∧ y.fr = (G : Int) ∧ 7 ≤ y.sq ∧ y.cl ∈ ps ∧ y.dst ∈ rts D (G : Int) y.cl) := fun y hy => later_mem HFE.out HRM.out h30 h31 hy
        have HZZ : Hid (∀ W, Below w4.heap.size w4 W → W.cell? ⟨b, off + G * 7 + 1, none⟩ = some (.int .i64 lk) ∧ W.cell? ⟨b, off + G * 7 + 4, none⟩ = some (.slice pa ps.length pc) ∧ RdI W W.heap.size pa ps) := fun W hW =>
          ⟨(hW.cell (p := ⟨b, off + G * 7 + 1, none⟩) hbb).trans z1, (hW.cell (p := ⟨b, off + G * 7 + 4, none⟩) hbb).trans z4, RdI.belo HPP.out hW⟩
        have hlk : 1 ≤ lk ∧ lk ≤ 1048576 := (fed_ok HFE.out).1
        obtain ⟨L, hL⟩ : ∃ L, spr D (G : Int) 7 a3 a4 ros = L := ⟨_, rfl⟩
        rw [hL] at C5 hsl HSM
        dsimp only [wv] at C5
        rw [HFA.out] at C5
        have HRB : Hid _ := hRB
        clear hW5 hRB hL hW5w hro z0 z1 z2 z3 z4 z5 z6 r0 r1 r2 r3 hQ hQt hwa
        go_wp2_with fail
        refine C5.mono ?_
        rintro e w6 ⟨v6, rfl, hr6⟩
        obtain ⟨a6, c6, rfl, hrd6⟩ := hr6.rd
        have hb46 := hb45.trans (hr6.2.mono hb45.size)
        have HD6 : Hid _ := hrd6
        clear C5 hr6 hrd6 x0 x1 x2 y3
        go_wp2_with fail
        clear hB
        go_loopw [18] (fun s18 wr => ∃ j : Nat, j ≤ L.length ∧ s18 = .int .i64 j ∧ Below w6.heap.size w6 wr) (fun s18 _ => L.length - (intOf s18).toNat)
        case atStart => exact ⟨0, Nat.zero_le _, rfl, Below.refl _ _⟩
        case round =>
          obtain ⟨j, hj, rfl, hbq⟩ := hrel
          have hb4q := hb46.trans (hbq.mono hb46.size)
          have hb0q := hb4'.trans (hb4q.mono hb4'.size)
          by_cases hjl : j < L.length
          · have hj' : (j : Int) < (L.length : Int) := by omega
            obtain ⟨y, hy⟩ : ∃ y, nthM L j = y := ⟨_, rfl⟩
            obtain ⟨s1, s2, s3, s4, s5, s6⟩ := HSM.out y ((memM L y).2 ⟨j, hjl, hy⟩)
            obtain ⟨b1, o1, rfl, hbm, p0, p1, p2, p3, p4, p5⟩ := (RdM.below HD6.out hbq).cells hjl hy
            obtain ⟨t, fr, sq, dst, cl, bd⟩ := y
            dsimp only at s1 s2 s3 s4 s5 s6 p0 p1 p2 p3 p4 p5
            obtain ⟨x0, x1, x2, hWq⟩ := HX.out wr hb0q
            rw [HFA.out] at x1
            obtain ⟨z1, z4, hpr⟩ := HZZ.out wr hb4q
            have d1 : decide (t < a3 + lk) = false := decide_eq_false (by omega)
            have d2 : (dst == (G : Int)) = false := by simpa using s2
            have d3 : (fr != (G : Int)) = false := by simpa using s3
            have d4 : decide (sq < 7) = false := decide_eq_false (by omega)
            have hbd : Below W0.heap.size W0 wr.drew := hb0q.drew
            have H1 : ∀ W, Below wr.heap.size wr W → Calls Try.prog 20 #[.slice pa ps.length pc, .int .i64 cl] W fun e w' => e = .returned (.bool true) ∧ w' = W := fun W hW => by
              have := rhas_any W _ pa pc ps cl (RdI.belo hpr hW) (by omega)
              rwa [decide_eq_true s5] at this
            have HH1 : Hid _ := H1
            have hL2 : (rts D (G : Int) cl).length ≤ 20 := Nat.le_trans (rtsF_len D _ _ _) hfl
            have HR2 := fun W (hW : Below W0.heap.size W0 W) => rroutes_any W D (G : Int) cl (HX.out W hW).ok
            obtain ⟨L2, hL2e⟩ : ∃ L2, rts D (G : Int) cl = L2 := ⟨_, rfl⟩
            simp only [hL2e] at HR2 hL2 s6
            dsimp only [wv] at HR2
            simp only [HFA.out] at HR2
            have HHR : Hid _ := HR2
            have HM2 : Hid _ := s6
            have hw3 : IntKind.i64.wrap a3 = a3 := by rw [IntKind.wrap_i64]; omega
            have hws : IntKind.i64.wrap (a3 + lk) = a3 + lk := by rw [IntKind.wrap_i64]; omega
            have hbr : Below wr.heap.size wr wr.drew := (Below.refl _ wr).drew
            have HSS : Hid (∀ W, Below wr.heap.size wr W → W.cell? ⟨B, 0, none⟩ = some (.slice D.pa D.ps.length D.pc) ∧ W.cell? ⟨B, 1, none⟩ = some (.slice (some ⟨b, off, none⟩) D.fs.length D.fc) ∧ W.cell? ⟨B, 2, none⟩ = some (.int .i64 D.en) ∧ W.cell? ⟨b, off + G * 7 + 1, none⟩ = some (.int .i64 lk) ∧ W.cell? ⟨b, off + G * 7 + 4, none⟩ = some (.slice pa ps.length pc) ∧ W.cell? ⟨b1, o1 + j * 6, none⟩ = some (.int .i64 t) ∧ W.cell? ⟨b1, o1 + j * 6 + 1, none⟩ = some (.int .i64 fr) ∧ W.cell? ⟨b1, o1 + j * 6 + 2, none⟩ = some (.int .i64 sq) ∧ W.cell? ⟨b1, o1 + j * 6 + 3, none⟩ = some (.int .i64 dst) ∧ W.cell? ⟨b1, o1 + j * 6 + 4, none⟩ = some (.int .i64 cl)) := fun W hW => by
              obtain ⟨x0, x1, x2, _⟩ := HX.out W (hb0q.trans (hW.mono hb0q.size))
              rw [HFA.out] at x1
              obtain ⟨z1, z4, _⟩ := HZZ.out W (hb4q.trans (hW.mono hb4q.size))
              exact ⟨x0, x1, x2, z1, z4, (hW.cell (p := ⟨b1, o1 + j * 6, none⟩) hbm).trans p0, (hW.cell (p := ⟨b1, o1 + j * 6 + 1, none⟩) hbm).trans p1, (hW.cell (p := ⟨b1, o1 + j * 6 + 2, none⟩) hbm).trans p2, (hW.cell (p := ⟨b1, o1 + j * 6 + 3, none⟩) hbm).trans p3, (hW.cell (p := ⟨b1, o1 + j * 6 + 4, none⟩) hbm).trans p4⟩
            clear hy H1 HR2 hL2e hpr hWq
            go_wp2_with fail
            dsimp only [List.append]
            go_region_held3 (fun w' => w'.cell? ⟨B, 0, none⟩ = some (.slice D.pa D.ps.length D.pc) ∧ w'.cell? ⟨B, 1, none⟩ = some (.slice (some ⟨b, off, none⟩) D.fs.length D.fc) ∧ w'.cell? ⟨B, 2, none⟩ = some (.int .i64 D.en) ∧ w'.cell? ⟨b, off + G * 7 + 1, none⟩ = some (.int .i64 lk) ∧ w'.cell? ⟨b, off + G * 7 + 4, none⟩ = some (.slice pa ps.length pc) ∧ w'.cell? ⟨b1, o1 + j * 6, none⟩ = some (.int .i64 t) ∧ w'.cell? ⟨b1, o1 + j * 6 + 1, none⟩ = some (.int .i64 fr) ∧ w'.cell? ⟨b1, o1 + j * 6 + 2, none⟩ = some (.int .i64 sq) ∧ w'.cell? ⟨b1, o1 + j * 6 + 3, none⟩ = some (.int .i64 dst) ∧ w'.cell? ⟨b1, o1 + j * 6 + 4, none⟩ = some (.int .i64 cl)) (go_keep) (first
              | (go_at_call 20; refine H2.mono ?_; rintro e w165 ⟨rfl, rfl⟩)
              | (go_at_call 20; refine (HH1.out _ hbr).mono ?_; rintro e w148 ⟨rfl, rfl⟩)
              | (go_at_call 14; refine (HHR.out _ hbd).mono ?_; rintro e w159 ⟨v159, rfl, hr159⟩; obtain ⟨a159, c159, rfl, hrd159⟩ := Row.rd hr159; have hb159 := Below.trans hbr (Below.mono hr159.2 hbr.size); obtain ⟨g0, g1, g2, g3, g4, g5, g6, g7, g8, g9⟩ := HSS.out w159 hb159; have H2 := rhas_any w159 _ a159 c159 L2 dst hrd159 (by omega); rw [decide_eq_true HM2.out] at H2; clear hr159 hrd159))
            all_goals go_wp2
            all_goals go_roundw
            case rel => exact ⟨j + 1, by omega, by go_num, hbq.trans (hb159.mono hbq.size)⟩
            case measure => simp [intOf]; omega
          · obtain rfl : j = L.length := by omega
            go_wp2_with fail
            go_ret
            exact ⟨rfl, HKEY.out _ hb0q⟩
    · have ke : (E == 0) = false := by simpa using e0
      have kn : (E != 0) = true := by simpa using e0
      go_wp2_with fail
      go_ret
      exact ⟨rfl, HKEY.out _ hb4'⟩
end Go.Proofs.Ytpifkoblcbjiiaa
