/- Proved: the walk of the statement that times never fall, and that each federate's keys rise. -/
import Derived.Test.YtpibcfhfhejloaaLw0
import Derived.Deep.CutRange
namespace Go.Proofs.Ytpibcfhfhejloaa
open Go.RowKit Go.Shelf
set_option linter.unusedVariables false

set_option maxRecDepth 100000 in
set_option maxHeartbeats 4000000 in
theorem rises_walk (w : World) (D : Wd) (n : Int) (hp : RdI w w.heap.size D.pa D.ps) (hf : RdF w D.fa D.fs) (hn : 0 ≤ n ∧ n ≤ 255) :
    Calls Try.prog 3 #[wv D, .int .u8 n] w fun e w' => e = .returned (.bool true) ∧ Below w.heap.size w w' := by
  have mixed : Try.prog.follows .mixedOrders = true := by kernel_rfl
  have hb0 := al w (.cells (wcs D) 25)
  obtain ⟨⟨x0, x1, x2⟩, hp1, hf1⟩ := box_of hp hf
  have HV := small_any _ D hp1 hf1
  obtain ⟨B, hB⟩ : ∃ B, w.heap.size = B := ⟨_, rfl⟩
  rw [hB] at x0 x1 x2
  have lB := clt x0
  dsimp only at lB
  cases hh : hvyW D with
  | true =>
    rw [hh] at HV
    dsimp only [wv, wcs] at HV x0 x1 x2 lB hb0 ⊢
    clear hp hf hp1 hf1 hh
    go_enter Try.func3, Try.ntmps3
    go_wp2_with fail
    refine HV.mono ?_
    rintro e w1 ⟨rfl, hb1⟩
    have hb1' := hb0.trans (hb1.mono hb0.size)
    clear HV
    go_wp2_with fail
    refine (shown_any w1).mono ?_
    rintro e w2 ⟨rfl, hb2⟩
    go_wp2_with fail
    go_ret
    exact ⟨rfl, hb1'.trans (hb2.mono hb1'.size)⟩
  | false =>
    have hW := ww_of hp1 hf1 hh
    rw [hh] at HV
    obtain ⟨W0, hW0⟩ : ∃ W0, W0 = w.alloc (.cells (wcs D) 25) := ⟨_, rfl⟩
    rw [← hW0] at HV x0 x1 x2 lB hb0 hW
    have HX : Hid (∀ W, Below W0.heap.size W0 W → BoxW W B D) := fun W hW' => (BoxW.mk x0 x1 x2 hW).below hW'
    obtain ⟨N, E, hNE⟩ : ∃ N E, wldE D = (N, E) := ⟨_, _, rfl⟩
    have HNE : Hid _ := hNE
    have HW0 : Hid _ := hW0
    have HBE : Hid _ := hB
    have HB0 : Hid _ := hb0
    have hfl := hW.fl
    dsimp only [wv, wcs] at HV HW0 ⊢
    rw [HW0.out] at HV x0 x1 x2 lB
    clear hp hf hp1 hf1 hh hW hNE hW0 hb0
    by_cases hE : E = 0
    · subst hE
      have hDen : Hid (OkD D) := okD_of HNE.out
      go_enter Try.func3, Try.ntmps3
      go_wp2_with fail
      refine HV.mono ?_
      rintro e w1 ⟨rfl, hb1⟩
      rw [← HW0.out] at hb1
      clear HV x0 x1 x2 lB
      obtain ⟨x0, x1, x2, hW1⟩ := HX.out w1 hb1
      have lB : B < w1.heap.size := clt x0
      have C1 := Lv.new hb1 hW1 HNE.out
      dsimp only [wv] at C1
      clear hW1
      go_wp2_with fail
      refine C1.mono ?_
      rintro e w2 ⟨rb, rfl, hL2, hb2⟩
      have hb2' := hL2.bel
      clear x0 x1 x2 lB
      obtain ⟨x0, x1, x2, hW2⟩ := HX.out w2 hb2'
      have lB : B < w2.heap.size := clt x0
      have C2 := rwcheck_any w2 D hW2
      rw [HNE.out] at C2
      dsimp only [wv] at C2
      have HL2 : Hid _ := hL2
      clear C1 hW2 hL2 hb1 hb2
      go_wp2_with fail
      refine C2.mono ?_
      rintro e w3 ⟨rfl, hb3⟩
      have S := shown_any w3
      have HL3 : Hid (Lv W0 rb D (newR D) w3) := Lv.below (Hid.out HL2) hb3
      clear C2 x0 x1 x2 lB
      go_wp2_with fail
      refine S.mono ?_
      rintro e w4 ⟨rfl, hb4⟩
      have HL4 : Hid (Lv W0 rb D (newR D) w4) := Lv.below (Hid.out HL3) hb4
      clear S hb3 hb4 hb2'
      obtain ⟨Q, hQ⟩ : ∃ Q : Nat, n % 40 = (Q : Int) := ⟨(n % 40).toNat, by omega⟩
      have hQ2 : Q < 40 := by omega
      have hQt : n.tmod 40 = (Q : Int) := by rw [Int.tmod_eq_emod_of_nonneg hn.1]; exact hQ
      go_wp2_with fail
      go_loopw [9, 10] (fun s9 s10 wr => ∃ (i : Nat) (last : Int) (r : Rn), s9 = .int .i64 last ∧ s10 = .int .i64 i ∧ i ≤ Q ∧ Lv W0 rb D r wr ∧ Hid (r.dn.length ≤ i) ∧ Hid (last = 0 ∨ ∃ e ∈ r.dn, last = e.m.t)) (fun _ s10 _ => Q - (intOf s10).toNat)
      case atStart => exact ⟨0, 0, newR D, rfl, rfl, Nat.zero_le _, HL4.out, (Nat.le_refl _ : (newR D).dn.length ≤ 0), (.inl rfl : (0 : Int) = 0 ∨ _)⟩
      case round =>
        obtain ⟨i, last, r, rfl, rfl, hi, hL, HD, HLA⟩ := hrel
        obtain ⟨x0, x1, x2, _⟩ := HX.out wr hL.bel
        have lB : B < wr.heap.size := clt x0
        by_cases hiQ : i < Q
        · have hiQ' : (i : Int) < (Q : Int) := by omega
          cases hx : nxt D r with
          | none =>
            have C := hL.no hx
            have HLL : Hid _ := hL
            dsimp only [dv] at C
            clear hL hx
            go_wp2_with (go_at_call 9; refine C.mono ?_; rintro e w5 ⟨rfl, hL5⟩; have HL5 : Hid _ := hL5; clear hL5)
            go_roundw
            case rel => exact ⟨i + 1, last, r, rfl, by go_num, by omega, Lv.below (Hid.out HL5) (al w5 _), (Nat.le_succ_of_le HD.out : r.dn.length ≤ i + 1), HLA.out⟩
            case measure => simp [intOf]; omega
          | some p =>
            have C := hL.yes hx (by have := HD.out; omega)
            have hlat := nxt_later hL.inv hx
            obtain ⟨rp, dp⟩ := p
            dsimp only [dv] at C hlat
            obtain ⟨g1, g2, g3, g4, g5, g6⟩ := hlat
            have hge : last ≤ dp.m.t := by
              rcases HLA.out with e | ⟨e', he, e⟩
              · omega
              · rw [e]; exact g1 e' he
            have d1 : decide (dp.m.t < last) = false := decide_eq_false (by omega)
            have d2 : decide (dp.m.t ≥ D.en) = false := decide_eq_false (by omega)
            have d3 : decide (dp.m.dst < 0) = false := decide_eq_false (by omega)
            have d4 : decide (dp.m.dst ≥ (D.fs.length : Int)) = false := decide_eq_false (by omega)
            have k1 : ¬ dp.m.t < last := by omega
            have k2 : ¬ D.en ≤ dp.m.t := by omega
            have k3 : ¬ dp.m.dst < 0 := by omega
            have k4 : ¬ (D.fs.length : Int) ≤ dp.m.dst := by omega
            have HG1 : Hid _ := g1
            have HG6 : Hid _ := g6
            have HBB : Hid (∀ W, Lv W0 rb D rp W → W.cell? ⟨B, 1, none⟩ = some (.slice D.fa D.fs.length D.fc) ∧ W.cell? ⟨B, 2, none⟩ = some (.int .i64 D.en) ∧ B < W.heap.size) := fun W hW => by
              obtain ⟨_, y1, y2, _⟩ := HX.out W hW.bel
              exact ⟨y1, y2, clt y1⟩
            clear hL hx g1 g6
            go_wp2_with (go_at_call 9; refine C.mono ?_; rintro e w5 ⟨rfl, hL5⟩; obtain ⟨y1, y2, lB5⟩ := HBB.out w5 hL5; have HL5 : Hid _ := hL5; clear hL5)
            go_roundw
            case rel =>
              refine ⟨i + 1, dp.m.t, rp, rfl, by go_num, by omega, Lv.below (Hid.out HL5) (al w5 _), ?_, ?_⟩
              · show rp.dn.length ≤ i + 1
                rw [HG6.out]
                have := HD.out
                simp
                omega
              · exact (.inr ⟨dp, by rw [HG6.out]; simp, rfl⟩ : dp.m.t = 0 ∨ ∃ e ∈ rp.dn, dp.m.t = e.m.t)
            case measure => simp [intOf]; omega
        · have hnQ : ¬ (i : Int) < (Q : Int) := by omega
          have hdn : r.dn.length ≤ 40 := by have := HD.out; omega
          have HLL : Hid _ := hL
          clear hL HLA HD
          go_wp2_with fail
          go_loopw [13] (fun s13 wx => ∃ (f : Nat), s13 = .int .i64 f ∧ f ≤ D.fs.length ∧ Lv W0 rb D r wx) (fun s13 _ => D.fs.length - (intOf s13).toNat)
          case atStart => exact ⟨0, rfl, Nat.zero_le _, HLL.out⟩
          case round =>
            clear x0 x1 x2 lB HLL
            obtain ⟨f, rfl, hf, hL⟩ := hrel
            obtain ⟨x0, x1, x2, _⟩ := HX.out wr hL.bel
            have lB : B < wr.heap.size := clt x0
            by_cases hfl2 : f < D.fs.length
            · have hf' : (f : Int) < (D.fs.length : Int) := by omega
              have C := hL.log (f : Int) (by omega)
              have HR : Hid (∀ i j, i < j → j < (logR r (f : Int)).length → kcmp (ky (nthD (logR r (f : Int)) i).m) (ky (nthD (logR r (f : Int)) j).m) < 0) := fun i j h1 h2 => kcmp_lt (log_rises hL.inv (f : Int) h1 h2)
              have hlen : (logR r (f : Int)).length ≤ 40 := Nat.le_trans (logR_le _ _) hdn
              obtain ⟨l, hl⟩ : ∃ l, logR r (f : Int) = l := ⟨_, rfl⟩
              rw [hl] at C HR hlen
              have HLL : Hid _ := hL
              clear hL hl
              go_wp2_with fail
              refine C.mono ?_
              rintro e w5 ⟨a, c, rfl, hD, hb5⟩
              have HL5 : Hid (Lv W0 rb D r w5) := Lv.below (Hid.out HLL) hb5
              have HD5 : Hid _ := hD
              clear C hD hb5 x0 x1 x2 lB HLL
              go_wp2_with fail
              go_loopw [15] (fun s15 wy => ∃ (j : Nat), s15 = .int .i64 j ∧ 1 ≤ j ∧ j ≤ l.length + 1 ∧ Below w5.heap.size w5 wy) (fun s15 _ => l.length + 1 - (intOf s15).toNat)
              case atStart => exact ⟨1, rfl, Nat.le_refl _, by omega, Below.refl _ _⟩
              case round =>
                obtain ⟨j, rfl, hj1, hj2, hbw⟩ := hrel
                by_cases hjl : j < l.length
                · have hj' : (j : Int) < (l.length : Int) := by omega
                  have j1 : (1 : Int) ≤ (j : Int) := by omega
                  obtain ⟨i, rfl⟩ : ∃ i, j = i + 1 := ⟨j - 1, by omega⟩
                  have ei : ((i + 1 : Nat) : Int) - 1 = (i : Int) := by omega
                  have hw1 : IntKind.i64.wrap (i : Int) = (i : Int) := by rw [IntKind.wrap_i64]; omega
                  have hw2 : IntKind.i64.wrap ((i : Int) + 1 - 1) = (i : Int) := by rw [IntKind.wrap_i64]; omega
                  have hi1 : (i : Int) < (l.length : Int) := by omega
                  have hi2 : (i : Int) + 1 < (l.length : Int) := by omega
                  have h01 : (0 : Int) ≤ (i : Int) + 1 := by omega
                  have h02 : (0 : Int) ≤ (i : Int) := by omega
                  have h03 : ((i : Int) + 1).toNat = i + 1 := by omega
                  have h04 : ¬ (i : Int) + 1 < 0 := by omega
                  obtain ⟨x, hx⟩ : ∃ x, nthD l i = x := ⟨_, rfl⟩
                  obtain ⟨y, hy⟩ : ∃ y, nthD l (i + 1) = y := ⟨_, rfl⟩
                  have hrd := RdD.below HD5.out hbw
                  obtain ⟨b, off, rfl, hbb, p0, p1, p2, p3, p4, p5, p6⟩ := hrd.cells (i := i) (by omega) hx
                  obtain ⟨b', off', e', _, q0, q1, q2, q3, q4, q5, q6⟩ := hrd.cells hjl hy
                  simp at e'
                  obtain ⟨rfl, rfl⟩ := e'
                  have hk := HR.out i (i + 1) (by omega) hjl
                  rw [hx, hy] at hk
                  have K := fun W => refcmp_any (ky x.m) (ky y.m) W
                  obtain ⟨kk, hkk⟩ : ∃ kk, kcmp (ky x.m) (ky y.m) = kk := ⟨_, rfl⟩
                  rw [hkk] at hk
                  simp only [hkk] at K
                  have kn : ¬ 0 ≤ kk := by omega
                  have kd : decide (kk ≥ 0) = false := decide_eq_false (by omega)
                  have HK : Hid _ := K
                  dsimp only [kv, ky] at HK
                  have HZ : Hid (∀ W, Below wr.heap.size wr W → W.cell? ⟨b, off + i * 7, none⟩ = some (.int .i64 x.m.t) ∧ W.cell? ⟨b, off + i * 7 + 1, none⟩ = some (.int .i64 x.m.fr) ∧ W.cell? ⟨b, off + i * 7 + 2, none⟩ = some (.int .i64 x.m.sq) ∧ W.cell? ⟨b, off + (i + 1) * 7, none⟩ = some (.int .i64 y.m.t) ∧ W.cell? ⟨b, off + (i + 1) * 7 + 1, none⟩ = some (.int .i64 y.m.fr) ∧ W.cell? ⟨b, off + (i + 1) * 7 + 2, none⟩ = some (.int .i64 y.m.sq)) := fun W hW => ⟨(hW.cell (p := ⟨b, off + i * 7, none⟩) hbb).trans p0, (hW.cell (p := ⟨b, off + i * 7 + 1, none⟩) hbb).trans p1, (hW.cell (p := ⟨b, off + i * 7 + 2, none⟩) hbb).trans p2, (hW.cell (p := ⟨b, off + (i + 1) * 7, none⟩) hbb).trans q0, (hW.cell (p := ⟨b, off + (i + 1) * 7 + 1, none⟩) hbb).trans q1, (hW.cell (p := ⟨b, off + (i + 1) * 7 + 2, none⟩) hbb).trans q2⟩
                  have HBW : Hid _ := hbw
                  clear hx hy hrd hk hkk K p3 p4 p5 p6 q3 q4 q5 q6 hbw
                  go_wp2_with fail
                  go_region_held3 (fun w' => w'.cell? ⟨b, off + i * 7, none⟩ = some (.int .i64 x.m.t) ∧ w'.cell? ⟨b, off + i * 7 + 1, none⟩ = some (.int .i64 x.m.fr) ∧ w'.cell? ⟨b, off + i * 7 + 2, none⟩ = some (.int .i64 x.m.sq) ∧ w'.cell? ⟨b, off + (i + 1) * 7, none⟩ = some (.int .i64 y.m.t) ∧ w'.cell? ⟨b, off + (i + 1) * 7 + 1, none⟩ = some (.int .i64 y.m.fr) ∧ w'.cell? ⟨b, off + (i + 1) * 7 + 2, none⟩ = some (.int .i64 y.m.sq)) (go_keep) (first
                    | (go_at_call 11; refine (HK.out _).mono ?_; rintro e w6 ⟨rfl, hb6⟩; have hb6' := ((Below.refl _ wr).drew).trans hb6; obtain ⟨t0, t1, t2, t3, t4, t5⟩ := HZ.out w6 hb6'; have HB6 : Hid _ := hb6'; clear hb6 hb6'))
                  go_wp2_with fail
                  go_roundw
                  case rel => exact ⟨i + 1 + 1, by go_num, by omega, by omega, (HBW.out).trans ((HB6.out).mono (HBW.out).size)⟩
                  case measure => simp [intOf]; omega
                · have hnj : ¬ (j : Int) < (l.length : Int) := by omega
                  have HBW : Hid _ := hbw
                  clear hbw
                  go_wp2_with fail
                  go_roundw
                  case rel => exact ⟨f + 1, by go_num, by omega, Lv.below (Hid.out HL5) HBW.out⟩
                  case measure => simp [intOf]; omega
            · obtain rfl : f = D.fs.length := by omega
              have HLL : Hid _ := hL
              clear hL
              go_wp2_with fail
              go_ret
              exact ⟨rfl, (HB0.out).trans ((Lv.bel (Hid.out HLL)).mono (HB0.out).size)⟩
    · have k1 : (E != 0) = true := by simpa using hE
      go_enter Try.func3, Try.ntmps3
      go_wp2_with fail
      refine HV.mono ?_
      rintro e w1 ⟨rfl, hb1⟩
      rw [← HW0.out] at hb1
      clear HV x0 x1 x2 lB
      obtain ⟨x0, x1, x2, hW1⟩ := HX.out w1 hb1
      have lB : B < w1.heap.size := clt x0
      have C1 := new_bad hW1 HNE.out hE
      dsimp only [wv] at C1
      clear hW1
      go_wp2_with fail
      refine C1.mono ?_
      rintro e w2 ⟨rfl, hb2⟩
      have hb2' := hb1.trans (hb2.mono hb1.size)
      clear x0 x1 x2 lB
      obtain ⟨x0, x1, x2, hW2⟩ := HX.out w2 hb2'
      have lB : B < w2.heap.size := clt x0
      have C2 := rwcheck_any w2 D hW2
      rw [HNE.out] at C2
      dsimp only [wv] at C2
      clear C1 hW2 hb1 hb2
      go_wp2_with fail
      refine C2.mono ?_
      rintro e w3 ⟨rfl, hb3⟩
      have hb3' := hb2'.trans (hb3.mono hb2'.size)
      have S := shown_any w3
      clear C2 x0 x1 x2 lB
      go_wp2_with fail
      refine S.mono ?_
      rintro e w4 ⟨rfl, hb4⟩
      have hb4' := hb3'.trans (hb4.mono hb3'.size)
      go_wp2_with fail
      go_ret
      exact ⟨rfl, (HB0.out).trans (hb4'.mono (HB0.out).size)⟩
end Go.Proofs.Ytpibcfhfhejloaa
