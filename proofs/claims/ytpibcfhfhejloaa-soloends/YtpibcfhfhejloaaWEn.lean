/- Proved: the walk of the statement on a federation that ends earlier. -/
import Derived.Test.YtpibcfhfhejloaaLw0
namespace Go.Proofs.Ytpibcfhfhejloaa
open Go.RowKit Go.Shelf
set_option linter.unusedVariables false

theorem endD_ok {D : Wd} {N : Int} (h : wldE D = (N, 0)) {e : Int} (h0 : 0 ≤ e) (h1 : e ≤ 1099511627776) : wldE (endD D e) = (N, 0) := by
  have hok := wld_ok h
  unfold wldE at h ⊢
  split at h
  · rename_i g
    have e2 := fstE_zero (l := [chk D.ps, unl (wi D.en 0 1099511627776 && wi D.fs.length 1 8) 1]) g
    have g1 := e2 _ (by simp : chk D.ps ∈ _)
    have g2 : wi (D.fs.length : Int) 1 8 = true := by unfold wi; exact decide_eq_true (by omega)
    have g3 : wi e 0 1099511627776 = true := by unfold wi; exact decide_eq_true (by omega)
    have g4 : allE (endD D e) = 0 := by
      show fstE [chk D.ps, unl (wi e 0 1099511627776 && wi D.fs.length 1 8) 1] = 0
      rw [g1, g2, g3]
      rfl
    rw [if_pos g4]
    exact h
  · rename_i g
    exact absurd (congrArg Prod.snd h) g
/-- Two runs beside each other, and the box of the federation that ends earlier. -/
structure LE (w0 : World) (VB : Nat) (D D2 : Wd) (rb1 rb2 : Nat) (r1 r2 : Rn) (W : World) : Prop where
  two : L2 w0 W (fun k => k = VB) (RunF rb1 D r1) (RunF rb2 D2 r2)
  bx : W.heap[VB]? = some (.cells (wcs D2) 25 (0, 0))
theorem LE.bel {w0 : World} {VB : Nat} {D D2 : Wd} {rb1 rb2 : Nat} {r1 r2 : Rn} {W : World} (h : LE w0 VB D D2 rb1 rb2 r1 r2 W) : Below w0.heap.size w0 W := h.two.bel
theorem LE.below {w0 : World} {VB : Nat} {D D2 : Wd} {rb1 rb2 : Nat} {r1 r2 : Rn} {W W' : World} (h : LE w0 VB D D2 rb1 rb2 r1 r2 W) (hb : Below W.heap.size W W') : LE w0 VB D D2 rb1 rb2 r1 r2 W' :=
  ⟨h.two.below (thR _ _ _) (thR _ _ _) hb, (hb.block VB (Array.getElem?_eq_some_iff.1 h.bx).1).trans h.bx⟩
theorem LE.stepsA {w0 : World} {VB : Nat} {D D2 : Wd} {rb1 rb2 : Nat} {r1 r2 : Rn} {W : World} (h : LE w0 VB D D2 rb1 rb2 r1 r2 W) (N : Nat) (hN : r1.dn.length + N ≤ 500) :
    Calls Try.prog 12 #[.pointer (some ⟨rb1, 0, none⟩), .int .i64 N] W fun e w' => e = .returned (.int .i64 (stpsR D N r1).1) ∧ LE w0 VB D D2 rb1 rb2 (stpsR D N r1).2 r2 w' :=
  (h.two.callP (thR _ _ _) (fun F hF => steps_any hF N hN)).mono fun e w' ⟨h1, h2, h3⟩ => ⟨h1, h2, (h3.block VB (Array.getElem?_eq_some_iff.1 h.bx).1 (fun g => g rfl)).trans h.bx⟩
theorem LE.stepsB {w0 : World} {VB : Nat} {D D2 : Wd} {rb1 rb2 : Nat} {r1 r2 : Rn} {W : World} (h : LE w0 VB D D2 rb1 rb2 r1 r2 W) (N : Nat) (hN : r2.dn.length + N ≤ 500) :
    Calls Try.prog 12 #[.pointer (some ⟨rb2, 0, none⟩), .int .i64 N] W fun e w' => e = .returned (.int .i64 (stpsR D2 N r2).1) ∧ LE w0 VB D D2 rb1 rb2 r1 (stpsR D2 N r2).2 w' :=
  (h.two.callQ (thR _ _ _) (fun F hF => steps_any hF N hN)).mono fun e w' ⟨h1, h2, h3⟩ => ⟨h1, h2, (h3.block VB (Array.getElem?_eq_some_iff.1 h.bx).1 (fun g => g rfl)).trans h.bx⟩
theorem LE.logA {w0 : World} {VB : Nat} {D D2 : Wd} {rb1 rb2 : Nat} {r1 r2 : Rn} {W : World} (h : LE w0 VB D D2 rb1 rb2 r1 r2 W) (f : Int) (hl : r1.dn.length ≤ 5000) :
    Calls Try.prog 10 #[.pointer (some ⟨rb1, 0, none⟩), .int .i64 f] W fun e w' => ∃ a c, e = .returned (.slice a (logR r1 f).length c) ∧ RdD w' a (logR r1 f) ∧ Below W.heap.size W w' := by
  obtain ⟨F, hF⟩ := h.two.seeP
  exact log_any hF f hl
theorem LE.logB {w0 : World} {VB : Nat} {D D2 : Wd} {rb1 rb2 : Nat} {r1 r2 : Rn} {W : World} (h : LE w0 VB D D2 rb1 rb2 r1 r2 W) (f : Int) (hl : r2.dn.length ≤ 5000) :
    Calls Try.prog 10 #[.pointer (some ⟨rb2, 0, none⟩), .int .i64 f] W fun e w' => ∃ a c, e = .returned (.slice a (logR r2 f).length c) ∧ RdD w' a (logR r2 f) ∧ Below W.heap.size W w' := by
  obtain ⟨F, hF⟩ := h.two.seeQ
  exact log_any hF f hl
theorem LE.newB {w0 W : World} {VB : Nat} {D D2 : Wd} {rb1 : Nat} {r1 : Rn} (h : Lv w0 rb1 D r1 W) (W5 : World) (hb : Below W.heap.size W W5) (hVB : W.heap.size ≤ VB) (hx : W5.heap[VB]? = some (.cells (wcs D2) 25 (0, 0))) (hw : Ww W5 D2) {N : Int} (hE : wldE D2 = (N, 0)) :
    Calls Try.prog 7 #[wv D2] W5 fun e w' => ∃ rb2, e = .returned (.tuple #[.pointer (some ⟨rb2, 0, none⟩), .int .i64 0]) ∧ LE w0 VB D D2 rb1 rb2 r1 (newR D2) w' := by
  obtain ⟨F, h1, h2, h3⟩ := h
  refine (new_ok hw hE).mono fun e w' ⟨rb2, G, e1, e2, e3, e4⟩ => ⟨rb2, e1, ⟨F, G, ?_, e2, ?_, h2, ?_, ?_, ?_⟩, ?_⟩
  · exact (thR _ _ _).below ((thR _ _ _).below h1 hb) e4
  · intro k hk hg
    have := (thR _ _ _).lt h1 k hk
    have := e3 k hg
    have := hb.size
    omega
  · intro k hk
    have := e3 k hk
    have := hb.size
    have := h3.size
    omega
  · have h5 := h3.trans (hb.mono h3.size)
    exact h5.trans (e4.mono h5.size)
  · rintro k rfl
    have lV := (Array.getElem?_eq_some_iff.1 hx).1
    have s4 := e4.size
    have s3 := h3.size
    exact ⟨fun g => by have := (thR _ _ _).lt h1 _ g; omega, fun g => by have := e3 _ g; omega, by omega, by omega⟩
  · exact (e4.block VB (Array.getElem?_eq_some_iff.1 hx).1).trans hx
theorem nthD_app_left {a b : List Dn} {i : Nat} (h : i < a.length) : nthD (a ++ b) i = nthD a i := by simp [nthD, List.getElem?_append_left h]
theorem nthD_app_right {a b : List Dn} {i : Nat} (h : a.length ≤ i) (h2 : i < (a ++ b).length) : nthD (a ++ b) i ∈ b := by
  have h3 : i - a.length < b.length := by simp at h2; omega
  have : nthD (a ++ b) i = b[i - a.length] := by simp [nthD, List.getElem?_append_right h, h3]
  rw [this]
  exact List.getElem_mem _

set_option maxRecDepth 100000 in
set_option maxHeartbeats 4000000 in
theorem ends_walk (w : World) (D : Wd) (n : Int) (hp : RdI w w.heap.size D.pa D.ps) (hf : RdF w D.fa D.fs) (hn : 0 ≤ n ∧ n ≤ 255) :
    Calls Try.prog 4 #[wv D, .int .u8 n] w fun e w' => e = .returned (.bool true) ∧ Below w.heap.size w w' := by
  have mixed : Try.prog.follows .mixedOrders = true := by kernel_rfl
  have hb0 := al w (.cells (wcs D) 25)
  obtain ⟨⟨x0, x1, x2⟩, hp1, hf1⟩ := box_of hp hf
  have HV := small_any _ D hp1 hf1
  obtain ⟨B, hB⟩ : ∃ B, w.heap.size = B := ⟨_, rfl⟩
  rw [hB] at x0 x1 x2
  have lB := clt x0
  dsimp only at lB
  cases hh : hvyW D with
  | true =>
    rw [hh] at HV
    dsimp only [wv, wcs] at HV x0 x1 x2 lB hb0 ⊢
    clear hp hf hp1 hf1 hh
    go_enter Try.func4, Try.ntmps4
    go_wp2_with fail
    refine HV.mono ?_
    rintro e w1 ⟨rfl, hb1⟩
    have hb1' := hb0.trans (hb1.mono hb0.size)
    clear HV
    go_wp2_with fail
    refine (shown_any w1).mono ?_
    rintro e w2 ⟨rfl, hb2⟩
    go_wp2_with fail
    go_ret
    exact ⟨rfl, hb1'.trans (hb2.mono hb1'.size)⟩
  | false =>
    have hW := ww_of hp1 hf1 hh
    rw [hh] at HV
    obtain ⟨W0, hW0⟩ : ∃ W0, W0 = w.alloc (.cells (wcs D) 25) := ⟨_, rfl⟩
    rw [← hW0] at HV x0 x1 x2 lB hb0 hW
    have HX : Hid (∀ W, Below W0.heap.size W0 W → BoxW W B D) := fun W hW' => (BoxW.mk x0 x1 x2 hW).below hW'
    obtain ⟨N, E, hNE⟩ : ∃ N E, wldE D = (N, E) := ⟨_, _, rfl⟩
    have HNE : Hid _ := hNE
    have HW0 : Hid _ := hW0
    have HBE : Hid _ := hB
    have HB0 : Hid _ := hb0
    have hfl := hW.fl
    dsimp only [wv, wcs] at HV HW0 ⊢
    rw [HW0.out] at HV x0 x1 x2 lB
    have HXB : Hid (∀ W, Below W0.heap.size W0 W → W.cell? ⟨B, 0, none⟩ = some (.slice D.pa D.ps.length D.pc) ∧ W.cell? ⟨B, 1, none⟩ = some (.slice D.fa D.fs.length D.fc) ∧ W.cell? ⟨B, 2, none⟩ = some (.int .i64 D.en) ∧ B < W.heap.size) := fun W hW' => by
      obtain ⟨y0, y1, y2, _⟩ := HX.out W hW'
      exact ⟨y0, y1, y2, clt y0⟩
    clear hp hf hp1 hf1 hh hW hNE hW0 hb0
    by_cases hbig : D.en > 60
    · have d0 : decide (D.en > 60) = true := decide_eq_true hbig
      have d1 : (60 : Int) < D.en := hbig
      go_enter Try.func4, Try.ntmps4
      go_wp2_with fail
      refine HV.mono ?_
      rintro e w1 ⟨rfl, hb1⟩
      rw [← HW0.out] at hb1
      obtain ⟨y0, y1, y2, y3⟩ := HXB.out w1 hb1
      clear HV x0 x1 x2 lB
      go_wp2_with fail
      refine (shown_any w1).mono ?_
      rintro e w2 ⟨rfl, hb2⟩
      have h1 := (HB0.out).trans (hb1.mono (HB0.out).size)
      go_wp2_with fail
      go_ret
      exact ⟨rfl, h1.trans (hb2.mono h1.size)⟩
    have d0 : decide (D.en > 60) = false := decide_eq_false hbig
    have d1 : ¬ (60 : Int) < D.en := hbig
    by_cases hE : E = 0
    · subst hE
      have hok : Hid (OkD D) := okD_of HNE.out
      have hen0 : 0 ≤ D.en := by
        have h1 := HNE.out
        unfold wldE at h1
        split at h1
        · rename_i g
          have e2 := fstE_zero (l := [chk D.ps, unl (wi D.en 0 1099511627776 && wi D.fs.length 1 8) 1]) g
          have h2 := unl_zero (by decide) (e2 _ (by simp : unl (wi D.en 0 1099511627776 && wi D.fs.length 1 8) 1 ∈ _))
          rw [Bool.and_eq_true] at h2
          exact (of_decide_eq_true h2.1).1
        · rename_i g
          exact absurd (congrArg Prod.snd h1) g
      obtain ⟨Q, hQ⟩ : ∃ Q : Nat, n % 60 = (Q : Int) := ⟨(n % 60).toNat, by omega⟩
      have hQ2 : Q < 60 := by omega
      have hQt : n.tmod 60 = (Q : Int) := by rw [Int.tmod_eq_emod_of_nonneg hn.1]; exact hQ
      obtain ⟨e2, he2⟩ : ∃ e2 : Int, min D.en (Q : Int) = e2 := ⟨_, rfl⟩
      have he3 : e2 ≤ D.en ∧ 0 ≤ e2 := by omega
      have hEN2 : Hid (wldE (endD D e2) = (N, 0)) := endD_ok HNE.out he3.2 (by omega)
      have HW2 : Hid (∀ W, Ww W D → Ww W (endD D e2)) := fun W hW => ⟨hW.p, hW.f, hW.pl, hW.fl, hW.lt⟩
      go_enter Try.func4, Try.ntmps4
      go_wp2_with fail
      refine HV.mono ?_
      rintro e w1 ⟨rfl, hb1⟩
      rw [← HW0.out] at hb1
      clear HV x0 x1 x2 lB
      obtain ⟨x0, x1, x2, lB⟩ := HXB.out w1 hb1
      have hW1 := (HX.out w1 hb1).ok
      have C1 := Lv.new hb1 hW1 HNE.out
      dsimp only [wv] at C1
      clear hW1
      go_wp2_with fail
      refine C1.mono ?_
      rintro e w2 ⟨rb, rfl, hL2, hb2⟩
      clear x0 x1 x2 lB
      obtain ⟨x0, x1, x2, lB⟩ := HXB.out w2 hL2.bel
      have C2 := rwcheck_any w2 D (HX.out w2 hL2.bel).ok
      rw [HNE.out] at C2
      dsimp only [wv] at C2
      have HL2 : Hid _ := hL2
      clear C1 hL2 hb1 hb2
      go_wp2_with fail
      refine C2.mono ?_
      rintro e w3 ⟨rfl, hb3⟩
      have S := shown_any w3
      have HL3 : Hid (Lv W0 rb D (newR D) w3) := Lv.below (Hid.out HL2) hb3
      clear C2 x0 x1 x2 lB
      go_wp2_with fail
      refine S.mono ?_
      rintro e w4 ⟨rfl, hb4⟩
      have hL4 : Lv W0 rb D (newR D) w4 := Lv.below (Hid.out HL3) hb4
      obtain ⟨x0, x1, x2, lB⟩ := HXB.out w4 hL4.bel
      have hW4 := (HX.out w4 hL4.bel).ok
      have hb5 := al w4 (.cells (wcs (endD D e2)) 25)
      have bx5 := World.alloc_heap_new w4 (.cells (wcs (endD D e2)) 25)
      have C3 := LE.newB (VB := w4.heap.size) hL4 _ hb5 (Nat.le_refl _) bx5 (HW2.out _ (hW4.below hb5)) hEN2.out
      dsimp only [wv, wcs, endD] at C3
      clear S hb3 hb4 hL4 hW4 hb5 bx5
      go_wp2_with fail
      refine C3.mono ?_
      rintro e w5 ⟨rb2, rfl, hLE⟩
      obtain ⟨VB, hVB⟩ : ∃ VB, w4.heap.size = VB := ⟨_, rfl⟩
      rw [hVB] at hLE ⊢
      have hLE : LE W0 VB D (endD D e2) rb rb2 (newR D) (newR (endD D e2)) w5 := hLE
      have C4 := hLE.stepsA 80 (by show 0 + 80 ≤ 500; omega)
      rw [endD_new] at hLE
      have HEnd : Hid (∀ r1 r2 W, LE W0 VB D (endD D e2) rb rb2 r1 r2 W → W.cell? ⟨B, 1, none⟩ = some (.slice D.fa D.fs.length D.fc) ∧ W.cell? ⟨VB, 2, none⟩ = some (.int .i64 e2) ∧ B < W.heap.size ∧ VB < W.heap.size) := fun r1 r2 W hW => by
        obtain ⟨_, y1, _, y3⟩ := HXB.out W hW.bel
        have y2 : W.cell? ⟨VB, 2, none⟩ = some (.int .i64 e2) := by have := hW.bx; simp [World.cell?, this, wcs, endD]
        exact ⟨y1, y2, y3, clt y2⟩
      obtain ⟨NA, hNA⟩ : ∃ NA, stpsR D 80 (newR D) = NA := ⟨_, rfl⟩
      obtain ⟨NB, hNB⟩ : ∃ NB, stpsR (endD D e2) 80 (newR D) = NB := ⟨_, rfl⟩
      have hla := stps_le D 80 (newR D)
      have hlb := stps_le (endD D e2) 80 (newR D)
      have hda := stps_dn D 80 (newR D)
      have hdb := stps_dn (endD D e2) 80 (newR D)
      rw [hNA] at hla hda C4
      rw [hNB] at hlb hdb
      have hdn0 : (newR D).dn.length = 0 := rfl
      have hda2 : NA.2.dn.length ≤ 80 := by omega
      have hdb2 : NB.2.dn.length ≤ 80 := by omega
      have HNA : Hid _ := hNA
      have HNB : Hid _ := hNB
      rw [endD_new] at C4
      clear hLE hVB C3 x0 x1 x2 lB hNA hNB hda hdb hdn0
      go_wp2_with fail
      refine C4.mono ?_
      rintro e w6 ⟨rfl, hLE6⟩
      have C5 := hLE6.stepsB 80 (by show 0 + 80 ≤ 500; omega)
      rw [HNB.out] at C5
      clear C4 hLE6
      go_wp2_with fail
      refine C5.mono ?_
      rintro e w7 ⟨rfl, hLE7⟩
      have HLE7 : Hid _ := hLE7
      clear C5
      by_cases h80 : NA.1 = 80
      · have k1 : ((NA.1 : Int) == 80) = true := by simp [h80]
        have k2 : (NA.1 : Int) = 80 := by omega
        clear hLE7
        go_wp2_with fail
        go_ret
        exact ⟨rfl, (HB0.out).trans ((LE.bel (Hid.out HLE7)).mono (HB0.out).size)⟩
      · have k1 : ((NA.1 : Int) == 80) = false := by simp; omega
        have k1' : ¬ (NA.1 : Int) = 80 := by omega
        by_cases h81 : NB.1 = 80
        · have k2 : ((NB.1 : Int) == 80) = true := by simp [h81]
          have k2' : (NB.1 : Int) = 80 := by omega
          clear hLE7
          go_wp2_with fail
          go_ret
          exact ⟨rfl, (HB0.out).trans ((LE.bel (Hid.out HLE7)).mono (HB0.out).size)⟩
        · have k2 : ((NB.1 : Int) == 80) = false := by simp; omega
          have k2' : ¬ (NB.1 : Int) = 80 := by omega
          have HLG : Hid (∀ f : Int, ∃ ext, logR NA.2 f = logR NB.2 f ++ ext ∧ (∀ d ∈ logR NB.2 f, d.m.t < e2) ∧ ∀ d ∈ ext, e2 ≤ d.m.t) := fun f => by
            have := ends_log (D := D) hok.out (e := e2) he3.1 (okD_of hEN2.out) (n := 80) (m := 80) (by rw [HNA.out]; omega) (by rw [HNB.out]; omega) f
            rw [HNA.out, HNB.out] at this
            exact this
          clear hLE7 h80 h81
          go_wp2_with fail
          go_loopw [14] (fun s14 wr => ∃ (f : Nat), s14 = .int .i64 f ∧ f ≤ D.fs.length ∧ LE W0 VB D (endD D e2) rb rb2 NA.2 NB.2 wr) (fun s14 _ => D.fs.length - (intOf s14).toNat)
          case atStart => exact ⟨0, rfl, Nat.zero_le _, HLE7.out⟩
          case round =>
            clear HLE7
            obtain ⟨f, rfl, hf, hL⟩ := hrel
            obtain ⟨y1, y2, l1, l2⟩ := HEnd.out _ _ _ hL
            by_cases hfl2 : f < D.fs.length
            · have hf' : (f : Int) < (D.fs.length : Int) := by omega
              have CA := hL.logA (f : Int) (by omega)
              obtain ⟨ext, g1, g2, g3⟩ := HLG.out (f : Int)
              obtain ⟨q, hq⟩ : ∃ q, logR NB.2 (f : Int) = q := ⟨_, rfl⟩
              obtain ⟨p, hpp⟩ : ∃ p, logR NA.2 (f : Int) = p := ⟨_, rfl⟩
              rw [hq] at g1 g2
              rw [hpp] at g1 CA
              have hlp : p.length ≤ 80 := by rw [← hpp]; exact Nat.le_trans (logR_le _ _) hda2
              have hql : q.length ≤ p.length := by rw [g1]; simp
              have HLL : Hid _ := hL
              have HQ : Hid _ := hq
              have HG1 : Hid _ := g1
              have HG2 : Hid _ := g2
              have HG3 : Hid _ := g3
              clear hL hq hpp g1 g2 g3
              go_wp2_with fail
              refine CA.mono ?_
              rintro e w8 ⟨pa, pc, rfl, hPD, hb8⟩
              have hL8 := LE.below (Hid.out HLL) hb8
              have CB := hL8.logB (f : Int) (by omega)
              rw [HQ.out] at CB
              have HL8 : Hid _ := hL8
              have HPD : Hid _ := hPD
              clear CA hPD hL8 hb8 y1 y2 l1 l2
              go_wp2_with fail
              refine CB.mono ?_
              rintro e w9 ⟨qa, qc, rfl, hQD, hb9⟩
              have hL9 := LE.below (Hid.out HL8) hb9
              have HL9 : Hid _ := hL9
              have HPD9 : Hid _ := RdD.below (Hid.out HPD) hb9
              have HQD : Hid _ := hQD
              clear CB hQD hL9 hb9
              have hgt : ¬ (p.length : Int) < (q.length : Int) := by omega
              go_wp2_with fail
              go_loopw [17] (fun s17 wy => ∃ (i : Nat), s17 = .int .i64 i ∧ i ≤ p.length ∧ Below w9.heap.size w9 wy) (fun s17 _ => p.length - (intOf s17).toNat)
              case atStart => exact ⟨0, rfl, Nat.zero_le _, Below.refl _ _⟩
              case round =>
                obtain ⟨i, rfl, hi, hbw⟩ := hrel
                obtain ⟨y1, y2, l1, l2⟩ := HEnd.out _ _ _ (LE.below (Hid.out HL9) hbw)
                by_cases hil : i < p.length
                · have hi' : (i : Int) < (p.length : Int) := by omega
                  obtain ⟨x, hx⟩ : ∃ x, nthD p i = x := ⟨_, rfl⟩
                  obtain ⟨b1, o1, rfl, hbb1, p0, p1, p2, p3, p4, p5, p6⟩ := (RdD.below (Hid.out HPD9) hbw).cells hil hx
                  have HBW : Hid _ := hbw
                  by_cases hiq : i < q.length
                  · have hiq' : (i : Int) < (q.length : Int) := by omega
                    have hxq : nthD q i = x := by rw [← hx, HG1.out, nthD_app_left hiq]
                    have ht : x.m.t < e2 := HG2.out x (by rw [← hxq]; exact (memD q _).2 ⟨i, hiq, rfl⟩)
                    obtain ⟨b2, o2, rfl, hbb2, q0, q1, q2, q3, q4, q5, q6⟩ := (RdD.below (Hid.out HQD) hbw).cells hiq hxq
                    have d3 : decide (x.m.t < e2) = true := decide_eq_true ht
                    have d4 : decide ((i : Int) < (q.length : Int)) = true := decide_eq_true hiq'
                    clear hx hxq hbw
                    go_wp2_with fail
                    go_quiet (fail)
                    go_wp2_with fail
                    go_roundw
                    case rel => exact ⟨i + 1, by go_num, by omega, (HBW.out).trans (below_drewN _ _ _)⟩
                    case measure => simp [intOf]; omega
                  · have hiq' : ¬ (i : Int) < (q.length : Int) := by omega
                    have ht : ¬ x.m.t < e2 := by
                      have h1 : nthD (q ++ ext) i ∈ ext := nthD_app_right (by omega) (by rw [← HG1.out]; exact hil)
                      rw [← HG1.out, hx] at h1
                      have := HG3.out x h1
                      omega
                    have d3 : decide (x.m.t < e2) = false := decide_eq_false ht
                    have d4 : decide ((i : Int) < (q.length : Int)) = false := decide_eq_false hiq'
                    clear hx hbw
                    go_wp2_with fail
                    go_quiet (fail)
                    go_wp2_with fail
                    go_roundw
                    case rel => exact ⟨i + 1, by go_num, by omega, (HBW.out).trans (below_drewN _ _ _)⟩
                    case measure => simp [intOf]; omega
                · have hni : ¬ (i : Int) < (p.length : Int) := by omega
                  have HBW : Hid _ := hbw
                  clear hbw
                  go_wp2_with fail
                  go_roundw
                  case rel => exact ⟨f + 1, by go_num, by omega, LE.below (Hid.out HL9) HBW.out⟩
                  case measure => simp [intOf]; omega
            · obtain rfl : f = D.fs.length := by omega
              have HLL : Hid _ := hL
              clear hL
              go_wp2_with fail
              go_ret
              exact ⟨rfl, (HB0.out).trans ((LE.bel (Hid.out HLL)).mono (HB0.out).size)⟩
    · have k1 : (E != 0) = true := by simpa using hE
      go_enter Try.func4, Try.ntmps4
      go_wp2_with fail
      refine HV.mono ?_
      rintro e w1 ⟨rfl, hb1⟩
      rw [← HW0.out] at hb1
      clear HV x0 x1 x2 lB
      obtain ⟨x0, x1, x2, lB⟩ := HXB.out w1 hb1
      have C1 := new_bad (HX.out w1 hb1).ok HNE.out hE
      dsimp only [wv] at C1
      go_wp2_with fail
      refine C1.mono ?_
      rintro e w2 ⟨rfl, hb2⟩
      have hb2' := hb1.trans (hb2.mono hb1.size)
      clear x0 x1 x2 lB
      obtain ⟨x0, x1, x2, lB⟩ := HXB.out w2 hb2'
      have C2 := rwcheck_any w2 D (HX.out w2 hb2').ok
      rw [HNE.out] at C2
      dsimp only [wv] at C2
      clear C1 hb1 hb2
      go_wp2_with fail
      refine C2.mono ?_
      rintro e w3 ⟨rfl, hb3⟩
      have hb3' := hb2'.trans (hb3.mono hb2'.size)
      have S := shown_any w3
      clear C2 x0 x1 x2 lB
      go_wp2_with fail
      refine S.mono ?_
      rintro e w4 ⟨rfl, hb4⟩
      have hb4' := hb3'.trans (hb4.mono hb3'.size)
      go_wp2_with fail
      go_ret
      exact ⟨rfl, (HB0.out).trans (hb4'.mono (HB0.out).size)⟩
end Go.Proofs.Ytpibcfhfhejloaa
