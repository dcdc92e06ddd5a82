/- Proved: the contract of the document's Check. -/
import Derived.Test.YtpifkoblcbjiiaaRc1
namespace Go.Proofs.Ytpifkoblcbjiiaa
open Go.RowKit Go.Shelf
set_option linter.unusedVariables false

set_option maxRecDepth 100000 in
set_option maxHeartbeats 4000000 in
theorem rwcheck_any (w : World) (d : Wd) (h : Ww w d) :
    Calls Try.prog 11 #[wv d] w fun e w' => e = .returned (.tuple #[.int .i64 (wldE d).1, .int .i64 (wldE d).2]) ∧ Below w.heap.size w w' := by
  have mixed : Try.prog.follows .mixedOrders = true := by kernel_rfl
  obtain ⟨W0, hW0⟩ : ∃ W0, W0 = w.alloc (.cells (wcs d) 25) := ⟨_, rfl⟩
  have hb0 : Hid (Below w.heap.size w W0) := by rw [hW0]; exact (Below.refl _ w).alloc (Nat.le_refl _) _
  have BX : BoxW W0 w.heap.size d := by rw [hW0]; exact BoxW.new h
  obtain ⟨B, hB⟩ : ∃ B, w.heap.size = B := ⟨_, rfl⟩
  rw [hB] at BX
  have HBE : Hid _ := hB
  have HW0 : Hid _ := hW0
  have HX : Hid _ := BX
  have x0 := BX.c0
  have x1 := BX.c1
  have x2 := BX.c2
  have lB := clt x0
  dsimp only at lB
  have CT := trcheck_any W0 W0.heap.size d.pa d.pc d.ps BX.ok.p (by have := h.pl; omega)
  rw [hW0] at x0 x1 x2 CT
  have hpl : d.ps.length ≤ 1000 := by have := h.pl; omega
  have hfl := h.fl
  have HLT : Hid _ := h.lt
  dsimp only [wcs] at x0 x1 x2 CT HW0
  dsimp only [wv]
  obtain ⟨fa, hfa⟩ : ∃ fa, d.fa = fa := ⟨_, rfl⟩
  have HFA : Hid _ := hfa
  simp only [hfa] at x0 x1 x2 CT HW0 ⊢
  obtain ⟨E, hE⟩ : ∃ E, chk d.ps = E := ⟨_, rfl⟩
  rw [hE] at CT
  have HE : Hid _ := hE
  have HA : Hid (allE d = fstE [E, unl (wi d.en 0 1099511627776 && wi d.fs.length 1 8) 1]) := by
    show allE d = _
    unfold allE
    rw [hE]
  clear h hW0 BX hfa hE
  by_cases e0 : E = 0
  · subst e0
    by_cases hall : 0 ≤ d.en ∧ d.en ≤ 1099511627776 ∧ 1 ≤ d.fs.length ∧ d.fs.length ≤ 8
    · have HA0 : Hid (allE d = 0) := by
        show allE d = 0
        rw [HA.out, show wi d.en 0 1099511627776 = true from decide_eq_true ⟨hall.1, hall.2.1⟩, show wi d.fs.length 1 8 = true from decide_eq_true (by omega)]
        rfl
      have d1 : decide (d.en < 0) = false := decide_eq_false (by omega)
      have d2 : decide (1099511627776 < d.en) = false := decide_eq_false (by omega)
      have d3 : decide ((d.fs.length : Int) < 1) = false := decide_eq_false (by omega)
      have d4 : decide ((8 : Int) < (d.fs.length : Int)) = false := decide_eq_false (by omega)
      clear hall
      go_enter Try.func11, Try.ntmps11
      go_wp2_with fail
      refine CT.mono ?_
      rintro e w1 ⟨rfl, hw1⟩
      subst hw1
      clear CT
      go_wp2_with fail
      rw [← HW0.out]
      clear x0 x1 x2 hB d1 d2 d3 d4
      go_loopw [5] (fun s5 wr => ∃ k : Nat, k ≤ d.fs.length ∧ s5 = .int .i64 k ∧ Hid (∀ i, i < k → fedE (nthF d.fs i) d.ps.length = 0) ∧ Below W0.heap.size W0 wr) (fun s5 _ => d.fs.length - (intOf s5).toNat)
      case atStart => exact ⟨0, Nat.zero_le _, rfl, (fun i hi => absurd hi (Nat.not_lt_zero _) : ∀ i, i < 0 → fedE (nthF d.fs i) d.ps.length = 0), Below.refl _ _⟩
      case round =>
        obtain ⟨k, hk, rfl, HJ, hbw⟩ := hrel
        have y0 := ((HX.out).below hbw).c0
        have y1 := ((HX.out).below hbw).c1
        rw [HFA.out] at y1
        have lBr : B < wr.heap.size := Nat.lt_of_lt_of_le lB hbw.size
        by_cases hkl : k < d.fs.length
        · have hk' : (k : Int) < (d.fs.length : Int) := by omega
          obtain ⟨f, hf⟩ : ∃ f, nthF d.fs k = f := ⟨_, rfl⟩
          have hRF := ((HX.out).below hbw).ok.f
          rw [HFA.out] at hRF
          obtain ⟨b, off, rfl, hbb, z0, z1, z2, z3, z4, z5, z6⟩ := hRF.cells hkl hf
          have hok := hRF.at hkl hf
          have hlt := HLT.out f (hf ▸ nthF_mem hkl)
          have HRE : Hid _ := hf
          have hbd : Below wr.heap.size wr wr.drew := (Below.refl _ wr).drew
          have C := rfed_any wr.drew f d.ps.length hpl (hok.below hbd) hlt
          obtain ⟨E, hE⟩ : ∃ E, fedE f d.ps.length = E := ⟨_, rfl⟩
          rw [hE] at C
          have HE2 : Hid _ := hE
          have HZ : Hid (∀ W, Below wr.heap.size wr W → W.cell? ⟨B, 0, none⟩ = some (.slice d.pa d.ps.length d.pc) ∧ W.cell? ⟨B, 1, none⟩ = some (.slice (some ⟨b, off, none⟩) d.fs.length d.fc) ∧ W.cell? ⟨b, off + k * 7, none⟩ = some (.int .i64 f.kd) ∧ W.cell? ⟨b, off + k * 7 + 1, none⟩ = some (.int .i64 f.lk) ∧ W.cell? ⟨b, off + k * 7 + 2, none⟩ = some (.int .i64 f.st) ∧ W.cell? ⟨b, off + k * 7 + 3, none⟩ = some (.slice f.ra f.rs.length f.rc) ∧ W.cell? ⟨b, off + k * 7 + 4, none⟩ = some (.slice f.pa f.ps.length f.pc) ∧ W.cell? ⟨b, off + k * 7 + 5, none⟩ = some (.slice f.sa f.ss.length f.sc) ∧ W.cell? ⟨b, off + k * 7 + 6, none⟩ = some (.slice f.ia f.is.length f.ic)) := fun W hW => ⟨(hW.cell (p := ⟨B, 0, none⟩) lBr).trans y0, (hW.cell (p := ⟨B, 1, none⟩) lBr).trans y1, (hW.cell (p := ⟨b, off + k * 7, none⟩) hbb).trans z0, (hW.cell (p := ⟨b, off + k * 7 + 1, none⟩) hbb).trans z1, (hW.cell (p := ⟨b, off + k * 7 + 2, none⟩) hbb).trans z2, (hW.cell (p := ⟨b, off + k * 7 + 3, none⟩) hbb).trans z3, (hW.cell (p := ⟨b, off + k * 7 + 4, none⟩) hbb).trans z4, (hW.cell (p := ⟨b, off + k * 7 + 5, none⟩) hbb).trans z5, (hW.cell (p := ⟨b, off + k * 7 + 6, none⟩) hbb).trans z6⟩
          dsimp only [fv] at C
          clear hf hRF hok hlt hE
          by_cases e0 : E = 0
          · subst e0
            go_wp2_with fail
            go_region_held3 (fun w' => w'.cell? ⟨B, 0, none⟩ = some (.slice d.pa d.ps.length d.pc) ∧ w'.cell? ⟨B, 1, none⟩ = some (.slice (some ⟨b, off, none⟩) d.fs.length d.fc) ∧ w'.cell? ⟨b, off + k * 7, none⟩ = some (.int .i64 f.kd) ∧ w'.cell? ⟨b, off + k * 7 + 1, none⟩ = some (.int .i64 f.lk) ∧ w'.cell? ⟨b, off + k * 7 + 2, none⟩ = some (.int .i64 f.st) ∧ w'.cell? ⟨b, off + k * 7 + 3, none⟩ = some (.slice f.ra f.rs.length f.rc) ∧ w'.cell? ⟨b, off + k * 7 + 4, none⟩ = some (.slice f.pa f.ps.length f.pc) ∧ w'.cell? ⟨b, off + k * 7 + 5, none⟩ = some (.slice f.sa f.ss.length f.sc) ∧ w'.cell? ⟨b, off + k * 7 + 6, none⟩ = some (.slice f.ia f.is.length f.ic)) (go_keep) (first | (go_at_call 29; refine C.mono ?_; rintro e w4 ⟨rfl, hb4⟩; have hb5 := Below.trans hbd hb4; obtain ⟨g0, g1, g2, g3, g4, g5, g6, g7, g8⟩ := HZ.out w4 hb5))
            all_goals go_wp2
            all_goals go_roundw
            case rel =>
              refine ⟨k + 1, by omega, by go_num, ?_, hbw.trans (hb5.mono hbw.size)⟩
              refine (fun i hi => ?_ : ∀ i, i < k + 1 → fedE (nthF d.fs i) d.ps.length = 0)
              by_cases e : i = k
              · rw [e, HRE.out, HE2.out]
              · exact HJ.out i (by omega)
            case measure => simp [intOf]; omega
          · have ke : (E == 0) = false := by simpa using e0
            go_wp2_with fail
            go_region_held3 (fun w' => w'.cell? ⟨B, 0, none⟩ = some (.slice d.pa d.ps.length d.pc) ∧ w'.cell? ⟨B, 1, none⟩ = some (.slice (some ⟨b, off, none⟩) d.fs.length d.fc) ∧ w'.cell? ⟨b, off + k * 7, none⟩ = some (.int .i64 f.kd) ∧ w'.cell? ⟨b, off + k * 7 + 1, none⟩ = some (.int .i64 f.lk) ∧ w'.cell? ⟨b, off + k * 7 + 2, none⟩ = some (.int .i64 f.st) ∧ w'.cell? ⟨b, off + k * 7 + 3, none⟩ = some (.slice f.ra f.rs.length f.rc) ∧ w'.cell? ⟨b, off + k * 7 + 4, none⟩ = some (.slice f.pa f.ps.length f.pc) ∧ w'.cell? ⟨b, off + k * 7 + 5, none⟩ = some (.slice f.sa f.ss.length f.sc) ∧ w'.cell? ⟨b, off + k * 7 + 6, none⟩ = some (.slice f.ia f.is.length f.ic)) (go_keep) (first | (go_at_call 29; refine C.mono ?_; rintro e w4 ⟨rfl, hb4⟩; have hb5 := Below.trans hbd hb4; obtain ⟨g0, g1, g2, g3, g4, g5, g6, g7, g8⟩ := HZ.out w4 hb5))
            all_goals go_wp2
            all_goals go_ret2
            all_goals refine ⟨?_, (hb0.out).trans ((hbw.trans (hb5.mono hbw.size)).mono (hb0.out).size)⟩
            all_goals rw [show wldE d = ((k : Int), E) by unfold wldE; rw [HA0.out, if_pos rfl, fedsE_at 0 HJ.out hkl (by rw [HRE.out]; exact HE2.out) e0, Nat.zero_add]]
            all_goals rfl
        · obtain rfl : k = d.fs.length := by omega
          go_wp2
          go_ret2
          refine ⟨?_, (hb0.out).trans (hbw.mono (hb0.out).size)⟩
          rw [show wldE d = (-1, 0) by unfold wldE; rw [HA0.out, if_pos rfl, fedsE_no 0 HJ.out]]
          rfl
    · have HA1 : Hid (wldE d = (-1, 1)) := by
        show wldE d = _
        have : allE d = 1 := by
          rw [HA.out]
          have : (wi d.en 0 1099511627776 && wi d.fs.length 1 8) = false := by
            rw [Bool.and_eq_false_iff]
            unfold wi
            rw [decide_eq_false_iff_not, decide_eq_false_iff_not]
            omega
          rw [this]
          rfl
        unfold wldE
        rw [this, if_neg (by decide)]
      by_cases c1 : d.en < 0
      · have d1 : decide (d.en < 0) = true := decide_eq_true c1
        clear hall c1
        go_enter Try.func11, Try.ntmps11
        go_wp2_with fail
        refine CT.mono ?_
        rintro e w1 ⟨rfl, hw1⟩
        subst hw1
        clear CT
        go_wp2_with fail
        go_ret2
        refine ⟨?_, by rw [← HW0.out]; exact hb0.out⟩
        rw [HA1.out]
        rfl
      · have d1 : decide (d.en < 0) = false := decide_eq_false c1
        by_cases c2 : 1099511627776 < d.en
        · have d2 : decide (1099511627776 < d.en) = true := decide_eq_true c2
          clear hall c1 c2
          go_enter Try.func11, Try.ntmps11
          go_wp2_with fail
          refine CT.mono ?_
          rintro e w1 ⟨rfl, hw1⟩
          subst hw1
          clear CT
          go_wp2_with fail
          go_ret2
          refine ⟨?_, by rw [← HW0.out]; exact hb0.out⟩
          rw [HA1.out]
          rfl
        · have d2 : decide (1099511627776 < d.en) = false := decide_eq_false c2
          by_cases c3 : (d.fs.length : Int) < 1
          · have d3 : decide ((d.fs.length : Int) < 1) = true := decide_eq_true c3
            clear hall c1 c2
            go_enter Try.func11, Try.ntmps11
            go_wp2_with fail
            refine CT.mono ?_
            rintro e w1 ⟨rfl, hw1⟩
            subst hw1
            clear CT
            go_wp2_with fail
            go_ret2
            refine ⟨?_, by rw [← HW0.out]; exact hb0.out⟩
            rw [HA1.out]
            rfl
          · have d3 : decide ((d.fs.length : Int) < 1) = false := decide_eq_false c3
            have c4 : (8 : Int) < (d.fs.length : Int) := by omega
            have d4 : decide ((8 : Int) < (d.fs.length : Int)) = true := decide_eq_true c4
            clear hall c1 c2
            go_enter Try.func11, Try.ntmps11
            go_wp2_with fail
            refine CT.mono ?_
            rintro e w1 ⟨rfl, hw1⟩
            subst hw1
            clear CT
            go_wp2_with fail
            go_ret2
            refine ⟨?_, by rw [← HW0.out]; exact hb0.out⟩
            rw [HA1.out]
            rfl
  · have ke : (E == 0) = false := by simpa using e0
    have HA1 : Hid (wldE d = (-1, E)) := by
      show wldE d = _
      have : allE d = E := by
        rw [HA.out]
        simp [fstE, e0]
      unfold wldE
      rw [this, if_neg e0]
    go_enter Try.func11, Try.ntmps11
    go_wp2_with fail
    refine CT.mono ?_
    rintro e w1 ⟨rfl, hw1⟩
    subst hw1
    clear CT
    go_wp2_with fail
    go_ret2
    refine ⟨?_, by rw [← HW0.out]; exact hb0.out⟩
    rw [HA1.out]
    rfl
end Go.Proofs.Ytpifkoblcbjiiaa
