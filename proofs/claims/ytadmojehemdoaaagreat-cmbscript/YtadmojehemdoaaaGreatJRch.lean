/- Joined: the texts that follow, each with its own sentence. -/
import Derived.Test.YtadmojehemdoaaaGreatJCfh
/- Proved: the contract of the document's Fed. -/
namespace Go.Proofs.YtadmojehemdoaaaGreat
open Go.RowKit Go.Shelf
set_option linter.unusedVariables false

theorem fedE_1 {f : Fd} {m : Nat} (h : wi f.kd 0 1 = false) : fedE f m = 1 := by simp [fedE, fstE, unl, h]
theorem fedE_2 {f : Fd} {m : Nat} (h1 : wi f.kd 0 1 = true) (h : wi f.lk 1 1048576 = false) : fedE f m = 80 := by simp [fedE, fstE, unl, h1, h]
theorem fedE_3 {f : Fd} {m : Nat} (h1 : wi f.kd 0 1 = true) (h2 : wi f.lk 1 1048576 = true) (h : wi f.st 0 7 = false) : fedE f m = 70 := by simp [fedE, fstE, unl, h1, h2, h]
theorem chkE_two (l : List Rl) : chkE l = 0 ∨ chkE l = 70 := by unfold chkE; split <;> simp
theorem fedE_4 {f : Fd} {m : Nat} (h1 : wi f.kd 0 1 = true) (h2 : wi f.lk 1 1048576 = true) (h3 : wi f.st 0 7 = true) (h : chkE f.rs = 70) : fedE f m = 70 := by simp [fedE, fstE, unl, h1, h2, h3, h]
theorem fedE_5 {f : Fd} {m : Nat} (h1 : wi f.kd 0 1 = true) (h2 : wi f.lk 1 1048576 = true) (h3 : wi f.st 0 7 = true) (h4 : chkE f.rs = 0) (h : (cls f.ps m && cls f.ss m) = false) : fedE f m = 81 := by simp only [fedE, fstE, unl, h1, h2, h3, h4, h]; rfl
theorem fedE_6 {f : Fd} {m : Nat} (h1 : wi f.kd 0 1 = true) (h2 : wi f.lk 1 1048576 = true) (h3 : wi f.st 0 7 = true) (h4 : chkE f.rs = 0) (h5 : (cls f.ps m && cls f.ss m) = true) : fedE f m = fstE [rulsE f.ps f.lk m f.rs, unl (iniB f.ps f.is) 82] := by
  rw [show fedE f m = fstE [unl (wi f.kd 0 1) 1, unl (wi f.lk 1 1048576) 80, unl (wi f.st 0 7) 70, chkE f.rs, unl (cls f.ps m && cls f.ss m) 81, rulsE f.ps f.lk m f.rs, unl (iniB f.ps f.is) 82] from rfl, h1, h2, h3, h4, h5]
  rfl
theorem chk_cl {l : List Rl} (h : chkE l = 0) {r : Rl} (hr : r ∈ l) : 0 ≤ r.cl := by
  unfold chkE at h
  split at h
  · rename_i g
    unfold chkB at g
    simp only [Bool.and_eq_true] at g
    have := List.all_eq_true.1 g.2.1 r hr
    unfold okR at this
    simp only [Bool.and_eq_true] at this
    have h2 := this.2.1
    unfold inB at h2
    exact (of_decide_eq_true h2).1
  · cases h
theorem rulE_1 {ps : List Int} {lk : Int} {m : Nat} {r : Rl} (h : (m : Int) ≤ r.cl) : rulE ps lk m r = 81 := by
  unfold rulE
  rw [show inB r.cl m = false from decide_eq_false (by omega)]
  rfl
theorem rulE_2 {ps : List Int} {lk : Int} {m : Nat} {r : Rl} (h0 : 0 ≤ r.cl) (h : ¬ (m : Int) ≤ r.cl) : rulE ps lk m r = sndsE ps lk r.os := by
  unfold rulE
  rw [show inB r.cl m = true from decide_eq_true (by omega)]
  simp only [unl, fstE, if_true]
  split <;> simp_all
theorem sndE_1 {ps : List Int} {lk : Int} {o : O} (h : decide (o.1 ∈ ps) = false) : sndE ps lk o = 81 := by unfold sndE; rw [h]; rfl
theorem sndE_2 {ps : List Int} {lk : Int} {o : O} (h : decide (o.1 ∈ ps) = true) (h2 : o.2.1 < lk) : sndE ps lk o = 80 := by unfold sndE; rw [h, decide_eq_false (by omega)]; rfl
theorem sndE_3 {ps : List Int} {lk : Int} {o : O} (h : decide (o.1 ∈ ps) = true) (h2 : ¬ o.2.1 < lk) : sndE ps lk o = 0 := by unfold sndE; rw [h, decide_eq_true (by omega)]; rfl

set_option maxRecDepth 100000 in
set_option maxHeartbeats 8000000 in
theorem rfed_any (w : World) (f : Fd) (m : Nat) (hm : m ≤ 1000) (h : okF w f) (hl : LtF f) :
    Calls Tryz.prog 68 #[fv f, .int .i64 (m : Int)] w fun e w' => e = .returned (.int .i64 (fedE f m)) ∧ Below w.heap.size w w' := by
  obtain ⟨W0, hW0⟩ : ∃ W0, W0 = w.alloc (.cells (fcs f) 71) := ⟨_, rfl⟩
  have hb0 : Hid (Below w.heap.size w W0) := by rw [hW0]; exact (Below.refl _ w).alloc (Nat.le_refl _) _
  have BX : BoxF W0 w.heap.size f := by rw [hW0]; exact BoxF.new h hl
  obtain ⟨B, hB⟩ : ∃ B, w.heap.size = B := ⟨_, rfl⟩
  rw [hB] at BX
  have HBE : Hid _ := hB
  have HW0 : Hid _ := hW0
  have HX : Hid _ := BX
  have x0 := BX.c0
  have x1 := BX.c1
  have x2 := BX.c2
  have x3 := BX.c3
  have x4 := BX.c4
  have x5 := BX.c5
  have lB := clt x0
  dsimp only at lB
  have CR := rcheck_any W0 f.ra f.rc f.rs BX.ok.r BX.lt.r
  have HC1 : Hid (∀ W, Below W0.heap.size W0 W → W.cell? ⟨B, 5, none⟩ = some (.slice f.sa f.ss.length f.sc) ∧ W.cell? ⟨B, 4, none⟩ = some (.slice f.pa f.ps.length f.pc) ∧ Calls Tryz.prog 103 #[.slice f.pa f.ps.length f.pc, .int .i64 (m : Int)] W (fun e w' => e = .returned (.bool (cls f.ps m)) ∧ Below W.heap.size W w') ∧ Calls Tryz.prog 103 #[.slice f.sa f.ss.length f.sc, .int .i64 (m : Int)] W (fun e w' => e = .returned (.bool (cls f.ss m)) ∧ Below W.heap.size W w')) := fun W hW =>
    ⟨(BX.below hW).c5, (BX.below hW).c4, rclasses_any W _ _ _ m (BX.below hW).ok.p (by have := hl.p; omega) hm, rclasses_any W _ _ _ m (BX.below hW).ok.s (by have := hl.s; omega) hm⟩
  rw [hW0] at x0 x1 x2 x3 x4 x5 CR
  have hlr := hl.r.1
  have HLR : Hid _ := hl.r.2
  have hli := hl.i
  dsimp only [fcs] at x0 x1 x2 x3 x4 x5 CR HW0
  dsimp only [fv]
  obtain ⟨E, hE⟩ : ∃ E, fedE f m = E := ⟨_, rfl⟩
  have HE : Hid _ := hE
  rw [hE]
  obtain ⟨ra, hra⟩ : ∃ ra, f.ra = ra := ⟨_, rfl⟩
  obtain ⟨ia, hia⟩ : ∃ ia, f.ia = ia := ⟨_, rfl⟩
  have HRA : Hid _ := hra
  have HIA : Hid _ := hia
  simp only [hra, hia] at x0 x1 x2 x3 x4 x5 CR HW0 ⊢
  clear h hl hW0 BX hE hra hia
  cases hk1 : wi f.kd 0 1 with
  | false =>
    have e : E = 1 := by rw [← HE.out]; exact fedE_1 hk1
    subst e
    unfold wi at hk1
    rw [decide_eq_false_iff_not] at hk1
    have k0 : (f.kd != 0) = true := by simp; omega
    have k1 : (f.kd != 1) = true := by simp; omega
    clear hk1
    go_enter Tryz.func68, Tryz.ntmps68
    go_wp2_with fail
    go_ret
    exact ⟨rfl, by rw [← HW0.out]; exact hb0.out⟩
  | true =>
    cases hk2 : wi f.lk 1 1048576 with
    | false =>
      have e : E = 80 := by rw [← HE.out]; exact fedE_2 hk1 hk2
      subst e
      unfold wi at hk1 hk2
      rw [decide_eq_false_iff_not] at hk2
      rw [decide_eq_true_iff] at hk1
      rcases (by omega : f.kd = 0 ∨ f.kd = 1) with g | g <;> rcases (by omega : f.lk < 1 ∨ (1 ≤ f.lk ∧ 1048576 < f.lk)) with q | q
      · have k0 : (f.kd != 0) = false := by simp; omega
        have d0 : decide (f.lk < 1) = true := decide_eq_true q
        clear hk1 hk2 g q
        go_enter Tryz.func68, Tryz.ntmps68
        go_wp2_with fail
        go_ret
        exact ⟨rfl, by rw [← HW0.out]; exact hb0.out⟩
      · have k0 : (f.kd != 0) = false := by simp; omega
        have d0 : decide (f.lk < 1) = false := decide_eq_false (by omega)
        have d1 : decide (1048576 < f.lk) = true := decide_eq_true q.2
        clear hk1 hk2 g q
        go_enter Tryz.func68, Tryz.ntmps68
        go_wp2_with fail
        go_ret
        exact ⟨rfl, by rw [← HW0.out]; exact hb0.out⟩
      · have k0 : (f.kd != 0) = true := by simp; omega
        have k1 : (f.kd != 1) = false := by simp; omega
        have d0 : decide (f.lk < 1) = true := decide_eq_true q
        clear hk1 hk2 g q
        go_enter Tryz.func68, Tryz.ntmps68
        go_wp2_with fail
        go_ret
        exact ⟨rfl, by rw [← HW0.out]; exact hb0.out⟩
      · have k0 : (f.kd != 0) = true := by simp; omega
        have k1 : (f.kd != 1) = false := by simp; omega
        have d0 : decide (f.lk < 1) = false := decide_eq_false (by omega)
        have d1 : decide (1048576 < f.lk) = true := decide_eq_true q.2
        clear hk1 hk2 g q
        go_enter Tryz.func68, Tryz.ntmps68
        go_wp2_with fail
        go_ret
        exact ⟨rfl, by rw [← HW0.out]; exact hb0.out⟩
    | true =>
      have d0 : decide (f.lk < 1) = false := by unfold wi at hk2; rw [decide_eq_true_iff] at hk2; exact decide_eq_false (by omega)
      have d1 : decide (1048576 < f.lk) = false := by unfold wi at hk2; rw [decide_eq_true_iff] at hk2; exact decide_eq_false (by omega)
      have HK1 : Hid _ := hk1
      have HK2 : Hid _ := hk2
      have hkk : ((f.kd != 0) = false ∧ (f.kd != 1) = true) ∨ ((f.kd != 0) = true ∧ (f.kd != 1) = false) := by
        unfold wi at hk1
        rw [decide_eq_true_iff] at hk1
        rcases (by omega : f.kd = 0 ∨ f.kd = 1) with g | g
        · left; rw [g]; exact ⟨rfl, rfl⟩
        · right; rw [g]; exact ⟨rfl, rfl⟩
      clear hk1 hk2
      cases hk3 : wi f.st 0 7 with
      | false =>
        have e : E = 70 := by rw [← HE.out]; exact fedE_3 HK1.out HK2.out hk3
        subst e
        unfold wi at hk3
        rw [decide_eq_false_iff_not] at hk3
        rcases hkk with ⟨k0, k1⟩ | ⟨k0, k1⟩ <;> rcases (by omega : f.st < 0 ∨ (0 ≤ f.st ∧ 8 ≤ f.st)) with q | q
        · have d2 : decide (f.st < 0) = true := decide_eq_true q
          clear hk3 q
          go_enter Tryz.func68, Tryz.ntmps68
          go_wp2_with fail
          go_ret
          exact ⟨rfl, by rw [← HW0.out]; exact hb0.out⟩
        · have d2 : decide (f.st < 0) = false := decide_eq_false (by omega)
          have d3 : decide (8 ≤ f.st) = true := decide_eq_true q.2
          clear hk3 q
          go_enter Tryz.func68, Tryz.ntmps68
          go_wp2_with fail
          go_ret
          exact ⟨rfl, by rw [← HW0.out]; exact hb0.out⟩
        · have d2 : decide (f.st < 0) = true := decide_eq_true q
          clear hk3 q
          go_enter Tryz.func68, Tryz.ntmps68
          go_wp2_with fail
          go_ret
          exact ⟨rfl, by rw [← HW0.out]; exact hb0.out⟩
        · have d2 : decide (f.st < 0) = false := decide_eq_false (by omega)
          have d3 : decide (8 ≤ f.st) = true := decide_eq_true q.2
          clear hk3 q
          go_enter Tryz.func68, Tryz.ntmps68
          go_wp2_with fail
          go_ret
          exact ⟨rfl, by rw [← HW0.out]; exact hb0.out⟩
      | true =>
        have d2 : decide (f.st < 0) = false := by unfold wi at hk3; rw [decide_eq_true_iff] at hk3; exact decide_eq_false (by omega)
        have d3 : decide (8 ≤ f.st) = false := by unfold wi at hk3; rw [decide_eq_true_iff] at hk3; exact decide_eq_false (by omega)
        have HK3 : Hid _ := hk3
        clear hk3
        rcases chkE_two f.rs with hr | hr
        · rw [hr] at CR
          have HK4 : Hid _ := hr
          clear hr
          rcases hkk with ⟨k0, k1⟩ | ⟨k0, k1⟩
          · go_enter Tryz.func68, Tryz.ntmps68
            go_wp2_with fail
            refine CR.mono ?_
            rintro e w1 ⟨rfl, hb1⟩
            rw [← HW0.out] at hb1
            clear CR x0 x1 x2 x3 x4 x5
            obtain ⟨x5, x4, C1, _⟩ := HC1.out w1 hb1
            cases hp : cls f.ps m with
            | false =>
              have e : E = 81 := by rw [← HE.out]; exact fedE_5 HK1.out HK2.out HK3.out HK4.out (by rw [hp]; rfl)
              subst e
              rw [hp] at C1
              clear hp
              go_wp2_with fail
              refine C1.mono ?_
              rintro e w2 ⟨rfl, hb2⟩
              clear C1
              go_wp2_with fail
              go_ret
              exact ⟨rfl, (hb0.out).trans ((hb1.trans (hb2.mono hb1.size)).mono (hb0.out).size)⟩
            | true =>
              rw [hp] at C1
              have HP : Hid _ := hp
              clear hp
              go_wp2_with fail
              refine C1.mono ?_
              rintro e w2 ⟨rfl, hb2⟩
              have hb2' := hb1.trans (hb2.mono hb1.size)
              clear C1 x4 x5
              obtain ⟨x5, x4, _, C2⟩ := HC1.out w2 hb2'
              cases hq : cls f.ss m with
              | false =>
                have e : E = 81 := by rw [← HE.out]; exact fedE_5 HK1.out HK2.out HK3.out HK4.out (by rw [HP.out, hq]; rfl)
                subst e
                rw [hq] at C2
                clear hq
                go_wp2_with fail
                refine C2.mono ?_
                rintro e w3 ⟨rfl, hb3⟩
                clear C2
                go_wp2_with fail
                go_ret
                exact ⟨rfl, (hb0.out).trans ((hb2'.trans (hb3.mono hb2'.size)).mono (hb0.out).size)⟩
              | true =>
                rw [hq] at C2
                have HK5 : Hid (fedE f m = fstE [rulsE f.ps f.lk m f.rs, unl (iniB f.ps f.is) 82]) := fedE_6 HK1.out HK2.out HK3.out HK4.out (by rw [HP.out, hq]; rfl)
                clear hq
                go_wp2_with fail
                refine C2.mono ?_
                rintro e w3 ⟨rfl, hb3⟩
                have hb3' := hb2'.trans (hb3.mono hb2'.size)
                clear C2 x4 x5
                go_wp2_with fail
                clear hB
                have lB3 : B < w3.heap.size := Nat.lt_of_lt_of_le lB hb3'.size
                go_loopw [5] (fun s5 wr => ∃ k : Nat, k ≤ f.rs.length ∧ s5 = .int .i64 k ∧ Hid (∀ i, i < k → rulE f.ps f.lk m (nthR f.rs i) = 0) ∧ Below W0.heap.size W0 wr) (fun s5 _ => f.rs.length - (intOf s5).toNat)
                case atStart => exact ⟨0, Nat.zero_le _, rfl, (fun i hi => absurd hi (Nat.not_lt_zero _) : ∀ i, i < 0 → rulE f.ps f.lk m (nthR f.rs i) = 0), hb3'⟩
                case round =>
                  obtain ⟨k, hk, rfl, HJ, hbw⟩ := hrel
                  have y3 := ((HX.out).below hbw).c3
                  rw [HRA.out] at y3
                  have lBr : B < wr.heap.size := Nat.lt_of_lt_of_le lB hbw.size
                  by_cases hkl : k < f.rs.length
                  · have hk' : (k : Int) < (f.rs.length : Int) := by omega
                    obtain ⟨r, hr⟩ : ∃ r, nthR f.rs k = r := ⟨_, rfl⟩
                    have hRR := (HX.out).ok.r
                    rw [HRA.out] at hRR
                    obtain ⟨b, off, rfl, hbb, _, w1', _, w3'⟩ := hRR.cells hkl hr
                    have hrd := (RdR.at hRR hkl hr).2.2
                    have z1 := (hbw.cell (p := ⟨b, off + k * 4 + 1, none⟩) hbb).trans w1'
                    have z3 := (hbw.cell (p := ⟨b, off + k * 4 + 3, none⟩) hbb).trans w3'
                    have HZ3 : Hid _ := w3'
                    clear w1' w3'
                    have hlo : r.os.length ≤ 20 := HLR.out r (hr ▸ nthR_mem hkl)
                    have hcl := chk_cl HK4.out (hr ▸ nthR_mem hkl)
                    have HRE : Hid _ := hr
                    obtain ⟨st, cl, nx, sa, sc, os⟩ := r
                    dsimp only at z1 z3 hrd hlo hcl HZ3
                    clear hr hRR
                    by_cases hc : (m : Int) ≤ cl
                    · go_wp2_with fail
                      go_ret
                      refine ⟨?_, (hb0.out).trans (hbw.mono (hb0.out).size)⟩
                      rw [show E = 81 by rw [← HE.out, HK5.out, rulsE_at (e := 81) HJ.out hkl (by rw [HRE.out]; exact rulE_1 hc) (by decide)]; rfl]
                      rfl
                    · have HRC : Hid (rulE f.ps f.lk m ⟨st, cl, nx, sa, sc, os⟩ = sndsE f.ps f.lk os) := rulE_2 hcl hc
                      have HRO : Hid _ := hrd
                      clear hrd hcl
                      go_wp2_with fail
                      go_loopw [6] (fun s6 wq => ∃ j : Nat, j ≤ os.length ∧ s6 = .int .i64 j ∧ Hid (∀ i, i < j → sndE f.ps f.lk (nthO os i) = 0) ∧ Below W0.heap.size W0 wq) (fun s6 _ => os.length - (intOf s6).toNat)
                      case atStart => exact ⟨0, Nat.zero_le _, rfl, (fun i hi => absurd hi (Nat.not_lt_zero _) : ∀ i, i < 0 → sndE f.ps f.lk (nthO os i) = 0), hbw⟩
                      case round =>
                        clear y3 lBr z1 z3 hbw
                        obtain ⟨j, hj, rfl, HI, hbq⟩ := hrel
                        have z3 := (hbq.cell (p := ⟨b, off + k * 4 + 3, none⟩) hbb).trans HZ3.out
                        have y3 := ((HX.out).below hbq).c3
                        rw [HRA.out] at y3
                        have lBq : B < wr.heap.size := Nat.lt_of_lt_of_le lB hbq.size
                        by_cases hjl : j < os.length
                        · have hj' : (j : Int) < (os.length : Int) := by omega
                          obtain ⟨o, ho⟩ : ∃ o, nthO os j = o := ⟨_, rfl⟩
                          obtain ⟨b2, off2, rfl, hbb2, o0, o1, o2⟩ := (RdO.below HRO.out hbq).cells hjl ho
                          have HOE : Hid _ := ho
                          obtain ⟨p, q, g⟩ := o
                          dsimp only at o0 o1 o2
                          have hba : Below wr.heap.size wr (wr.alloc (.cells #[.int .i64 p, .int .i64 q, .int .i64 g] 104)) := (Below.refl _ wr).alloc (Nat.le_refl _) _
                          have BXq := ((HX.out).below hbq).below hba
                          have H1 := rhas_any _ _ f.pa f.pc f.ps p BXq.ok.p (by have := BXq.lt.p; omega)
                          have y4 := BXq.c4
                          have y1 := BXq.c1
                          have hbs : Below W0.heap.size W0 _ := hbq.trans (hba.mono hbq.size)
                          clear ho BXq hba
                          cases hin : decide (p ∈ f.ps) with
                          | false =>
                            rw [hin] at H1
                            have HIN : Hid _ := hin
                            clear hin
                            go_wp2_with fail
                            refine H1.mono ?_
                            rintro e w' ⟨rfl, rfl⟩
                            clear H1
                            go_wp2_with fail
                            go_ret
                            refine ⟨?_, (hb0.out).trans (hbs.mono (hb0.out).size)⟩
                            rw [show E = 81 by rw [← HE.out, HK5.out, rulsE_at (e := 81) HJ.out hkl (by rw [HRE.out, HRC.out]; exact sndsE_at (e := 81) HI.out hjl (by rw [HOE.out]; exact sndE_1 HIN.out) (by decide)) (by decide)]; rfl]
                            rfl
                          | true =>
                            rw [hin] at H1
                            have HIN : Hid _ := hin
                            clear hin
                            by_cases hd : q < f.lk
                            · go_wp2_with fail
                              refine H1.mono ?_
                              rintro e w' ⟨rfl, rfl⟩
                              clear H1
                              go_wp2_with fail
                              go_ret
                              refine ⟨?_, (hb0.out).trans (hbs.mono (hb0.out).size)⟩
                              rw [show E = 80 by rw [← HE.out, HK5.out, rulsE_at (e := 80) HJ.out hkl (by rw [HRE.out, HRC.out]; exact sndsE_at (e := 80) HI.out hjl (by rw [HOE.out]; exact sndE_2 HIN.out hd) (by decide)) (by decide)]; rfl]
                              rfl
                            · have HD : Hid _ := hd
                              go_wp2_with fail
                              refine H1.mono ?_
                              rintro e w' ⟨rfl, rfl⟩
                              clear H1
                              go_wp2_with fail
                              go_roundw
                              case rel =>
                                refine ⟨j + 1, by omega, by go_num, ?_, hbs⟩
                                refine (fun i hi => ?_ : ∀ i, i < j + 1 → sndE f.ps f.lk (nthO os i) = 0)
                                by_cases e : i = j
                                · rw [e, HOE.out]; exact sndE_3 HIN.out HD.out
                                · exact HI.out i (by omega)
                              case measure => simp [intOf]; omega
                        · obtain rfl : j = os.length := by omega
                          go_wp2_with fail
                          go_roundw
                          case rel =>
                            refine ⟨k + 1, by omega, by go_num, ?_, hbq⟩
                            refine (fun i hi => ?_ : ∀ i, i < k + 1 → rulE f.ps f.lk m (nthR f.rs i) = 0)
                            by_cases e : i = k
                            · rw [e, HRE.out, HRC.out]; exact sndsE_no HI.out
                            · exact HJ.out i (by omega)
                          case measure => simp [intOf]; omega
                  · obtain rfl : k = f.rs.length := by omega
                    have HR0 : Hid (fedE f m = unl (iniB f.ps f.is) 82) := by
                      show fedE f m = _
                      rw [HK5.out, rulsE_no HJ.out]
                      simp only [fstE, if_true]
                      split <;> simp_all
                    have y6 := ((HX.out).below hbw).c6
                    rw [HIA.out] at y6
                    clear HJ
                    by_cases h4 : (4 : Int) < (f.is.length : Int)
                    · go_wp2_with fail
                      go_ret
                      refine ⟨?_, (hb0.out).trans (hbw.mono (hb0.out).size)⟩
                      rw [show E = 82 by rw [← HE.out, HR0.out]; unfold iniB; rw [decide_eq_false (show ¬ f.is.length ≤ 4 by omega)]; rfl]
                      rfl
                    · have HR1 : Hid (fedE f m = unl (f.is.all (okI f.ps)) 82) := by
                        show fedE f m = _
                        rw [HR0.out]
                        unfold iniB
                        rw [decide_eq_true (show f.is.length ≤ 4 by omega), Bool.true_and]
                      go_wp2_with fail
                      clear y6 y3
                      go_loopw [8] (fun s8 wq => ∃ j : Nat, j ≤ f.is.length ∧ s8 = .int .i64 j ∧ Hid (∀ i, i < j → okI f.ps (nthO f.is i) = true) ∧ Below W0.heap.size W0 wq) (fun s8 _ => f.is.length - (intOf s8).toNat)
                      case atStart => exact ⟨0, Nat.zero_le _, rfl, (fun i hi => absurd hi (Nat.not_lt_zero _) : ∀ i, i < 0 → okI f.ps (nthO f.is i) = true), hbw⟩
                      case round =>
                        clear lBr hbw
                        obtain ⟨j, hj, rfl, HI, hbq⟩ := hrel
                        have y6 := ((HX.out).below hbq).c6
                        rw [HIA.out] at y6
                        have lBq : B < wr.heap.size := Nat.lt_of_lt_of_le lB hbq.size
                        by_cases hjl : j < f.is.length
                        · have hj' : (j : Int) < (f.is.length : Int) := by omega
                          obtain ⟨o, ho⟩ : ∃ o, nthO f.is j = o := ⟨_, rfl⟩
                          have hRI := ((HX.out).below hbq).ok.i
                          rw [HIA.out] at hRI
                          obtain ⟨b2, off2, rfl, hbb2, o0, o1, o2⟩ := hRI.cells hjl ho
                          have HOE : Hid _ := ho
                          obtain ⟨p, q, g⟩ := o
                          dsimp only at o0 o1 o2
                          have hba : Below wr.heap.size wr (wr.alloc (.cells #[.int .i64 p, .int .i64 q, .int .i64 g] 104)) := (Below.refl _ wr).alloc (Nat.le_refl _) _
                          have BXq := ((HX.out).below hbq).below hba
                          have H1 := rhas_any _ _ f.pa f.pc f.ps p BXq.ok.p (by have := BXq.lt.p; omega)
                          have y4 := BXq.c4
                          have hbs : Below W0.heap.size W0 _ := hbq.trans (hba.mono hbq.size)
                          have HOI : Hid (okI f.ps (p, q, g) = (decide (p ∈ f.ps) && (wi q 0 1099511627776 && wi g 0 999))) := rfl
                          have HNO : Hid (okI f.ps (p, q, g) = false → E = 82) := by
                            show okI f.ps (p, q, g) = false → E = 82
                            intro hno
                            rw [← HE.out, HR1.out, List.all_eq_false.2 ⟨_, (memO f.is _).2 ⟨j, hjl, HOE.out⟩, by rw [hno]; decide⟩]
                            rfl
                          clear ho BXq hba hRI
                          cases hin : decide (p ∈ f.ps) with
                          | false =>
                            rw [hin] at H1
                            have HIN : Hid _ := hin
                            clear hin
                            go_wp2_with fail
                            refine H1.mono ?_
                            rintro e w' ⟨rfl, rfl⟩
                            clear H1
                            go_wp2_with fail
                            go_ret
                            refine ⟨?_, (hb0.out).trans (hbs.mono (hb0.out).size)⟩
                            rw [HNO.out (by rw [HOI.out, HIN.out]; rfl)]
                            rfl
                          | true =>
                            rw [hin] at H1
                            have HIN : Hid _ := hin
                            clear hin
                            by_cases c1 : q < 0
                            · have d1 : decide (q < 0) = true := decide_eq_true c1
                              have HC : Hid (wi q 0 1099511627776 = false) := decide_eq_false (by omega)
                              clear c1
                              go_wp2_with fail
                              refine H1.mono ?_
                              rintro e w' ⟨rfl, rfl⟩
                              clear H1
                              go_wp2_with fail
                              go_ret
                              refine ⟨?_, (hb0.out).trans (hbs.mono (hb0.out).size)⟩
                              rw [HNO.out (by rw [HOI.out, HIN.out, HC.out]; rfl)]
                              rfl
                            · have d1 : decide (q < 0) = false := decide_eq_false c1
                              by_cases c2 : 1099511627776 < q
                              · have d2 : decide (1099511627776 < q) = true := decide_eq_true c2
                                have HC : Hid (wi q 0 1099511627776 = false) := decide_eq_false (by omega)
                                clear c1 c2
                                go_wp2_with fail
                                refine H1.mono ?_
                                rintro e w' ⟨rfl, rfl⟩
                                clear H1
                                go_wp2_with fail
                                go_ret
                                refine ⟨?_, (hb0.out).trans (hbs.mono (hb0.out).size)⟩
                                rw [HNO.out (by rw [HOI.out, HIN.out, HC.out]; rfl)]
                                rfl
                              · have d2 : decide (1099511627776 < q) = false := decide_eq_false c2
                                have HQ : Hid (wi q 0 1099511627776 = true) := decide_eq_true (by omega)
                                clear c1 c2
                                by_cases c3 : g < 0
                                · have d3 : decide (g < 0) = true := decide_eq_true c3
                                  have HC : Hid (wi g 0 999 = false) := decide_eq_false (by omega)
                                  clear c3
                                  go_wp2_with fail
                                  refine H1.mono ?_
                                  rintro e w' ⟨rfl, rfl⟩
                                  clear H1
                                  go_wp2_with fail
                                  go_ret
                                  refine ⟨?_, (hb0.out).trans (hbs.mono (hb0.out).size)⟩
                                  rw [HNO.out (by rw [HOI.out, HIN.out, HQ.out, HC.out]; rfl)]
                                  rfl
                                · have d3 : decide (g < 0) = false := decide_eq_false c3
                                  by_cases c4 : 1000 ≤ g
                                  · have d4 : decide (1000 ≤ g) = true := decide_eq_true c4
                                    have HC : Hid (wi g 0 999 = false) := decide_eq_false (by omega)
                                    clear c3 c4
                                    go_wp2_with fail
                                    refine H1.mono ?_
                                    rintro e w' ⟨rfl, rfl⟩
                                    clear H1
                                    go_wp2_with fail
                                    go_ret
                                    refine ⟨?_, (hb0.out).trans (hbs.mono (hb0.out).size)⟩
                                    rw [HNO.out (by rw [HOI.out, HIN.out, HQ.out, HC.out]; rfl)]
                                    rfl
                                  · have d4 : decide (1000 ≤ g) = false := decide_eq_false c4
                                    have HC : Hid (wi g 0 999 = true) := decide_eq_true (by omega)
                                    clear c3 c4
                                    go_wp2_with fail
                                    refine H1.mono ?_
                                    rintro e w' ⟨rfl, rfl⟩
                                    clear H1
                                    go_wp2_with fail
                                    go_roundw
                                    case rel =>
                                      refine ⟨j + 1, by omega, by go_num, ?_, hbs⟩
                                      refine (fun i hi => ?_ : ∀ i, i < j + 1 → okI f.ps (nthO f.is i) = true)
                                      by_cases e : i = j
                                      · rw [e, HOE.out, HOI.out, HIN.out, HQ.out, HC.out]; rfl
                                      · exact HI.out i (by omega)
                                    case measure => simp [intOf]; omega
                        · obtain rfl : j = f.is.length := by omega
                          go_wp2_with fail
                          go_ret
                          refine ⟨?_, (hb0.out).trans (hbq.mono (hb0.out).size)⟩
                          rw [show E = 0 by rw [← HE.out, HR1.out, List.all_eq_true.2 (fun x hx => by obtain ⟨i, hi, rfl⟩ := (memO f.is x).1 hx; exact HI.out i hi)]; rfl]
                          rfl
          · go_enter Tryz.func68, Tryz.ntmps68
            go_wp2_with fail
            refine CR.mono ?_
            rintro e w1 ⟨rfl, hb1⟩
            rw [← HW0.out] at hb1
            clear CR x0 x1 x2 x3 x4 x5
            obtain ⟨x5, x4, C1, _⟩ := HC1.out w1 hb1
            cases hp : cls f.ps m with
            | false =>
              have e : E = 81 := by rw [← HE.out]; exact fedE_5 HK1.out HK2.out HK3.out HK4.out (by rw [hp]; rfl)
              subst e
              rw [hp] at C1
              clear hp
              go_wp2_with fail
              refine C1.mono ?_
              rintro e w2 ⟨rfl, hb2⟩
              clear C1
              go_wp2_with fail
              go_ret
              exact ⟨rfl, (hb0.out).trans ((hb1.trans (hb2.mono hb1.size)).mono (hb0.out).size)⟩
            | true =>
              rw [hp] at C1
              have HP : Hid _ := hp
              clear hp
              go_wp2_with fail
              refine C1.mono ?_
              rintro e w2 ⟨rfl, hb2⟩
              have hb2' := hb1.trans (hb2.mono hb1.size)
              clear C1 x4 x5
              obtain ⟨x5, x4, _, C2⟩ := HC1.out w2 hb2'
              cases hq : cls f.ss m with
              | false =>
                have e : E = 81 := by rw [← HE.out]; exact fedE_5 HK1.out HK2.out HK3.out HK4.out (by rw [HP.out, hq]; rfl)
                subst e
                rw [hq] at C2
                clear hq
                go_wp2_with fail
                refine C2.mono ?_
                rintro e w3 ⟨rfl, hb3⟩
                clear C2
                go_wp2_with fail
                go_ret
                exact ⟨rfl, (hb0.out).trans ((hb2'.trans (hb3.mono hb2'.size)).mono (hb0.out).size)⟩
              | true =>
                rw [hq] at C2
                have HK5 : Hid (fedE f m = fstE [rulsE f.ps f.lk m f.rs, unl (iniB f.ps f.is) 82]) := fedE_6 HK1.out HK2.out HK3.out HK4.out (by rw [HP.out, hq]; rfl)
                clear hq
                go_wp2_with fail
                refine C2.mono ?_
                rintro e w3 ⟨rfl, hb3⟩
                have hb3' := hb2'.trans (hb3.mono hb2'.size)
                clear C2 x4 x5
                go_wp2_with fail
                clear hB
                have lB3 : B < w3.heap.size := Nat.lt_of_lt_of_le lB hb3'.size
                go_loopw [5] (fun s5 wr => ∃ k : Nat, k ≤ f.rs.length ∧ s5 = .int .i64 k ∧ Hid (∀ i, i < k → rulE f.ps f.lk m (nthR f.rs i) = 0) ∧ Below W0.heap.size W0 wr) (fun s5 _ => f.rs.length - (intOf s5).toNat)
                case atStart => exact ⟨0, Nat.zero_le _, rfl, (fun i hi => absurd hi (Nat.not_lt_zero _) : ∀ i, i < 0 → rulE f.ps f.lk m (nthR f.rs i) = 0), hb3'⟩
                case round =>
                  obtain ⟨k, hk, rfl, HJ, hbw⟩ := hrel
                  have y3 := ((HX.out).below hbw).c3
                  rw [HRA.out] at y3
                  have lBr : B < wr.heap.size := Nat.lt_of_lt_of_le lB hbw.size
                  by_cases hkl : k < f.rs.length
                  · have hk' : (k : Int) < (f.rs.length : Int) := by omega
                    obtain ⟨r, hr⟩ : ∃ r, nthR f.rs k = r := ⟨_, rfl⟩
                    have hRR := (HX.out).ok.r
                    rw [HRA.out] at hRR
                    obtain ⟨b, off, rfl, hbb, _, w1', _, w3'⟩ := hRR.cells hkl hr
                    have hrd := (RdR.at hRR hkl hr).2.2
                    have z1 := (hbw.cell (p := ⟨b, off + k * 4 + 1, none⟩) hbb).trans w1'
                    have z3 := (hbw.cell (p := ⟨b, off + k * 4 + 3, none⟩) hbb).trans w3'
                    have HZ3 : Hid _ := w3'
                    clear w1' w3'
                    have hlo : r.os.length ≤ 20 := HLR.out r (hr ▸ nthR_mem hkl)
                    have hcl := chk_cl HK4.out (hr ▸ nthR_mem hkl)
                    have HRE : Hid _ := hr
                    obtain ⟨st, cl, nx, sa, sc, os⟩ := r
                    dsimp only at z1 z3 hrd hlo hcl HZ3
                    clear hr hRR
                    by_cases hc : (m : Int) ≤ cl
                    · go_wp2_with fail
                      go_ret
                      refine ⟨?_, (hb0.out).trans (hbw.mono (hb0.out).size)⟩
                      rw [show E = 81 by rw [← HE.out, HK5.out, rulsE_at (e := 81) HJ.out hkl (by rw [HRE.out]; exact rulE_1 hc) (by decide)]; rfl]
                      rfl
                    · have HRC : Hid (rulE f.ps f.lk m ⟨st, cl, nx, sa, sc, os⟩ = sndsE f.ps f.lk os) := rulE_2 hcl hc
                      have HRO : Hid _ := hrd
                      clear hrd hcl
                      go_wp2_with fail
                      go_loopw [6] (fun s6 wq => ∃ j : Nat, j ≤ os.length ∧ s6 = .int .i64 j ∧ Hid (∀ i, i < j → sndE f.ps f.lk (nthO os i) = 0) ∧ Below W0.heap.size W0 wq) (fun s6 _ => os.length - (intOf s6).toNat)
                      case atStart => exact ⟨0, Nat.zero_le _, rfl, (fun i hi => absurd hi (Nat.not_lt_zero _) : ∀ i, i < 0 → sndE f.ps f.lk (nthO os i) = 0), hbw⟩
                      case round =>
                        clear y3 lBr z1 z3 hbw
                        obtain ⟨j, hj, rfl, HI, hbq⟩ := hrel
                        have z3 := (hbq.cell (p := ⟨b, off + k * 4 + 3, none⟩) hbb).trans HZ3.out
                        have y3 := ((HX.out).below hbq).c3
                        rw [HRA.out] at y3
                        have lBq : B < wr.heap.size := Nat.lt_of_lt_of_le lB hbq.size
                        by_cases hjl : j < os.length
                        · have hj' : (j : Int) < (os.length : Int) := by omega
                          obtain ⟨o, ho⟩ : ∃ o, nthO os j = o := ⟨_, rfl⟩
                          obtain ⟨b2, off2, rfl, hbb2, o0, o1, o2⟩ := (RdO.below HRO.out hbq).cells hjl ho
                          have HOE : Hid _ := ho
                          obtain ⟨p, q, g⟩ := o
                          dsimp only at o0 o1 o2
                          have hba : Below wr.heap.size wr (wr.alloc (.cells #[.int .i64 p, .int .i64 q, .int .i64 g] 104)) := (Below.refl _ wr).alloc (Nat.le_refl _) _
                          have BXq := ((HX.out).below hbq).below hba
                          have H1 := rhas_any _ _ f.pa f.pc f.ps p BXq.ok.p (by have := BXq.lt.p; omega)
                          have y4 := BXq.c4
                          have y1 := BXq.c1
                          have hbs : Below W0.heap.size W0 _ := hbq.trans (hba.mono hbq.size)
                          clear ho BXq hba
                          cases hin : decide (p ∈ f.ps) with
                          | false =>
                            rw [hin] at H1
                            have HIN : Hid _ := hin
                            clear hin
                            go_wp2_with fail
                            refine H1.mono ?_
                            rintro e w' ⟨rfl, rfl⟩
                            clear H1
                            go_wp2_with fail
                            go_ret
                            refine ⟨?_, (hb0.out).trans (hbs.mono (hb0.out).size)⟩
                            rw [show E = 81 by rw [← HE.out, HK5.out, rulsE_at (e := 81) HJ.out hkl (by rw [HRE.out, HRC.out]; exact sndsE_at (e := 81) HI.out hjl (by rw [HOE.out]; exact sndE_1 HIN.out) (by decide)) (by decide)]; rfl]
                            rfl
                          | true =>
                            rw [hin] at H1
                            have HIN : Hid _ := hin
                            clear hin
                            by_cases hd : q < f.lk
                            · go_wp2_with fail
                              refine H1.mono ?_
                              rintro e w' ⟨rfl, rfl⟩
                              clear H1
                              go_wp2_with fail
                              go_ret
                              refine ⟨?_, (hb0.out).trans (hbs.mono (hb0.out).size)⟩
                              rw [show E = 80 by rw [← HE.out, HK5.out, rulsE_at (e := 80) HJ.out hkl (by rw [HRE.out, HRC.out]; exact sndsE_at (e := 80) HI.out hjl (by rw [HOE.out]; exact sndE_2 HIN.out hd) (by decide)) (by decide)]; rfl]
                              rfl
                            · have HD : Hid _ := hd
                              go_wp2_with fail
                              refine H1.mono ?_
                              rintro e w' ⟨rfl, rfl⟩
                              clear H1
                              go_wp2_with fail
                              go_roundw
                              case rel =>
                                refine ⟨j + 1, by omega, by go_num, ?_, hbs⟩
                                refine (fun i hi => ?_ : ∀ i, i < j + 1 → sndE f.ps f.lk (nthO os i) = 0)
                                by_cases e : i = j
                                · rw [e, HOE.out]; exact sndE_3 HIN.out HD.out
                                · exact HI.out i (by omega)
                              case measure => simp [intOf]; omega
                        · obtain rfl : j = os.length := by omega
                          go_wp2_with fail
                          go_roundw
                          case rel =>
                            refine ⟨k + 1, by omega, by go_num, ?_, hbq⟩
                            refine (fun i hi => ?_ : ∀ i, i < k + 1 → rulE f.ps f.lk m (nthR f.rs i) = 0)
                            by_cases e : i = k
                            · rw [e, HRE.out, HRC.out]; exact sndsE_no HI.out
                            · exact HJ.out i (by omega)
                          case measure => simp [intOf]; omega
                  · obtain rfl : k = f.rs.length := by omega
                    have HR0 : Hid (fedE f m = unl (iniB f.ps f.is) 82) := by
                      show fedE f m = _
                      rw [HK5.out, rulsE_no HJ.out]
                      simp only [fstE, if_true]
                      split <;> simp_all
                    have y6 := ((HX.out).below hbw).c6
                    rw [HIA.out] at y6
                    clear HJ
                    by_cases h4 : (4 : Int) < (f.is.length : Int)
                    · go_wp2_with fail
                      go_ret
                      refine ⟨?_, (hb0.out).trans (hbw.mono (hb0.out).size)⟩
                      rw [show E = 82 by rw [← HE.out, HR0.out]; unfold iniB; rw [decide_eq_false (show ¬ f.is.length ≤ 4 by omega)]; rfl]
                      rfl
                    · have HR1 : Hid (fedE f m = unl (f.is.all (okI f.ps)) 82) := by
                        show fedE f m = _
                        rw [HR0.out]
                        unfold iniB
                        rw [decide_eq_true (show f.is.length ≤ 4 by omega), Bool.true_and]
                      go_wp2_with fail
                      clear y6 y3
                      go_loopw [8] (fun s8 wq => ∃ j : Nat, j ≤ f.is.length ∧ s8 = .int .i64 j ∧ Hid (∀ i, i < j → okI f.ps (nthO f.is i) = true) ∧ Below W0.heap.size W0 wq) (fun s8 _ => f.is.length - (intOf s8).toNat)
                      case atStart => exact ⟨0, Nat.zero_le _, rfl, (fun i hi => absurd hi (Nat.not_lt_zero _) : ∀ i, i < 0 → okI f.ps (nthO f.is i) = true), hbw⟩
                      case round =>
                        clear lBr hbw
                        obtain ⟨j, hj, rfl, HI, hbq⟩ := hrel
                        have y6 := ((HX.out).below hbq).c6
                        rw [HIA.out] at y6
                        have lBq : B < wr.heap.size := Nat.lt_of_lt_of_le lB hbq.size
                        by_cases hjl : j < f.is.length
                        · have hj' : (j : Int) < (f.is.length : Int) := by omega
                          obtain ⟨o, ho⟩ : ∃ o, nthO f.is j = o := ⟨_, rfl⟩
                          have hRI := ((HX.out).below hbq).ok.i
                          rw [HIA.out] at hRI
                          obtain ⟨b2, off2, rfl, hbb2, o0, o1, o2⟩ := hRI.cells hjl ho
                          have HOE : Hid _ := ho
                          obtain ⟨p, q, g⟩ := o
                          dsimp only at o0 o1 o2
                          have hba : Below wr.heap.size wr (wr.alloc (.cells #[.int .i64 p, .int .i64 q, .int .i64 g] 104)) := (Below.refl _ wr).alloc (Nat.le_refl _) _
                          have BXq := ((HX.out).below hbq).below hba
                          have H1 := rhas_any _ _ f.pa f.pc f.ps p BXq.ok.p (by have := BXq.lt.p; omega)
                          have y4 := BXq.c4
                          have hbs : Below W0.heap.size W0 _ := hbq.trans (hba.mono hbq.size)
                          have HOI : Hid (okI f.ps (p, q, g) = (decide (p ∈ f.ps) && (wi q 0 1099511627776 && wi g 0 999))) := rfl
                          have HNO : Hid (okI f.ps (p, q, g) = false → E = 82) := by
                            show okI f.ps (p, q, g) = false → E = 82
                            intro hno
                            rw [← HE.out, HR1.out, List.all_eq_false.2 ⟨_, (memO f.is _).2 ⟨j, hjl, HOE.out⟩, by rw [hno]; decide⟩]
                            rfl
                          clear ho BXq hba hRI
                          cases hin : decide (p ∈ f.ps) with
                          | false =>
                            rw [hin] at H1
                            have HIN : Hid _ := hin
                            clear hin
                            go_wp2_with fail
                            refine H1.mono ?_
                            rintro e w' ⟨rfl, rfl⟩
                            clear H1
                            go_wp2_with fail
                            go_ret
                            refine ⟨?_, (hb0.out).trans (hbs.mono (hb0.out).size)⟩
                            rw [HNO.out (by rw [HOI.out, HIN.out]; rfl)]
                            rfl
                          | true =>
                            rw [hin] at H1
                            have HIN : Hid _ := hin
                            clear hin
                            by_cases c1 : q < 0
                            · have d1 : decide (q < 0) = true := decide_eq_true c1
                              have HC : Hid (wi q 0 1099511627776 = false) := decide_eq_false (by omega)
                              clear c1
                              go_wp2_with fail
                              refine H1.mono ?_
                              rintro e w' ⟨rfl, rfl⟩
                              clear H1
                              go_wp2_with fail
                              go_ret
                              refine ⟨?_, (hb0.out).trans (hbs.mono (hb0.out).size)⟩
                              rw [HNO.out (by rw [HOI.out, HIN.out, HC.out]; rfl)]
                              rfl
                            · have d1 : decide (q < 0) = false := decide_eq_false c1
                              by_cases c2 : 1099511627776 < q
                              · have d2 : decide (1099511627776 < q) = true := decide_eq_true c2
                                have HC : Hid (wi q 0 1099511627776 = false) := decide_eq_false (by omega)
                                clear c1 c2
                                go_wp2_with fail
                                refine H1.mono ?_
                                rintro e w' ⟨rfl, rfl⟩
                                clear H1
                                go_wp2_with fail
                                go_ret
                                refine ⟨?_, (hb0.out).trans (hbs.mono (hb0.out).size)⟩
                                rw [HNO.out (by rw [HOI.out, HIN.out, HC.out]; rfl)]
                                rfl
                              · have d2 : decide (1099511627776 < q) = false := decide_eq_false c2
                                have HQ : Hid (wi q 0 1099511627776 = true) := decide_eq_true (by omega)
                                clear c1 c2
                                by_cases c3 : g < 0
                                · have d3 : decide (g < 0) = true := decide_eq_true c3
                                  have HC : Hid (wi g 0 999 = false) := decide_eq_false (by omega)
                                  clear c3
                                  go_wp2_with fail
                                  refine H1.mono ?_
                                  rintro e w' ⟨rfl, rfl⟩
                                  clear H1
                                  go_wp2_with fail
                                  go_ret
                                  refine ⟨?_, (hb0.out).trans (hbs.mono (hb0.out).size)⟩
                                  rw [HNO.out (by rw [HOI.out, HIN.out, HQ.out, HC.out]; rfl)]
                                  rfl
                                · have d3 : decide (g < 0) = false := decide_eq_false c3
                                  by_cases c4 : 1000 ≤ g
                                  · have d4 : decide (1000 ≤ g) = true := decide_eq_true c4
                                    have HC : Hid (wi g 0 999 = false) := decide_eq_false (by omega)
                                    clear c3 c4
                                    go_wp2_with fail
                                    refine H1.mono ?_
                                    rintro e w' ⟨rfl, rfl⟩
                                    clear H1
                                    go_wp2_with fail
                                    go_ret
                                    refine ⟨?_, (hb0.out).trans (hbs.mono (hb0.out).size)⟩
                                    rw [HNO.out (by rw [HOI.out, HIN.out, HQ.out, HC.out]; rfl)]
                                    rfl
                                  · have d4 : decide (1000 ≤ g) = false := decide_eq_false c4
                                    have HC : Hid (wi g 0 999 = true) := decide_eq_true (by omega)
                                    clear c3 c4
                                    go_wp2_with fail
                                    refine H1.mono ?_
                                    rintro e w' ⟨rfl, rfl⟩
                                    clear H1
                                    go_wp2_with fail
                                    go_roundw
                                    case rel =>
                                      refine ⟨j + 1, by omega, by go_num, ?_, hbs⟩
                                      refine (fun i hi => ?_ : ∀ i, i < j + 1 → okI f.ps (nthO f.is i) = true)
                                      by_cases e : i = j
                                      · rw [e, HOE.out, HOI.out, HIN.out, HQ.out, HC.out]; rfl
                                      · exact HI.out i (by omega)
                                    case measure => simp [intOf]; omega
                        · obtain rfl : j = f.is.length := by omega
                          go_wp2_with fail
                          go_ret
                          refine ⟨?_, (hb0.out).trans (hbq.mono (hb0.out).size)⟩
                          rw [show E = 0 by rw [← HE.out, HR1.out, List.all_eq_true.2 (fun x hx => by obtain ⟨i, hi, rfl⟩ := (memO f.is x).1 hx; exact HI.out i hi)]; rfl]
                          rfl
        · have e : E = 70 := by rw [← HE.out]; exact fedE_4 HK1.out HK2.out HK3.out hr
          subst e
          rw [hr] at CR
          clear hr
          rcases hkk with ⟨k0, k1⟩ | ⟨k0, k1⟩
          · go_enter Tryz.func68, Tryz.ntmps68
            go_wp2_with fail
            refine CR.mono ?_
            rintro e w1 ⟨rfl, hb1⟩
            rw [← HW0.out] at hb1
            clear CR
            go_wp2_with fail
            go_ret
            exact ⟨rfl, (hb0.out).trans (hb1.mono (hb0.out).size)⟩
          · go_enter Tryz.func68, Tryz.ntmps68
            go_wp2_with fail
            refine CR.mono ?_
            rintro e w1 ⟨rfl, hb1⟩
            rw [← HW0.out] at hb1
            clear CR
            go_wp2_with fail
            go_ret
            exact ⟨rfl, (hb0.out).trans (hb1.mono (hb0.out).size)⟩
end Go.Proofs.YtadmojehemdoaaaGreat
/- Proved: the contract of the document's Check. -/
namespace Go.Proofs.YtadmojehemdoaaaGreat
open Go.RowKit Go.Shelf
set_option linter.unusedVariables false

set_option maxRecDepth 100000 in
set_option maxHeartbeats 4000000 in
theorem rwcheck_any (w : World) (d : Wd) (h : Ww w d) :
    Calls Tryz.prog 34 #[wv d] w fun e w' => e = .returned (.tuple #[.int .i64 (wldE d).1, .int .i64 (wldE d).2]) ∧ Below w.heap.size w w' := by
  have mixed : Tryz.prog.follows .mixedOrders = true := by kernel_rfl
  obtain ⟨W0, hW0⟩ : ∃ W0, W0 = w.alloc (.cells (wcs d) 25) := ⟨_, rfl⟩
  have hb0 : Hid (Below w.heap.size w W0) := by rw [hW0]; exact (Below.refl _ w).alloc (Nat.le_refl _) _
  have BX : BoxW W0 w.heap.size d := by rw [hW0]; exact BoxW.new h
  obtain ⟨B, hB⟩ : ∃ B, w.heap.size = B := ⟨_, rfl⟩
  rw [hB] at BX
  have HBE : Hid _ := hB
  have HW0 : Hid _ := hW0
  have HX : Hid _ := BX
  have x0 := BX.c0
  have x1 := BX.c1
  have x2 := BX.c2
  have lB := clt x0
  dsimp only at lB
  have CT := trcheck_any W0 W0.heap.size d.pa d.pc d.ps BX.ok.p (by have := h.pl; omega)
  rw [hW0] at x0 x1 x2 CT
  have hpl : d.ps.length ≤ 1000 := by have := h.pl; omega
  have hfl := h.fl
  have HLT : Hid _ := h.lt
  dsimp only [wcs] at x0 x1 x2 CT HW0
  dsimp only [wv]
  obtain ⟨fa, hfa⟩ : ∃ fa, d.fa = fa := ⟨_, rfl⟩
  have HFA : Hid _ := hfa
  simp only [hfa] at x0 x1 x2 CT HW0 ⊢
  obtain ⟨E, hE⟩ : ∃ E, chk d.ps = E := ⟨_, rfl⟩
  rw [hE] at CT
  have HE : Hid _ := hE
  have HA : Hid (allE d = fstE [E, unl (wi d.en 0 1099511627776 && wi d.fs.length 1 8) 1]) := by
    show allE d = _
    unfold allE
    rw [hE]
  clear h hW0 BX hfa hE
  by_cases e0 : E = 0
  · subst e0
    by_cases hall : 0 ≤ d.en ∧ d.en ≤ 1099511627776 ∧ 1 ≤ d.fs.length ∧ d.fs.length ≤ 8
    · have HA0 : Hid (allE d = 0) := by
        show allE d = 0
        rw [HA.out, show wi d.en 0 1099511627776 = true from decide_eq_true ⟨hall.1, hall.2.1⟩, show wi d.fs.length 1 8 = true from decide_eq_true (by omega)]
        rfl
      have d1 : decide (d.en < 0) = false := decide_eq_false (by omega)
      have d2 : decide (1099511627776 < d.en) = false := decide_eq_false (by omega)
      have d3 : decide ((d.fs.length : Int) < 1) = false := decide_eq_false (by omega)
      have d4 : decide ((8 : Int) < (d.fs.length : Int)) = false := decide_eq_false (by omega)
      clear hall
      go_enter Tryz.func34, Tryz.ntmps34
      go_wp2_with fail
      refine CT.mono ?_
      rintro e w1 ⟨rfl, hw1⟩
      subst hw1
      clear CT
      go_wp2_with fail
      rw [← HW0.out]
      clear x0 x1 x2 hB d1 d2 d3 d4
      go_loopw [5] (fun s5 wr => ∃ k : Nat, k ≤ d.fs.length ∧ s5 = .int .i64 k ∧ Hid (∀ i, i < k → fedE (nthF d.fs i) d.ps.length = 0) ∧ Below W0.heap.size W0 wr) (fun s5 _ => d.fs.length - (intOf s5).toNat)
      case atStart => exact ⟨0, Nat.zero_le _, rfl, (fun i hi => absurd hi (Nat.not_lt_zero _) : ∀ i, i < 0 → fedE (nthF d.fs i) d.ps.length = 0), Below.refl _ _⟩
      case round =>
        obtain ⟨k, hk, rfl, HJ, hbw⟩ := hrel
        have y0 := ((HX.out).below hbw).c0
        have y1 := ((HX.out).below hbw).c1
        rw [HFA.out] at y1
        have lBr : B < wr.heap.size := Nat.lt_of_lt_of_le lB hbw.size
        by_cases hkl : k < d.fs.length
        · have hk' : (k : Int) < (d.fs.length : Int) := by omega
          obtain ⟨f, hf⟩ : ∃ f, nthF d.fs k = f := ⟨_, rfl⟩
          have hRF := ((HX.out).below hbw).ok.f
          rw [HFA.out] at hRF
          obtain ⟨b, off, rfl, hbb, z0, z1, z2, z3, z4, z5, z6⟩ := hRF.cells hkl hf
          have hok := hRF.at hkl hf
          have hlt := HLT.out f (hf ▸ nthF_mem hkl)
          have HRE : Hid _ := hf
          have hbd : Below wr.heap.size wr wr.drew := (Below.refl _ wr).drew
          have C := rfed_any wr.drew f d.ps.length hpl (hok.below hbd) hlt
          obtain ⟨E, hE⟩ : ∃ E, fedE f d.ps.length = E := ⟨_, rfl⟩
          rw [hE] at C
          have HE2 : Hid _ := hE
          have HZ : Hid (∀ W, Below wr.heap.size wr W → W.cell? ⟨B, 0, none⟩ = some (.slice d.pa d.ps.length d.pc) ∧ W.cell? ⟨B, 1, none⟩ = some (.slice (some ⟨b, off, none⟩) d.fs.length d.fc) ∧ W.cell? ⟨b, off + k * 7, none⟩ = some (.int .i64 f.kd) ∧ W.cell? ⟨b, off + k * 7 + 1, none⟩ = some (.int .i64 f.lk) ∧ W.cell? ⟨b, off + k * 7 + 2, none⟩ = some (.int .i64 f.st) ∧ W.cell? ⟨b, off + k * 7 + 3, none⟩ = some (.slice f.ra f.rs.length f.rc) ∧ W.cell? ⟨b, off + k * 7 + 4, none⟩ = some (.slice f.pa f.ps.length f.pc) ∧ W.cell? ⟨b, off + k * 7 + 5, none⟩ = some (.slice f.sa f.ss.length f.sc) ∧ W.cell? ⟨b, off + k * 7 + 6, none⟩ = some (.slice f.ia f.is.length f.ic)) := fun W hW => ⟨(hW.cell (p := ⟨B, 0, none⟩) lBr).trans y0, (hW.cell (p := ⟨B, 1, none⟩) lBr).trans y1, (hW.cell (p := ⟨b, off + k * 7, none⟩) hbb).trans z0, (hW.cell (p := ⟨b, off + k * 7 + 1, none⟩) hbb).trans z1, (hW.cell (p := ⟨b, off + k * 7 + 2, none⟩) hbb).trans z2, (hW.cell (p := ⟨b, off + k * 7 + 3, none⟩) hbb).trans z3, (hW.cell (p := ⟨b, off + k * 7 + 4, none⟩) hbb).trans z4, (hW.cell (p := ⟨b, off + k * 7 + 5, none⟩) hbb).trans z5, (hW.cell (p := ⟨b, off + k * 7 + 6, none⟩) hbb).trans z6⟩
          dsimp only [fv] at C
          clear hf hRF hok hlt hE
          by_cases e0 : E = 0
          · subst e0
            go_wp2_with fail
            go_region_held3 (fun w' => w'.cell? ⟨B, 0, none⟩ = some (.slice d.pa d.ps.length d.pc) ∧ w'.cell? ⟨B, 1, none⟩ = some (.slice (some ⟨b, off, none⟩) d.fs.length d.fc) ∧ w'.cell? ⟨b, off + k * 7, none⟩ = some (.int .i64 f.kd) ∧ w'.cell? ⟨b, off + k * 7 + 1, none⟩ = some (.int .i64 f.lk) ∧ w'.cell? ⟨b, off + k * 7 + 2, none⟩ = some (.int .i64 f.st) ∧ w'.cell? ⟨b, off + k * 7 + 3, none⟩ = some (.slice f.ra f.rs.length f.rc) ∧ w'.cell? ⟨b, off + k * 7 + 4, none⟩ = some (.slice f.pa f.ps.length f.pc) ∧ w'.cell? ⟨b, off + k * 7 + 5, none⟩ = some (.slice f.sa f.ss.length f.sc) ∧ w'.cell? ⟨b, off + k * 7 + 6, none⟩ = some (.slice f.ia f.is.length f.ic)) (go_keep) (first | (go_at_call 68; refine C.mono ?_; rintro e w4 ⟨rfl, hb4⟩; have hb5 := Below.trans hbd hb4; obtain ⟨g0, g1, g2, g3, g4, g5, g6, g7, g8⟩ := HZ.out w4 hb5))
            all_goals go_wp2
            all_goals go_roundw
            case rel =>
              refine ⟨k + 1, by omega, by go_num, ?_, hbw.trans (hb5.mono hbw.size)⟩
              refine (fun i hi => ?_ : ∀ i, i < k + 1 → fedE (nthF d.fs i) d.ps.length = 0)
              by_cases e : i = k
              · rw [e, HRE.out, HE2.out]
              · exact HJ.out i (by omega)
            case measure => simp [intOf]; omega
          · have ke : (E == 0) = false := by simpa using e0
            go_wp2_with fail
            go_region_held3 (fun w' => w'.cell? ⟨B, 0, none⟩ = some (.slice d.pa d.ps.length d.pc) ∧ w'.cell? ⟨B, 1, none⟩ = some (.slice (some ⟨b, off, none⟩) d.fs.length d.fc) ∧ w'.cell? ⟨b, off + k * 7, none⟩ = some (.int .i64 f.kd) ∧ w'.cell? ⟨b, off + k * 7 + 1, none⟩ = some (.int .i64 f.lk) ∧ w'.cell? ⟨b, off + k * 7 + 2, none⟩ = some (.int .i64 f.st) ∧ w'.cell? ⟨b, off + k * 7 + 3, none⟩ = some (.slice f.ra f.rs.length f.rc) ∧ w'.cell? ⟨b, off + k * 7 + 4, none⟩ = some (.slice f.pa f.ps.length f.pc) ∧ w'.cell? ⟨b, off + k * 7 + 5, none⟩ = some (.slice f.sa f.ss.length f.sc) ∧ w'.cell? ⟨b, off + k * 7 + 6, none⟩ = some (.slice f.ia f.is.length f.ic)) (go_keep) (first | (go_at_call 68; refine C.mono ?_; rintro e w4 ⟨rfl, hb4⟩; have hb5 := Below.trans hbd hb4; obtain ⟨g0, g1, g2, g3, g4, g5, g6, g7, g8⟩ := HZ.out w4 hb5))
            all_goals go_wp2
            all_goals go_ret2
            all_goals refine ⟨?_, (hb0.out).trans ((hbw.trans (hb5.mono hbw.size)).mono (hb0.out).size)⟩
            all_goals rw [show wldE d = ((k : Int), E) by unfold wldE; rw [HA0.out, if_pos rfl, fedsE_at 0 HJ.out hkl (by rw [HRE.out]; exact HE2.out) e0, Nat.zero_add]]
            all_goals rfl
        · obtain rfl : k = d.fs.length := by omega
          go_wp2
          go_ret2
          refine ⟨?_, (hb0.out).trans (hbw.mono (hb0.out).size)⟩
          rw [show wldE d = (-1, 0) by unfold wldE; rw [HA0.out, if_pos rfl, fedsE_no 0 HJ.out]]
          rfl
    · have HA1 : Hid (wldE d = (-1, 1)) := by
        show wldE d = _
        have : allE d = 1 := by
          rw [HA.out]
          have : (wi d.en 0 1099511627776 && wi d.fs.length 1 8) = false := by
            rw [Bool.and_eq_false_iff]
            unfold wi
            rw [decide_eq_false_iff_not, decide_eq_false_iff_not]
            omega
          rw [this]
          rfl
        unfold wldE
        rw [this, if_neg (by decide)]
      by_cases c1 : d.en < 0
      · have d1 : decide (d.en < 0) = true := decide_eq_true c1
        clear hall c1
        go_enter Tryz.func34, Tryz.ntmps34
        go_wp2_with fail
        refine CT.mono ?_
        rintro e w1 ⟨rfl, hw1⟩
        subst hw1
        clear CT
        go_wp2_with fail
        go_ret2
        refine ⟨?_, by rw [← HW0.out]; exact hb0.out⟩
        rw [HA1.out]
        rfl
      · have d1 : decide (d.en < 0) = false := decide_eq_false c1
        by_cases c2 : 1099511627776 < d.en
        · have d2 : decide (1099511627776 < d.en) = true := decide_eq_true c2
          clear hall c1 c2
          go_enter Tryz.func34, Tryz.ntmps34
          go_wp2_with fail
          refine CT.mono ?_
          rintro e w1 ⟨rfl, hw1⟩
          subst hw1
          clear CT
          go_wp2_with fail
          go_ret2
          refine ⟨?_, by rw [← HW0.out]; exact hb0.out⟩
          rw [HA1.out]
          rfl
        · have d2 : decide (1099511627776 < d.en) = false := decide_eq_false c2
          by_cases c3 : (d.fs.length : Int) < 1
          · have d3 : decide ((d.fs.length : Int) < 1) = true := decide_eq_true c3
            clear hall c1 c2
            go_enter Tryz.func34, Tryz.ntmps34
            go_wp2_with fail
            refine CT.mono ?_
            rintro e w1 ⟨rfl, hw1⟩
            subst hw1
            clear CT
            go_wp2_with fail
            go_ret2
            refine ⟨?_, by rw [← HW0.out]; exact hb0.out⟩
            rw [HA1.out]
            rfl
          · have d3 : decide ((d.fs.length : Int) < 1) = false := decide_eq_false c3
            have c4 : (8 : Int) < (d.fs.length : Int) := by omega
            have d4 : decide ((8 : Int) < (d.fs.length : Int)) = true := decide_eq_true c4
            clear hall c1 c2
            go_enter Tryz.func34, Tryz.ntmps34
            go_wp2_with fail
            refine CT.mono ?_
            rintro e w1 ⟨rfl, hw1⟩
            subst hw1
            clear CT
            go_wp2_with fail
            go_ret2
            refine ⟨?_, by rw [← HW0.out]; exact hb0.out⟩
            rw [HA1.out]
            rfl
  · have ke : (E == 0) = false := by simpa using e0
    have HA1 : Hid (wldE d = (-1, E)) := by
      show wldE d = _
      have : allE d = E := by
        rw [HA.out]
        simp [fstE, e0]
      unfold wldE
      rw [this, if_neg e0]
    go_enter Tryz.func34, Tryz.ntmps34
    go_wp2_with fail
    refine CT.mono ?_
    rintro e w1 ⟨rfl, hw1⟩
    subst hw1
    clear CT
    go_wp2_with fail
    go_ret2
    refine ⟨?_, by rw [← HW0.out]; exact hb0.out⟩
    rw [HA1.out]
    rfl
end Go.Proofs.YtadmojehemdoaaaGreat
