/- Proved: the contract of the document's Routes. -/
import Derived.Test.YtpifkoblcbjiiaaRc0
import Derived.Test.YtpifkoblcbjiiaaRt0
namespace Go.Proofs.Ytpifkoblcbjiiaa
open Go.RowKit Go.Shelf
set_option linter.unusedVariables false

theorem any_swap (a b : List Int) : a.any (fun x => decide (x ∈ b)) = b.any (fun x => decide (x ∈ a)) := by
  rw [Bool.eq_iff_iff, List.any_eq_true, List.any_eq_true]
  constructor
  · rintro ⟨x, h1, h2⟩; exact ⟨x, of_decide_eq_true h2, decide_eq_true h1⟩
  · rintro ⟨x, h1, h2⟩; exact ⟨x, of_decide_eq_true h2, decide_eq_true h1⟩
theorem any_take_succ (l : List Int) (p : Int → Bool) (j : Nat) (h : j < l.length) : (l.take (j + 1)).any p = ((l.take j).any p || p (nthI l j)) := by
  rw [List.take_add_one, List.any_append]
  simp [nthI, h]

set_option maxRecDepth 100000 in
set_option maxHeartbeats 2000000 in
theorem rroutes_any (w : World) (d : Wd) (f c : Int) (h : Ww w d) :
    Calls Try.prog 14 #[wv d, .int .i64 f, .int .i64 c] w fun e w' => ∃ v, e = .returned v ∧ Row w w' v (rts d f c) := by
  have mixed : Try.prog.follows .mixedOrders = true := by kernel_rfl
  obtain ⟨i0, hi, hz0, hz1, hz2⟩ := info_parts info3
  obtain ⟨W0, hW0⟩ : ∃ W0, W0 = w.alloc (.cells (wcs d) 25) := ⟨_, rfl⟩
  have hb0 : Below w.heap.size w W0 := by rw [hW0]; exact (Below.refl _ w).alloc (Nat.le_refl _) _
  have BX : BoxW W0 w.heap.size d := by rw [hW0]; exact BoxW.new h
  obtain ⟨B, hB⟩ : ∃ B, w.heap.size = B := ⟨_, rfl⟩
  rw [hB] at BX
  have HBE : Hid _ := hB
  have HW0 : Hid _ := hW0
  have HX : Hid _ := BX
  have x0 := BX.c0
  have lB := clt x0
  dsimp only at lB
  have CA := rabove_any W0 d.pa d.pc d.ps c BX.ok.p (by have := h.pl; omega)
  have hal := abv_len d.ps c
  obtain ⟨ab, hab⟩ : ∃ ab, abv d.ps c = ab := ⟨_, rfl⟩
  rw [hab] at CA hal
  have HAB : Hid _ := hab
  rw [hW0] at x0 CA
  have hfl := h.fl
  have HLT : Hid _ := h.lt
  dsimp only [wcs] at x0 CA HW0
  dsimp only [wv]
  obtain ⟨fa, hfa⟩ : ∃ fa, d.fa = fa := ⟨_, rfl⟩
  have HFA : Hid _ := hfa
  simp only [hfa] at x0 CA HW0 ⊢
  clear h hW0 BX hfa hab
  go_enter Try.func14, Try.ntmps14
  go_wp2_with fail
  refine CA.mono ?_
  rintro e w1 ⟨a', c', rfl, hR, hb1⟩
  rw [← HW0.out] at hb1
  have HRA : Hid _ := hR
  clear CA x0 hR
  go_wp2_with fail
  clear hB
  go_loopw [9, 8] (fun s9 s8 wr => ∃ k : Nat, k ≤ d.fs.length ∧ s9 = .int .i64 k ∧ Hid (Row w1 wr s8 (rtsF d f c k))) (fun s9 _ _ => d.fs.length - (intOf s9).toNat)
  case atStart => exact ⟨0, Nat.zero_le _, rfl, (Row.empty w1 : Row w1 _ _ [])⟩
  case round =>
    obtain ⟨k, hk, rfl, HW⟩ := hrel
    have hbw : Below w1.heap.size w1 wr := HW.out.2
    have hbw0 := hb1.trans (hbw.mono hb1.size)
    have y1 := ((HX.out).below hbw0).c1
    rw [HFA.out] at y1
    have lBr : B < wr.heap.size := Nat.lt_of_lt_of_le lB hbw0.size
    by_cases hkl : k < d.fs.length
    · have hk' : (k : Int) < (d.fs.length : Int) := by omega
      obtain ⟨g, hg⟩ : ∃ g, nthF d.fs k = g := ⟨_, rfl⟩
      have hRF := ((HX.out).below hbw0).ok.f
      rw [HFA.out] at hRF
      obtain ⟨b, off, rfl, hbb, z0, z1, z2, z3, z4, z5, z6⟩ := hRF.cells hkl hg
      have hok := hRF.at hkl hg
      have hlt := HLT.out g (hg ▸ nthF_mem hkl)
      have hss : g.ss.length ≤ 50 := hlt.s
      have HRE : Hid _ := hg
      have HZ : Hid (∀ W, Below wr.heap.size wr W → W.cell? ⟨B, 1, none⟩ = some (.slice (some ⟨b, off, none⟩) d.fs.length d.fc) ∧ W.cell? ⟨b, off + k * 7 + 5, none⟩ = some (.slice g.sa g.ss.length g.sc) ∧ RdI W W.heap.size a' ab ∧ RdI W W.heap.size g.sa g.ss) := fun W hW =>
        ⟨(hW.cell (p := ⟨B, 1, none⟩) lBr).trans y1, (hW.cell (p := ⟨b, off + k * 7 + 5, none⟩) hbb).trans z5, RdI.belo (RdI.belo HRA.out hbw) hW, RdI.belo hok.s hW⟩
      have hhr : Hid (hrs d c g = ab.any (fun x => decide (x ∈ g.ss))) := by
        show hrs d c g = _
        unfold hrs
        rw [HAB.out, any_swap]
      have hpl : (rtsF d f c k).length ≤ 20 := Nat.le_trans (rtsF_len d f c k) (by omega)
      clear hg hRF hok hlt z0 z1 z2 z3 z4 z5 z6
      go_wp2_with fail
      go_loopw [11, 10] (fun s11 s10 wq => ∃ j : Nat, j ≤ ab.length ∧ s11 = .int .i64 j ∧ s10 = .bool ((ab.take j).any (fun x => decide (x ∈ g.ss))) ∧ Below wr.heap.size wr wq) (fun s11 _ _ => ab.length - (intOf s11).toNat)
      case atStart => exact ⟨0, Nat.zero_le _, rfl, rfl, Below.refl _ _⟩
      case round =>
        obtain ⟨j, hj, rfl, rfl, hbq⟩ := hrel
        by_cases hjl : j < ab.length
        · have hj' : (j : Int) < (ab.length : Int) := by omega
          obtain ⟨q1, q5, qa, qs⟩ := HZ.out wr hbq
          obtain ⟨b2, off2, rfl, hb2, hc2⟩ := qa (by intro e; simp [e] at hjl)
          have x0 := hc2 j hjl
          have HTS : Hid _ := any_take_succ ab (fun x => decide (x ∈ g.ss)) j hjl
          obtain ⟨x, hx⟩ : ∃ x, nthI ab j = x := ⟨_, rfl⟩
          rw [hx] at x0
          rw [hx] at HTS
          have HC : ∀ n, Calls Try.prog 20 #[.slice g.sa g.ss.length g.sc, .int .i64 x] (wr.drewN n) fun e w' => e = .returned (.bool (decide (x ∈ g.ss))) ∧ w' = wr.drewN n := fun n => rhas_any (wr.drewN n) _ g.sa g.sc g.ss x (RdI.belo qs (below_drewN _ _ n)) (by omega)
          obtain ⟨H, hH⟩ : ∃ H, (ab.take j).any (fun x => decide (x ∈ g.ss)) = H := ⟨_, rfl⟩
          rw [hH] at HTS
          obtain ⟨N, hN⟩ : ∃ N, decide (x ∈ g.ss) = N := ⟨_, rfl⟩
          rw [hN] at HTS HC
          rw [hH]
          clear hx hc2 hH hN qs qa
          cases H with
          | true =>
            go_wp2_with fail
            go_quiet (first | (go_at_call 20; refine Calls.quiet_of_same (HC _)))
            go_wp2
            go_roundw
            case rel => exact ⟨j + 1, by omega, by go_num, by rw [HTS.out]; rfl, hbq.trans (below_drewN _ _ _)⟩
            case measure => simp [intOf]; omega
          | false =>
            go_wp2_with fail
            go_quiet (first | (go_at_call 20; refine Calls.quiet_of_same (HC _)))
            go_wp2
            go_roundw
            case rel => exact ⟨j + 1, by omega, by go_num, by rw [HTS.out]; cases N <;> rfl, hbq.trans (below_drewN _ _ _)⟩
            case measure => simp [intOf]; omega
        · obtain rfl : j = ab.length := by omega
          rw [List.take_of_length_le (Nat.le_refl _)]
          obtain ⟨H, hH⟩ : ∃ H, ab.any (fun x => decide (x ∈ g.ss)) = H := ⟨_, rfl⟩
          rw [hH] at hhr ⊢
          have HW1 : Hid _ := Row.below HW.out hbq
          clear hH
          by_cases hkf : (k : Int) = f
          · have kb : ((k : Int) != f) = false := by simpa using hkf
            have HKF : Hid _ := hkf
            clear hkf
            go_wp2_with fail
            go_roundw
            case rel =>
              refine ⟨k + 1, by omega, by go_num, ?_⟩
              show Row w1 _ _ (rtsF d f c (k + 1))
              rw [rtsF_own HKF.out]
              exact HW1.out
            case measure => simp [intOf]; omega
          · have kb : ((k : Int) != f) = true := by simpa using hkf
            have HKF : Hid _ := hkf
            clear hkf
            cases H with
            | false =>
              go_wp2_with fail
              go_roundw
              case rel =>
                refine ⟨k + 1, by omega, by go_num, ?_⟩
                show Row w1 _ _ (rtsF d f c (k + 1))
                rw [rtsF_not (by rw [HRE.out]; exact hhr.out)]
                exact HW1.out
              case measure => simp [intOf]; omega
            | true =>
              have hsz : w1.heap.size ≤ wr.heap.size := (Row.below HW.out hbq).2.size
              go_wp2_with (at_builtin; refine wpList_append_own _ rfl _ _ 22 rfl w1.heap.size 3 i0 (.int .i64 0) 1 8 Try.underlying22 hi hz0 hz1 hz2 rfl (by decide) _ _ _ rfl (HW1.out.1.alloc _) ⟨wr.heap.size, 0, none⟩ 1 1 [.int .i64 k] rfl rfl (cell_one_new _ _ _) (by simp [Value.oneCell']) (by unfold maxLen; omega) (by omega) (by simp; omega) ?_)
              intro v' w4 hown' hgrow _
              have HW4 : Hid _ := Row.app HW1.out hown' hgrow
              clear hown' hgrow
              go_wp2_with fail
              go_roundw
              case rel =>
                refine ⟨k + 1, by omega, by go_num, ?_⟩
                show Row w1 _ _ (rtsF d f c (k + 1))
                rw [rtsF_yes HKF.out (by rw [HRE.out]; exact hhr.out)]
                exact HW4.out
              case measure => simp [intOf]; omega
    · obtain rfl : k = d.fs.length := by omega
      go_wp2_with fail
      go_ret
      exact ⟨_, rfl, Row.since HW.out (hb0.trans (hb1.mono hb0.size))⟩
end Go.Proofs.Ytpifkoblcbjiiaa
