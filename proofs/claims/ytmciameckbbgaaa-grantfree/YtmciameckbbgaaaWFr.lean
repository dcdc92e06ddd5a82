/- Proved: the walk of GrantFree. -/
import Derived.Test.YtmciameckbbgaaaFlt
namespace Go.Proofs.Ytmciameckbbgaaa
open Go.RowKit Go.Shelf
open D (Gr dec many Up)
set_option linter.unusedVariables false

set_option maxRecDepth 100000 in
set_option maxHeartbeats 4000000 in
theorem free_walk (w : World) (ask : Int) (hask : 0 ≤ ask ∧ ask ≤ 65535) (time : Int) (htime : 0 ≤ time ∧ time ≤ 65535) (sa : Option Addr) (sc : Nat) (l : List Int) (hn : l.length ≤ maxLen) (hz : RdI w sa l) :
    Calls Try.prog 7 #[.int .u16 ask, .int .u16 time, .slice sa l.length sc] w fun e w' => e = .returned (.bool true) ∧ Below w.heap.size w w' := by
  unfold maxLen at hn
  obtain ⟨hask0, hask1⟩ := hask
  obtain ⟨htime0, htime1⟩ := htime
  obtain ⟨n, hnn⟩ : ∃ n, l.length = n := ⟨_, rfl⟩
  rw [hnn] at hn ⊢
  by_cases hb : 4096 < n
  · have hb' : (4096 : Int) < (n : Int) := by omega
    clear hnn hz
    go_enter Try.func7, Try.ntmps7
    go_wp2
    go_ret
    exact ⟨rfl, Below.refl _ _⟩
  have hb' : ¬ (4096 : Int) < (n : Int) := by omega
  obtain ⟨raw, rn, hrn, hrle, hup, QM⟩ := Qu.made (W := w) (c := sc) hz hnn (by omega)
  have HRN : Hid (raw.length = rn) := hrn
  obtain ⟨to, hto⟩ : ∃ to, max ask time = to := ⟨_, rfl⟩
  have HTO : Hid (time ≤ to ∧ to < 1125899906842624) := ⟨by omega, by omega⟩
  clear hnn hz hn hb hup hrn
  go_enter Try.func7, Try.ntmps7
  go_wp2_with (go_at_call 9; refine QM.mono ?_; rintro e w1 ⟨ra, rc, rfl, h1⟩; have H1 : Hid (Qu w w1 ra rn rc raw) := h1; have H0 : Hid _ := Ri.made (Below.refl w1.heap.size w1); clear h1 QM)
  go_loopw [8, 9] (fun s8 s9 wr => ∃ (k m : Nat) (qa : Option Addr) (qc : Nat), s9 = .int .i64 k ∧ k ≤ rn ∧ s8 = .slice qa m qc ∧ Hid ((fl raw time k).length = m) ∧ Hid (Ri w1 wr (.slice qa m qc) (fl raw time k))) (fun _ s9 _ => rn - (intOf s9).toNat)
  case atStart => exact ⟨0, 0, _, _, rfl, Nat.zero_le _, rfl, (rfl : (fl raw time 0).length = 0), H0.out⟩
  case round =>
    obtain ⟨k, m, qa, qc, rfl, hk, rfl, HM, HR⟩ := hrel
    by_cases hlt : k < rn
    · have hlt' : (k : Int) < (rn : Int) := by omega
      have hmk : m ≤ k := by rw [← HM.out]; exact fl_len _ _ _
      obtain ⟨x, hx⟩ : ∃ x, raw.getD k 0 = x := ⟨_, rfl⟩
      obtain ⟨b, off, rfl, hbm, cx⟩ := RdN.int (H1.out.ri.rd.below HR.out.bel) (by rw [HRN.out]; exact hlt) hx
      have HS : Hid (fl raw time (k + 1) = if x ≥ time then fl raw time k ++ [x] else fl raw time k) := by
        show _ = _
        rw [← hx]
        rfl
      obtain ⟨Z, hZ⟩ : ∃ Z, fl raw time k = Z := ⟨_, rfl⟩
      rw [hZ] at HM HR HS
      clear hZ hx
      by_cases hxt : x ≥ time
      · have hxt2 : time ≤ x := hxt
        obtain ⟨Y, hY⟩ : ∃ Y, Z ++ [x] = Y := ⟨_, rfl⟩
        have HY : Hid (Z ++ [x] = Y ∧ Y.length = m + 1) := ⟨hY, by rw [← hY, List.length_append, HM.out]; rfl⟩
        have HYE : Hid (fl raw time (k + 1) = Y) := (HS.out.trans (if_pos hxt)).trans hY
        clear HS hY
        go_wp2_with (at_builtin; refine wpList_append_R tyI (fun _ => True) _ rfl (.tmp 37) (.tmp 42) rfl (.slice qa m qc) _ _ Z [x] rfl rfl ((Hid.out HR).on (al _ _)).own (RdN.newAt cI _ _ _ _ _ (by simp) rfl trivial) (by rw [HM.out]; omega) (by simp) Y HY.out.1 ?_; intro qa2 qc2 w3 ho hmw; have H3 : Hid (Ri w1 w3 (.slice qa2 Y.length qc2) Y) := ((Hid.out HR).on (al _ _)).app ho hmw; clear ho hmw)
        go_roundw
        case rel =>
          refine ⟨k + 1, m + 1, qa2, qc2, by go_num, by omega, by rw [HY.out.2], ?_, ?_⟩
          · rw [HYE.out]; exact HY.out.2
          · have := H3.out
            rw [HY.out.2] at this
            rw [HYE.out]
            exact this
        case measure => simp [intOf]; omega
      · have hxt2 : ¬ time ≤ x := hxt
        have HYE : Hid (fl raw time (k + 1) = Z) := HS.out.trans (if_neg hxt)
        clear HS
        go_wp2_with fail
        go_roundw
        case rel =>
          refine ⟨k + 1, m, qa, qc, by go_num, by omega, rfl, ?_, ?_⟩
          · rw [HYE.out]; exact HM.out
          · rw [HYE.out]; exact HR.out
        case measure => simp [intOf]; omega
    · obtain rfl : k = rn := by omega
      rename World => wA
      have HQ0 := H1.out.flt HR.out HM.out
      have hge : ∀ x ∈ fl raw time k, time ≤ x := fun x hx => (fl_of hx).1
      obtain ⟨Q, hQ⟩ : ∃ Q, fl raw time k = Q := ⟨_, rfl⟩
      rw [hQ] at HQ0 HM hge
      have HQ : Hid (Qu w wA qa m qc Q) := HQ0
      have hqu := HQ0.up
      have hql : Q.length = m := HM.out
      have hm100 : m ≤ 100 := HQ0.le
      have HQL : Hid (Q.length = m) := hql
      clear HR hQ HQ0 H0
      obtain ⟨hd1, hd2, hiff, ha, hno⟩ := D.free_of hqu hge HTO.out.1 HTO.out.2
      obtain ⟨n1, hn1⟩ : ∃ n1, many Q to = n1 := ⟨_, rfl⟩
      obtain ⟨⟨gi, gt, gn⟩, hg⟩ : ∃ g, dec 2 to time 1125899906842624 Q = g := ⟨_, rfl⟩
      rw [hg] at hd2 ha hno
      rw [hn1] at hd1 hiff ha hno
      rw [hql] at hiff ha hno
      dsimp only at hd2 ha hno
      subst hd2
      have HG1 : Hid (dec 1 to time 1125899906842624 Q = ⟨true, to, n1⟩) := hd1
      have HG2 : Hid (dec 2 to time 1125899906842624 Q = ⟨true, gt, gn⟩) := hg
      have HA : Hid (∀ i, i < m → (i < n1 ↔ Q.getD i 0 ≤ to)) := hiff
      have HY : Hid (0 < m ∧ Q.getD 0 0 ≤ to → gt = Q.getD 0 0 ∧ 1 ≤ gn ∧ gn ≤ n1 ∧ (gn = m ∨ Q.getD 0 0 < Q.getD gn 0)) := ha
      have HNO : Hid (¬ (0 < m ∧ Q.getD 0 0 ≤ to) → gt = to ∧ gn = 0 ∧ n1 = 0) := hno
      have HN1 : Hid (n1 ≤ m) := by
        have := D.many_le Q to
        rw [hn1, hql] at this
        exact this
      clear hd1 hg hiff ha hno hn1 hqu hge hql
      go_wp2_with (first
        | (go_at_call 10; refine (Qu.p (Hid.out HQ) 1 to time 1125899906842624 (Hid.out HG1)).mono ?_; rintro e w4 ⟨rfl, h4⟩; have H4 : Hid (Qu w w4 qa m qc Q) := h4; clear h4 HQ)
        | (go_at_call 10; refine (Qu.p (Hid.out H4) 2 to time 1125899906842624 (Hid.out HG2)).mono ?_; rintro e w5 ⟨rfl, h5⟩; have H5 : Hid (Qu w w5 qa m qc Q) := h5; clear h5))
      go_loopw [17] (fun s17 wr => ∃ (j : Nat), s17 = .int .i64 j ∧ j ≤ m ∧ Hid (Qu w wr qa m qc Q)) (fun s17 _ => m - (intOf s17).toNat)
      case atStart => exact ⟨0, rfl, Nat.zero_le _, H5.out⟩
      case round =>
        obtain ⟨j, rfl, hj, HJ⟩ := hrel
        by_cases hlt2 : j < m
        · have hlt2' : (j : Int) < (m : Int) := by omega
          obtain ⟨y, hy⟩ : ∃ y, Q.getD j 0 = y := ⟨_, rfl⟩
          obtain ⟨b, off, rfl, hbm, cy⟩ := RdN.int HJ.out.ri.rd (by rw [HQL.out]; exact hlt2) hy
          have hiff := HA.out j hlt2
          rw [hy] at hiff
          clear hy
          by_cases hjg : j < n1
          · have g1 : y ≤ to := hiff.1 hjg
            have g2 : (j : Int) < (n1 : Int) := by omega
            clear hiff
            go_wp2_with fail
            go_roundw
            case rel => exact ⟨j + 1, by go_num, by omega, HJ.out⟩
            case measure => simp [intOf]; omega
          · have g1 : ¬ y ≤ to := fun e => hjg (hiff.2 e)
            have g2 : ¬ (j : Int) < (n1 : Int) := by omega
            clear hiff
            go_wp2_with fail
            go_roundw
            case rel => exact ⟨j + 1, by go_num, by omega, HJ.out⟩
            case measure => simp [intOf]; omega
        · obtain rfl : j = m := by omega
          by_cases hj0 : 0 < j
          · have hj0' : (0 : Int) < (j : Int) := by omega
            obtain ⟨y, hy⟩ : ∃ y, Q.getD 0 0 = y := ⟨_, rfl⟩
            obtain ⟨b, off, rfl, hbm, cy⟩ := RdN.int HJ.out.ri.rd (by rw [HQL.out]; exact hj0) hy
            have cy0 : wr.cell? ⟨b, off, none⟩ = some (.int .i64 y) := by simpa using cy
            have hY := HY.out
            have hNO := HNO.out
            rw [hy] at hY hNO
            by_cases hyt : y ≤ to
            · obtain ⟨rfl, k1, k2, k3⟩ := hY ⟨hj0, hyt⟩
              have q1 : ((gn : Nat) : Int) ≥ 1 := by omega
              have q1b : (1 : Int) ≤ ((gn : Nat) : Int) := by omega
              have q2 : ((gn : Nat) : Int) ≤ ((n1 : Nat) : Int) := by omega
              by_cases hgm : gn = j
              · have q3 : (((gn : Nat) : Int) == ((j : Nat) : Int)) = true := by simp [hgm]
                subst hgm
                clear hNO hY k3 hy
                go_wp2_with fail
                go_region
                all_goals
                  go_wp2_with fail
                  go_ret
                  exact ⟨rfl, Below.on HJ.out.bel ⟨rfl, rfl, rfl, Nat.le_refl _, fun _ _ => rfl⟩⟩
              · have q3 : (((gn : Nat) : Int) == ((j : Nat) : Int)) = false := by simp; omega
                have hgj : gn < j := by have := HN1.out; omega
                have hgj' : (gn : Int) < (j : Int) := by omega
                obtain ⟨z, hz⟩ : ∃ z, Q.getD gn 0 = z := ⟨_, rfl⟩
                obtain ⟨b2, off2, e2, _, cz⟩ := RdN.int HJ.out.ri.rd (by rw [HQL.out]; exact hgj) hz
                simp at e2
                obtain ⟨rfl, rfl⟩ := e2
                have q4 : z > gt := by rcases k3 with k3 | k3; exact absurd k3 hgm; rw [hz] at k3; exact k3
                have q4b : gt < z := q4
                have q5 : ¬ ((gn : Nat) : Int) = ((j : Nat) : Int) := by omega
                clear hNO hY k3 hy hz
                go_wp2_with fail
                go_quiet (fail)
                go_wp2_with fail
                go_ret
                exact ⟨rfl, Below.on HJ.out.bel ⟨rfl, rfl, rfl, Nat.le_refl _, fun _ _ => rfl⟩⟩
            · obtain ⟨rfl, rfl, rfl⟩ := hNO (fun e => hyt e.2)
              clear hNO hY hy
              go_wp2_with fail
              go_ret
              exact ⟨rfl, HJ.out.bel⟩
          · obtain rfl : j = 0 := by omega
            obtain ⟨rfl, rfl, rfl⟩ := HNO.out (fun e => hj0 e.1)
            go_wp2_with fail
            go_ret
            exact ⟨rfl, HJ.out.bel⟩
end Go.Proofs.Ytmciameckbbgaaa
