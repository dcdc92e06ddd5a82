/- Joined: the texts that follow, each with its own sentence. -/
import Derived.Test.YtadmojehemdoaaaGreatDon
import Derived.Test.YtadmojehemdoaaaGreatJRf
import Derived.Test.YtadmojehemdoaaaGreatNod
import Derived.Deep.QuietTactic
import Derived.BigQuiet
import Derived.Test.YtadmojehemdoaaaGreatJRch
/- Proved: the document's Same and the statements' same at one list; messages in the two forms that the texts have. -/
namespace Go.Proofs.YtadmojehemdoaaaGreat
open Go.RowKit Go.Shelf
set_option linter.unusedVariables false
set_option maxRecDepth 100000

set_option maxRecDepth 100000 in
set_option maxHeartbeats 400000 in
theorem sameD_yes (w : World) (a b : Option Addr) (c d : Nat) (l : List Dn) (ha : RdD w a l) (hb : RdD w b l) (hl : l.length ≤ 100000) :
    Calls Tryz.prog 26 #[.slice a l.length c, .slice b l.length d] w fun e w' => e = .returned (.bool true) ∧ Below w.heap.size w w' := by
  have mixed : Tryz.prog.follows .mixedOrders = true := by kernel_rfl
  have HA : Hid _ := ha
  have HB : Hid _ := hb
  clear ha hb
  go_enter Tryz.func26, Tryz.ntmps26
  go_wp2_with fail
  go_loopw [5] (fun s5 wr => ∃ k : Nat, k ≤ l.length ∧ s5 = .int .i64 k ∧ Below w.heap.size w wr) (fun s5 _ => l.length - (intOf s5).toNat)
  case atStart => exact ⟨0, Nat.zero_le _, rfl, Below.refl _ _⟩
  case round =>
    obtain ⟨k, hk, rfl, hbw⟩ := hrel
    by_cases hkl : k < l.length
    · have hk' : (k : Int) < (l.length : Int) := by omega
      obtain ⟨x, hx⟩ : ∃ x, nthD l k = x := ⟨_, rfl⟩
      obtain ⟨b1, o1, rfl, _, x0, x1, x2, x3, x4, x5, x6⟩ := (RdD.below HA.out hbw).cells hkl hx
      obtain ⟨b2, o2, rfl, _, y0, y1, y2, y3, y4, y5, y6⟩ := (RdD.below HB.out hbw).cells hkl hx
      clear hx
      go_wp2_with fail
      go_quiet (fail)
      go_wp2
      go_roundw
      case rel => exact ⟨k + 1, by omega, by go_num, hbw.trans (below_drewN _ _ _)⟩
      case measure => simp [intOf]; omega
    · obtain rfl : k = l.length := by omega
      go_wp2
      go_ret
      exact ⟨rfl, hbw⟩


def q8 (m : M) : Q.M := ((m.t, m.fr, m.sq), m.dst, m.cl, m.bd)
theorem flat_q8 (l : List M) : Q.flat (l.map q8) = flatM l := by
  induction l with
  | nil => rfl
  | cons x r ih =>
    show Q.enc (q8 x) ++ Q.flat (r.map q8) = encM x ++ flatM r
    rw [ih]
    rfl
/-- A row of messages, in the queue's form. -/
theorem own_q8 {W : World} {b0 : Nat} {v : Value} {l : List M} (h : W.ownsRow b0 39 6 v l.length (flatM l)) : Q.Own W v (l.map q8) := by
  unfold Q.Own
  rw [flat_q8, List.length_map]
  refine ⟨h.1, ?_⟩
  rcases h.2 with g | ⟨g, cap, cur, e1, e2, e3⟩
  · exact .inl g
  · exact .inr ⟨g, cap, cur, e1, Nat.zero_le _, e3⟩
theorem sameM_yes {w : World} {b0 b1 : Nat} {va vb : Value} {l : List M} (ha : w.ownsRow b0 39 6 va l.length (flatM l)) (hb : w.ownsRow b1 39 6 vb l.length (flatM l)) (hl : l.length ≤ 1000) :
    Calls Tryz.prog 15 #[va, vb] w fun e w' => e = .returned (.bool true) ∧ Below w.heap.size w w' := Q.same_any (own_q8 ha) (own_q8 hb) (by simpa using hl)
end Go.Proofs.YtadmojehemdoaaaGreat
/- Proved: the contract of the statements' small. -/
namespace Go.Proofs.YtadmojehemdoaaaGreat
open Go.RowKit Go.Shelf
set_option linter.unusedVariables false

def hvyF (f : Fd) : Bool := decide (60 < f.rs.length) || (decide (50 < f.ps.length) || (decide (50 < f.ss.length) || (decide (20 < f.is.length) || f.rs.any (fun r => decide (20 < r.os.length)))))
def hvyW (d : Wd) : Bool := decide (50 < d.ps.length) || (decide (20 < d.fs.length) || d.fs.any hvyF)
theorem ww_of {w : World} {d : Wd} (h1 : RdI w w.heap.size d.pa d.ps) (h2 : RdF w d.fa d.fs) (h : hvyW d = false) : Ww w d := by
  unfold hvyW at h
  simp only [Bool.or_eq_false_iff, decide_eq_false_iff_not, List.any_eq_false] at h
  refine ⟨h1, h2, by omega, by omega, fun f hf => ?_⟩
  have := h.2.2 f hf
  unfold hvyF at this
  simp only [Bool.or_eq_true, decide_eq_true_eq, List.any_eq_true, not_or, not_exists, not_and] at this
  exact ⟨⟨by omega, fun r hr => by have := this.2.2.2.2 r hr; omega⟩, by omega, by omega, by omega⟩

set_option maxRecDepth 100000 in
set_option maxHeartbeats 2000000 in
theorem small_any (w : World) (d : Wd) (h1 : RdI w w.heap.size d.pa d.ps) (h2 : RdF w d.fa d.fs) :
    Calls Tryz.prog 7 #[wv d] w fun e w' => e = .returned (.bool (!hvyW d)) ∧ Below w.heap.size w w' := by
  obtain ⟨W0, hW0⟩ : ∃ W0, W0 = w.alloc (.cells (wcs d) 25) := ⟨_, rfl⟩
  have hb0 : Below w.heap.size w W0 := by rw [hW0]; exact (Below.refl _ w).alloc (Nat.le_refl _) _
  obtain ⟨B, hB⟩ : ∃ B, w.heap.size = B := ⟨_, rfl⟩
  have HBE : Hid _ := hB
  have x0 : W0.cell? ⟨B, 0, none⟩ = some (.slice d.pa d.ps.length d.pc) := by rw [hW0, ← hB, World.cell?_alloc_new]; rfl
  have x1 : W0.cell? ⟨B, 1, none⟩ = some (.slice d.fa d.fs.length d.fc) := by rw [hW0, ← hB, World.cell?_alloc_new]; rfl
  have lB := clt x0
  dsimp only at lB
  have HRF : Hid (RdF W0 d.fa d.fs) := h2.below hb0
  have HW0 : Hid _ := hW0
  obtain ⟨fa, hfa⟩ : ∃ fa, d.fa = fa := ⟨_, rfl⟩
  rw [hfa] at HRF x1
  have HX1 : Hid _ := x1
  rw [hW0] at x0 x1
  dsimp only [wcs] at HW0 x0 x1
  dsimp only [wv]
  simp only [hfa] at HW0 x0 x1 ⊢
  obtain ⟨R, hR⟩ : ∃ R, hvyW d = R := ⟨_, rfl⟩
  have HR : Hid _ := hR
  rw [hR]
  clear h1 h2 hW0 hfa hR
  by_cases c0 : (50 : Int) < (d.ps.length : Int)
  · have hRt : R = true := by rw [← HR.out]; unfold hvyW; rw [decide_eq_true (show 50 < d.ps.length by omega)]; rfl
    subst hRt
    have d0 : decide ((50 : Int) < (d.ps.length : Int)) = true := decide_eq_true c0
    go_enter Tryz.func7, Tryz.ntmps7
    go_wp2_with fail
    go_ret
    exact ⟨rfl, by rw [← HW0.out]; first | exact hb0 | (rw [← HBE.out]; exact hb0)⟩
  · have d0 : decide ((50 : Int) < (d.ps.length : Int)) = false := decide_eq_false c0
    by_cases c1 : (20 : Int) < (d.fs.length : Int)
    · have hRt : R = true := by rw [← HR.out]; unfold hvyW; rw [decide_eq_true (show 20 < d.fs.length by omega)]; simp
      subst hRt
      have d1 : decide ((20 : Int) < (d.fs.length : Int)) = true := decide_eq_true c1
      go_enter Tryz.func7, Tryz.ntmps7
      go_wp2_with fail
      go_ret
      exact ⟨rfl, by rw [← HW0.out]; first | exact hb0 | (rw [← HBE.out]; exact hb0)⟩
    · have d1 : decide ((20 : Int) < (d.fs.length : Int)) = false := decide_eq_false c1
      have HRA : Hid (R = d.fs.any hvyF) := by
        show R = _
        rw [← HR.out]
        unfold hvyW
        rw [decide_eq_false (show ¬ 50 < d.ps.length by omega), decide_eq_false (show ¬ 20 < d.fs.length by omega)]
        rfl
      go_enter Tryz.func7, Tryz.ntmps7
      go_wp2_with fail
      rw [← HW0.out]
      clear x0 x1 hB d0 d1
      go_loopw [3] (fun s3 wr => ∃ k : Nat, k ≤ d.fs.length ∧ s3 = .int .i64 k ∧ Hid (∀ i, i < k → hvyF (nthF d.fs i) = false) ∧ Below W0.heap.size W0 wr) (fun s3 _ => d.fs.length - (intOf s3).toNat)
      case atStart => exact ⟨0, Nat.zero_le _, rfl, (fun i hi => absurd hi (Nat.not_lt_zero _) : ∀ i, i < 0 → hvyF (nthF d.fs i) = false), Below.refl _ _⟩
      case round =>
        obtain ⟨k, hk, rfl, HJ, hbw⟩ := hrel
        have y1 := (hbw.cell (p := ⟨B, 1, none⟩) lB).trans HX1.out
        have lBr : B < wr.heap.size := Nat.lt_of_lt_of_le lB hbw.size
        by_cases hkl : k < d.fs.length
        · have hk' : (k : Int) < (d.fs.length : Int) := by omega
          obtain ⟨g, hg⟩ : ∃ g, nthF d.fs k = g := ⟨_, rfl⟩
          obtain ⟨b, off, rfl, hbb, z0, z1, z2, z3, z4, z5, z6⟩ := (RdF.below HRF.out hbw).cells hkl hg
          have hok := (RdF.at (RdF.below HRF.out hbw) hkl hg)
          have HRE : Hid _ := hg
          obtain ⟨kd, lk, st, ra, rc, rs, pa, pc, ps, sa, sc, ss, ia, ic, is⟩ := g
          have hrr : RdR wr ra rs := hok.r
          dsimp only at z0 z1 z2 z3 z4 z5 z6
          have HF : Hid (hvyF ⟨kd, lk, st, ra, rc, rs, pa, pc, ps, sa, sc, ss, ia, ic, is⟩ = (decide (60 < rs.length) || (decide (50 < ps.length) || (decide (50 < ss.length) || (decide (20 < is.length) || rs.any (fun r => decide (20 < r.os.length))))))) := rfl
          have HYES : Hid (hvyF ⟨kd, lk, st, ra, rc, rs, pa, pc, ps, sa, sc, ss, ia, ic, is⟩ = true → R = true) := by
            show _ → _
            intro hy
            rw [HRA.out]
            exact List.any_eq_true.2 ⟨_, nthF_mem hkl, by rw [HRE.out]; exact hy⟩
          have hb1 : Hid (Below wr.heap.size wr (wr.alloc (.cells #[.int .i64 kd, .int .i64 lk, .int .i64 st, .slice ra rs.length rc, .slice pa ps.length pc, .slice sa ss.length sc, .slice ia is.length ic] 71))) := (Below.refl _ wr).alloc (Nat.le_refl _) _
          have HBS : Hid (Below W0.heap.size W0 (wr.alloc (.cells #[.int .i64 kd, .int .i64 lk, .int .i64 st, .slice ra rs.length rc, .slice pa ps.length pc, .slice sa ss.length sc, .slice ia is.length ic] 71))) := hbw.trans ((hb1.out).mono hbw.size)
          clear hg hok
          by_cases c2 : (60 : Int) < (rs.length : Int)
          · have d2 : decide ((60 : Int) < (rs.length : Int)) = true := decide_eq_true c2
            have HRT : Hid (R = true) := HYES.out (by rw [HF.out, decide_eq_true (show 60 < rs.length by omega)]; rfl)
            go_wp2_with fail
            go_ret
            exact ⟨by rw [HRT.out]; rfl, hb0.trans ((HBS.out).mono hb0.size)⟩
          · have d2 : decide ((60 : Int) < (rs.length : Int)) = false := decide_eq_false c2
            by_cases c3 : (50 : Int) < (ps.length : Int)
            · have d3 : decide ((50 : Int) < (ps.length : Int)) = true := decide_eq_true c3
              have HRT : Hid (R = true) := HYES.out (by rw [HF.out, decide_eq_true (show 50 < ps.length by omega)]; simp)
              go_wp2_with fail
              go_ret
              exact ⟨by rw [HRT.out]; rfl, hb0.trans ((HBS.out).mono hb0.size)⟩
            · have d3 : decide ((50 : Int) < (ps.length : Int)) = false := decide_eq_false c3
              by_cases c4 : (50 : Int) < (ss.length : Int)
              · have d4 : decide ((50 : Int) < (ss.length : Int)) = true := decide_eq_true c4
                have HRT : Hid (R = true) := HYES.out (by rw [HF.out, decide_eq_true (show 50 < ss.length by omega)]; simp)
                go_wp2_with fail
                go_ret
                exact ⟨by rw [HRT.out]; rfl, hb0.trans ((HBS.out).mono hb0.size)⟩
              · have d4 : decide ((50 : Int) < (ss.length : Int)) = false := decide_eq_false c4
                by_cases c5 : (20 : Int) < (is.length : Int)
                · have d5 : decide ((20 : Int) < (is.length : Int)) = true := decide_eq_true c5
                  have HRT : Hid (R = true) := HYES.out (by rw [HF.out, decide_eq_true (show 20 < is.length by omega)]; simp)
                  go_wp2_with fail
                  go_ret
                  exact ⟨by rw [HRT.out]; rfl, hb0.trans ((HBS.out).mono hb0.size)⟩
                · have d5 : decide ((20 : Int) < (is.length : Int)) = false := decide_eq_false c5
                  have HFN : Hid (hvyF ⟨kd, lk, st, ra, rc, rs, pa, pc, ps, sa, sc, ss, ia, ic, is⟩ = rs.any (fun r => decide (20 < r.os.length))) := by
                    show hvyF _ = _
                    rw [HF.out, decide_eq_false (show ¬ 60 < rs.length by omega), decide_eq_false (show ¬ 50 < ps.length by omega), decide_eq_false (show ¬ 50 < ss.length by omega), decide_eq_false (show ¬ 20 < is.length by omega)]
                    rfl
                  have HRR : Hid _ := RdR.below hrr hb1.out
                  have HC3 : Hid ((wr.alloc (.cells #[.int .i64 kd, .int .i64 lk, .int .i64 st, .slice ra rs.length rc, .slice pa ps.length pc, .slice sa ss.length sc, .slice ia is.length ic] 71)).cell? ⟨wr.heap.size, 3, none⟩ = some (.slice ra rs.length rc)) := by
                    show World.cell? _ _ = _
                    rw [World.cell?_alloc_new]; rfl
                  clear hrr
                  go_wp2_with fail
                  obtain ⟨W3, hW3⟩ : ∃ W3, W3 = wr.alloc (.cells #[.int .i64 kd, .int .i64 lk, .int .i64 st, .slice ra rs.length rc, .slice pa ps.length pc, .slice sa ss.length sc, .slice ia is.length ic] 71) := ⟨_, rfl⟩
                  rw [← hW3] at HRR HC3 HBS ⊢
                  have lF : wr.heap.size < W3.heap.size := by rw [hW3]; simp
                  obtain ⟨FB, hFB⟩ : ∃ FB, wr.heap.size = FB := ⟨_, rfl⟩
                  rw [hFB] at HC3 lF ⊢
                  clear hW3 hFB hb1 z0 z1 z2 z3 z4 z5 z6 y1 lBr hbb d2 d3 d4 d5
                  go_loopw [5] (fun s5 wq => ∃ j : Nat, j ≤ rs.length ∧ s5 = .int .i64 j ∧ Hid (∀ i, i < j → (nthR rs i).os.length ≤ 20) ∧ wq = W3) (fun s5 _ => rs.length - (intOf s5).toNat)
                  case atStart => exact ⟨0, Nat.zero_le _, rfl, (fun i hi => absurd hi (Nat.not_lt_zero _) : ∀ i, i < 0 → (nthR rs i).os.length ≤ 20), rfl⟩
                  case round =>
                    obtain ⟨j, hj, rfl, HI, rfl⟩ := hrel
                    have y3 := HC3.out
                    by_cases hjl : j < rs.length
                    · have hj' : (j : Int) < (rs.length : Int) := by omega
                      obtain ⟨r, hr⟩ : ∃ r, nthR rs j = r := ⟨_, rfl⟩
                      obtain ⟨b2, off2, rfl, hbb2, _, _, _, r3⟩ := RdR.cells HRR.out hjl hr
                      have HRR2 : Hid _ := hr
                      clear hr
                      by_cases e1 : (20 : Int) < (r.os.length : Int)
                      · have HRT : Hid (R = true) := HYES.out (by rw [HFN.out]; exact List.any_eq_true.2 ⟨r, HRR2.out ▸ nthR_mem hjl, decide_eq_true (by omega)⟩)
                        go_wp2_with fail
                        go_ret
                        exact ⟨by rw [HRT.out]; rfl, hb0.trans ((HBS.out).mono hb0.size)⟩
                      · have HE1 : Hid (r.os.length ≤ 20) := by show _ ≤ 20; omega
                        go_wp2_with fail
                        go_roundw
                        case rel =>
                          refine ⟨j + 1, by omega, by go_num, ?_, by first | rfl | trivial⟩
                          refine (fun i hi => ?_ : ∀ i, i < j + 1 → (nthR rs i).os.length ≤ 20)
                          by_cases e : i = j
                          · rw [e, HRR2.out]; exact HE1.out
                          · exact HI.out i (by omega)
                        case measure => simp [intOf]; omega
                    · obtain rfl : j = rs.length := by omega
                      go_wp2_with fail
                      go_roundw
                      case rel =>
                        refine ⟨k + 1, by omega, by go_num, ?_, HBS.out⟩
                        refine (fun i hi => ?_ : ∀ i, i < k + 1 → hvyF (nthF d.fs i) = false)
                        by_cases e : i = k
                        · rw [e, HRE.out, HFN.out]
                          exact List.any_eq_false.2 (fun r hr => by obtain ⟨i, hi, rfl⟩ := (memR rs r).1 hr; have := HI.out i hi; simp; omega)
                        · exact HJ.out i (by omega)
                      case measure => simp [intOf]; omega
        · obtain rfl : k = d.fs.length := by omega
          go_wp2_with fail
          go_ret
          refine ⟨?_, hb0.trans (hbw.mono hb0.size)⟩
          rw [HRA.out, List.any_eq_false.2 (fun f hf => by obtain ⟨i, hi, rfl⟩ := (memF d.fs f).1 hf; rw [HJ.out i hi]; decide)]
          rfl

end Go.Proofs.YtadmojehemdoaaaGreat
