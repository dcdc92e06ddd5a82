/- Proved: the contract of the document's Check. -/
import Derived.Test.YtpifkoblcbjiiaaCk2
namespace Go.Proofs.Ytpifkoblcbjiiaa
open Go.RowKit Go.Shelf Go.Sort
set_option linter.unusedVariables false

theorem nd_iff (l : List Rl) : (l.map key).Nodup ↔ ∀ i j, i < j → j < l.length → key (nthR l i) ≠ key (nthR l j) := by
  unfold List.Nodup
  rw [List.pairwise_iff_getElem]
  have e : ∀ i (hi : i < l.length), (l.map key)[i]'(by simpa using hi) = key (nthR l i) := fun i hi => by simp [nthR, hi]
  constructor
  · intro h i j hij hj
    have := h i j (by simp; omega) (by simpa using hj) hij
    rwa [e i (by omega), e j hj] at this
  · intro h i j hi hj hij
    rw [e i (by simpa using hi), e j (by simpa using hj)]
    exact h i j hij (by simpa using hj)
theorem key_is (r q : Rl) : isB r.st r.cl q = true ↔ key q = key r := by
  rw [isB_true]
  unfold key
  simp
theorem fnd_self {l : List Rl} {k : Nat} (hk : k < l.length) (h : ∀ i, i < k → key (nthR l i) ≠ key (nthR l k)) : fnd l (nthR l k).st (nthR l k).cl = (k : Int) := by
  rw [fnd_idx]
  refine idxP_at (fun i hi => ?_) hk ((key_is _ _).2 rfl)
  cases e : isB (nthR l k).st (nthR l k).cl (nthR l i)
  · rfl
  · exact absurd ((key_is _ _).1 e) (h i hi)
theorem fnd_first {l : List Rl} {k : Nat} (hk : k < l.length) (h : fnd l (nthR l k).st (nthR l k).cl = (k : Int)) : ∀ i, i < k → key (nthR l i) ≠ key (nthR l k) := by
  intro i hi e
  rw [fnd_idx] at h
  rcases idxP_cases (isB (nthR l k).st (nthR l k).cl) l with ⟨g, _⟩ | ⟨m, hm, g, _, g2⟩
  · rw [g] at h; omega
  · rw [g] at h
    have hmk : m = k := by omega
    have := g2 i (by omega)
    rw [(key_is _ _).2 e] at this
    cases this
theorem chk_wrong {l : List Rl} {k : Nat} (hk : k < l.length) (h : okR (nthR l k) = false) : chkE l = 70 := by
  unfold chkE chkB
  rw [show l.all okR = false by rw [List.all_eq_false]; exact ⟨_, nthR_mem hk, by rw [h]; decide⟩]
  simp
theorem chk_twice {l : List Rl} {k : Nat} (hk : k < l.length) (h : fnd l (nthR l k).st (nthR l k).cl ≠ (k : Int)) : chkE l = 70 := by
  unfold chkE chkB
  rw [decide_eq_false (p := (l.map key).Nodup) (fun hnd => h (fnd_self hk (fun i hi => (nd_iff l).1 hnd i k hi hk)))]
  simp
theorem chk_many {l : List Rl} (h : 32 < l.length) : chkE l = 70 := by
  unfold chkE chkB
  rw [decide_eq_false (show ¬ l.length ≤ 32 by omega)]
  rfl
theorem chk_fine {l : List Rl} (hl : l.length ≤ 32) (h : ∀ i, i < l.length → okR (nthR l i) = true ∧ fnd l (nthR l i).st (nthR l i).cl = (i : Int)) : chkE l = 0 := by
  unfold chkE chkB
  rw [decide_eq_true hl, show l.all okR = true by rw [List.all_eq_true]; intro r hr; obtain ⟨i, hi, rfl⟩ := (memR l r).1 hr; exact (h i hi).1, decide_eq_true ((nd_iff l).2 (fun i j hij hj => fnd_first hj (h j hj).2 i hij))]
  rfl

/-- A goal that the walk is not to look into. -/
structure Veil (p : Prop) : Prop where
  out : p
theorem veil_step {P : Program} {ops : Array Oper} {C : World → Prop} {Q : Act → Prop} {a : Act} {o : Oper} {rest : List Oper}
    (h : ∀ K : Act → Prop, (∀ a, Veil (wpQuiet P ops C Q rest a) → K a) → if Region.wanted o (yielded ops a.tmps) then o.quiet P a C K else K (a.put o.dst undef)) : wpQuiet P ops C Q (o :: rest) a :=
  wpQuiet_step (fun K hK => h K (fun a hv => hK a hv.out))
/-- An operation whose guard bars it is passed over. -/
theorem skip_step {P : Program} {ops : Array Oper} {C : World → Prop} {Q : Act → Prop} {a : Act} {o : Oper} {rest : List Oper} (hw : Region.wanted o (yielded ops a.tmps) = false) (h : Veil (wpQuiet P ops C Q rest (a.put o.dst undef))) : Veil (wpQuiet P ops C Q (o :: rest) a) :=
  ⟨wpQuiet_step (fun K hK => by rw [hw]; exact hK _ h.out)⟩

set_option maxRecDepth 100000 in
set_option maxHeartbeats 4000000 in
theorem rcheck_any (w : World) (a : Option Addr) (cp : Nat) (l : List Rl) (h : RdR w a l) (hl : Lt l) :
    Calls Try.prog 49 #[.slice a l.length cp] w fun e w' => e = .returned (.int .i64 (chkE l)) ∧ Below w.heap.size w w' := by
  have mixed : Try.prog.follows .mixedOrders = true := by kernel_rfl
  have HR : Hid (RdR w a l) := h
  have HL : Hid _ := hl.2
  have hll := hl.1
  clear h hl
  by_cases h3 : (32 : Int) < (l.length : Int)
  · rw [chk_many (by omega)]
    go_enter Try.func49, Try.ntmps49
    go_wp2
    go_ret
    exact ⟨rfl, Below.refl _ _⟩
  · go_enter Try.func49, Try.ntmps49
    go_wp2_with fail
    go_loopw [3] (fun s3 wr => ∃ k : Nat, k ≤ l.length ∧ s3 = .int .i64 k ∧ Hid (∀ i, i < k → okR (nthR l i) = true ∧ fnd l (nthR l i).st (nthR l i).cl = (i : Int)) ∧ Below w.heap.size w wr) (fun s3 _ => l.length - (intOf s3).toNat)
    case atStart => exact ⟨0, Nat.zero_le _, rfl, (fun i hi => absurd hi (Nat.not_lt_zero _) : ∀ i, i < 0 → okR (nthR l i) = true ∧ fnd l (nthR l i).st (nthR l i).cl = (i : Int)), Below.refl _ _⟩
    case round =>
      obtain ⟨k, hk, rfl, HJ, hbw⟩ := hrel
      by_cases hkl : k < l.length
      · have hk' : (k : Int) < (l.length : Int) := by omega
        obtain ⟨r, hr⟩ : ∃ r, nthR l k = r := ⟨_, rfl⟩
        obtain ⟨b, off, rfl, hB, x0, x1, x2, x3⟩ := (RdR.below HR.out hbw).cells hkl hr
        have hrd := (RdR.at (RdR.below HR.out hbw) hkl hr).2.2
        have hrl : r.os.length ≤ 1000 := by have := HL.out r (hr ▸ nthR_mem hkl); omega
        have HRE : Hid _ := hr
        clear hr
        cases hok : okR r with
        | false =>
          have C : ∀ d os, Calls Try.prog 67 #[rv r] (grow (redrawn wr d) os) fun e w'' => e = .returned (.bool false) ∧ ∃ p : Regrown, w'' = grow (redrawn wr p.d) p.os := fun d os =>
            Calls.regrown_of ((fine_any (grow (redrawn wr d) os) r (hrd.below (below_regrown wr d os)) hrl).mono (fun e w' g => ⟨by rw [g.1, hok], g.2⟩))
          have HOK : Hid _ := hok
          have X0 := cell_regrown x0
          have X1 := cell_regrown x1
          have X2 := cell_regrown x2
          have X3 := cell_regrown x3
          obtain ⟨st, cl, nx, sa, sc, os⟩ := r
          dsimp only [rv] at C X0 X1 X2 X3
          clear hok hrd x0 x1 x2 x3
          go_wp2_with fail
          refine wp_region_quiet_below (by assumption) (by kernel_rfl) ?_
          quiet_step (fail)
          quiet_step (fail)
          quiet_step (fail)
          quiet_step (fail)
          quiet_step (first | (go_at_call 67; exact C _ _))
          quiet_step (fail)
          refine veil_step (fun K hK => ?_)
          go_simp
          refine hK _ ?_
          clear hK K
          iterate 14 (refine skip_step (by kernel_rfl) ?_)
          go_simp
          refine Veil.mk ?_
          repeat (quiet_step (fail))
          refine wpQuiet_nil ?_
          intro p
          have hbq := below_regrown wr p.d p.os
          go_wp2_with fail
          go_ret
          refine ⟨?_, hbw.trans (hbq.mono hbw.size)⟩
          rw [chk_wrong hkl (by rw [HRE.out]; exact HOK.out)]
          rfl
        | true =>
          have C := fine_any wr.drew r (hrd.below ((Below.refl _ wr).drew)) hrl
          rw [hok] at C
          have HOK : Hid _ := hok
          have HF : Hid (∀ W, Below wr.heap.size wr W → W.cell? ⟨b, off + k * 4, none⟩ = some (.int .i64 r.st) ∧ W.cell? ⟨b, off + k * 4 + 1, none⟩ = some (.int .i64 r.cl) ∧ W.cell? ⟨b, off + k * 4 + 2, none⟩ = some (.int .i64 r.nx) ∧ W.cell? ⟨b, off + k * 4 + 3, none⟩ = some (.slice r.sa r.os.length r.sc) ∧ Calls Try.prog 68 #[.slice (some ⟨b, off, none⟩) l.length cp, .int .i64 r.st, .int .i64 r.cl] W fun e w' => e = .returned (.int .i64 (fnd l r.st r.cl)) ∧ W = w') := fun W hW =>
            ⟨(hW.cell (p := ⟨b, off + k * 4, none⟩) hB).trans x0, (hW.cell (p := ⟨b, off + k * 4 + 1, none⟩) hB).trans x1, (hW.cell (p := ⟨b, off + k * 4 + 2, none⟩) hB).trans x2, (hW.cell (p := ⟨b, off + k * 4 + 3, none⟩) hB).trans x3, rfind_any W _ cp l _ _ (RdR.below (RdR.below HR.out hbw) hW) (by omega)⟩
          obtain ⟨v, hv⟩ : ∃ v, fnd l r.st r.cl = v := ⟨_, rfl⟩
          rw [hv] at HF
          have HV : Hid _ := hv
          have hb0 : Below wr.heap.size wr wr.drew := (Below.refl _ wr).drew
          clear hv hok hrd
          obtain ⟨st, cl, nx, sa, sc, os⟩ := r
          dsimp only [rv] at C HF x0 x1 x2 x3
          by_cases hvk : v = (k : Int)
          · subst hvk
            go_wp2_with fail
            go_region_held3 (fun w' => w'.cell? ⟨b, off + k * 4, none⟩ = some (.int .i64 st) ∧ w'.cell? ⟨b, off + k * 4 + 1, none⟩ = some (.int .i64 cl) ∧ w'.cell? ⟨b, off + k * 4 + 2, none⟩ = some (.int .i64 nx) ∧ w'.cell? ⟨b, off + k * 4 + 3, none⟩ = some (.slice sa os.length sc)) (go_keep) (first | (go_at_call 67; refine C.mono ?_; rintro e w1 ⟨rfl, hb1⟩; have hb2 := Below.trans hb0 hb1; obtain ⟨g0, g1, g2, g3, F1⟩ := HF.out w1 hb2) | (go_at_call 68; refine F1.mono ?_; rintro e w' ⟨rfl, rfl⟩))
            all_goals go_wp2
            all_goals go_roundw
            case rel =>
              refine ⟨k + 1, by omega, by go_num, ?_, hbw.trans (hb2.mono hbw.size)⟩
              refine (fun i hi => ?_ : ∀ i, i < k + 1 → okR (nthR l i) = true ∧ fnd l (nthR l i).st (nthR l i).cl = (i : Int))
              by_cases e : i = k
              · rw [e, HRE.out]; exact ⟨HOK.out, HV.out⟩
              · exact HJ.out i (by omega)
            case measure => simp [intOf]; omega
          · have hvb : (v == (k : Int)) = false := by simpa using hvk
            go_wp2_with fail
            go_region_held3 (fun w' => w'.cell? ⟨b, off + k * 4, none⟩ = some (.int .i64 st) ∧ w'.cell? ⟨b, off + k * 4 + 1, none⟩ = some (.int .i64 cl) ∧ w'.cell? ⟨b, off + k * 4 + 2, none⟩ = some (.int .i64 nx) ∧ w'.cell? ⟨b, off + k * 4 + 3, none⟩ = some (.slice sa os.length sc)) (go_keep) (first | (go_at_call 67; refine C.mono ?_; rintro e w1 ⟨rfl, hb1⟩; have hb2 := Below.trans hb0 hb1; obtain ⟨g0, g1, g2, g3, F1⟩ := HF.out w1 hb2) | (go_at_call 68; refine F1.mono ?_; rintro e w' ⟨rfl, rfl⟩))
            all_goals go_wp2
            all_goals go_ret
            all_goals refine ⟨?_, hbw.trans (hb2.mono hbw.size)⟩
            all_goals (rw [chk_twice hkl (by rw [HRE.out]; rw [show fnd l st cl = v from HV.out]; exact hvk)]; rfl)
      · obtain rfl : k = l.length := by omega
        go_wp2
        go_ret
        refine ⟨?_, hbw⟩
        rw [chk_fine (by omega) HJ.out]
        rfl
end Go.Proofs.Ytpifkoblcbjiiaa
