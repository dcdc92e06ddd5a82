/- Proved: a message that waits for two clocks, as plain data. -/
import Derived.Test.YtkodjioofkdepaaNpe
namespace Go.Proofs.Ytkodjioofkdepaa
open Go.RowKit Go.Shelf
set_option linter.unusedVariables false

structure Eg (t a b : Int) (x : Nd) : Prop where
  q : x.q = [am t 0]
  lg : x.lg = []
  st : x.st = 0
  sn : x.sn = 0
  c1 : x.c 1 = a
  c2 : x.c 2 = b
theorem Eg.start (s : Nat) {t : Int} (t0 : 0 ≤ t) : heE 3 0 (nd0 (ecD s) 0) 1 0 (am t 0) = 0 ∧ Eg t 0 0 (heN 3 0 (nd0 (ecD s) 0) 1 0 (am t 0)) := by
  have hE : heE 3 0 (nd0 (ecD s) 0) 1 0 (am t 0) = 0 := by
    unfold heE
    have ha : C.atC 3 0 (nd0 (ecD s) 0).c 1 = 0 := rfl
    have hK : Q.hasK (nd0 (ecD s) 0).q (am t 0).1 = false := rfl
    rw [if_neg (by decide), if_pos rfl, ha, if_neg (by decide), if_neg (by show ¬ t < 0; omega), hK, if_neg (by decide), if_neg (by show ¬ 64 ≤ 0; omega)]
  refine ⟨hE, ?_⟩
  rw [(heN_push hE).1]
  exact ⟨rfl, rfl, rfl, rfl, rfl, rfl⟩
theorem Eg.hear1 {t a b a' : Int} {x : Nd} (h : Eg t a b x) (m : Q.M) (hm : m.1.1 = a') (ht : C.okT a' = true) (hc : a ≤ a') : heE 3 0 x 1 2 m = 0 ∧ Eg t a' b (heN 3 0 x 1 2 m) := by
  obtain ⟨e1, e2⟩ := heB (x := x) m hm (.inl rfl) ht (by rw [h.c1]; exact hc)
  refine ⟨e1, ?_⟩
  rw [e2]
  exact ⟨h.q, h.lg, h.st, h.sn, C.upC_at x.c 1 a', by show C.upC x.c 1 a' 2 = b; rw [C.upC_out _ _ (by decide)]; exact h.c2⟩
theorem Eg.hear2 {t a b b' : Int} {x : Nd} (h : Eg t a b x) (m : Q.M) (hm : m.1.1 = b') (ht : C.okT b' = true) (hc : b ≤ b') : heE 3 0 x 2 2 m = 0 ∧ Eg t a b' (heN 3 0 x 2 2 m) := by
  obtain ⟨e1, e2⟩ := heB (x := x) m hm (.inr rfl) ht (by rw [h.c2]; exact hc)
  refine ⟨e1, ?_⟩
  rw [e2]
  exact ⟨h.q, h.lg, h.st, h.sn, by show C.upC x.c 2 b' 1 = a; rw [C.upC_out _ _ (by decide)]; exact h.c1, C.upC_at x.c 2 b'⟩
theorem Eg.bnd {t a b : Int} {x : Nd} (h : Eg t a b x) (ha : a ≤ 1125899906842624) : C.bnd 3 0 x.c = min a b := by
  rw [bnd3, h.c1, h.c2]
  omega
theorem Eg.safe {t a b : Int} {x : Nd} (h : Eg t a b x) (s : Nat) (ha : a ≤ 1125899906842624) : safe (ecD s) 0 x = (decide (t < min a b) && decide (t < 100)) := by
  have hh : hd x = am t 0 := by unfold hd; rw [h.q]; rfl
  unfold Go.Proofs.Ytkodjioofkdepaa.safe
  rw [hh, h.q, ecD_n, h.bnd ha]
  show (_ && (decide (t < 100) && decide (t < min a b))) = _
  cases decide (t < 100) <;> cases decide (t < min a b) <;> rfl
theorem Eg.step {t a b : Int} {x : Nd} (h : Eg t a b x) (s : Nat) (t0 : 0 ≤ t) (t1 : t < 100) : spM (ecD s) 0 x = [⟨t + 2, 0, 0, 1, 0, 1⟩] ∧ (spN (ecD s) 0 x).lg.length = 1 := by
  have hh : hd x = am t 0 := by unfold hd; rw [h.q]; rfl
  refine ⟨?_, ?_⟩
  · rw [ec_spM h.st, hh, if_pos (show (am t 0).2.2.1 = 0 from rfl), h.sn]
    have e1 : vadd (am t 0).1.1 2 = t + 2 := by
      show C.vadd t 2 = t + 2
      unfold C.vadd
      rw [C.cnt_mid (t := t) t0 (by omega), C.cnt_mid (t := 2) (by omega) (by omega), C.cnt_mid (by omega) (by omega)]
    have e2 : ((am t 0).2.2.2 + 1) % 1000 = 1 := rfl
    rw [e1, e2]
  · show (x.lg ++ [spD (ecD s) 0 x]).length = 1
    rw [h.lg]; rfl
end Go.Proofs.Ytkodjioofkdepaa
