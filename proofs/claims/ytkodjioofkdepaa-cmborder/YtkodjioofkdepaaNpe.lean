/- Proved: what the small federation's first node comes to, as plain data. -/
import Derived.Test.YtkodjioofkdepaaNpl
namespace Go.Proofs.Ytkodjioofkdepaa
open Go.RowKit Go.Shelf
set_option linter.unusedVariables false

theorem ec_rts (s : Nat) : rts (ecD s) 0 0 = [1] := by rfl
theorem ec_stp (s : Nat) (cl : Int) : stp (ecF0 s).rs 0 cl = if cl = 0 then (0, [(0, 2, 1)]) else (0, []) := by
  by_cases e : cl = 0
  · subst e; rw [if_pos rfl]; rfl
  · rw [if_neg e]
    have hf : fnd [ecR s] 0 cl = -1 := by
      unfold fnd
      have : [ecR s].findIdx (isB 0 cl) = 1 := by
        simp [List.findIdx, List.findIdx.go, isB, ecR]
        rw [decide_eq_false (fun h => e h.symm)]; rfl
      rw [this, if_neg (by simp)]
    exact stp_no hf
theorem ec_spS {s : Nat} {x : Nd} (h : x.st = 0) : spS (ecD s) 0 x = if (hd x).2.2.1 = 0 then (0, [(0, 2, 1)]) else (0, []) := by
  unfold spS
  rw [ecD_f, h]
  exact ec_stp s _
theorem ec_spM {s : Nat} {x : Nd} (h : x.st = 0) : spM (ecD s) 0 x = if (hd x).2.2.1 = 0 then [⟨vadd (hd x).1.1 2, 0, x.sn, 1, 0, ((hd x).2.2.2 + 1) % 1000⟩] else [] := by
  unfold spM
  rw [ec_spS h]
  by_cases e : (hd x).2.2.1 = 0
  · rw [if_pos e, if_pos e]
    show sprF (ecD s) 0 x.sn (hd x).1.1 (hd x).2.2.2 [(0, 2, 1)] 1 = _
    unfold sprF
    simp only [List.range_succ, List.range_zero, List.nil_append, List.flatMap_cons, List.flatMap_nil, List.append_nil]
    unfold oneM
    have e2 : nthO [((0 : Int), (2 : Int), (1 : Int))] 0 = (0, 2, 1) := rfl
    rw [e2, ec_rts]
    simp [toM, sentM]
  · rw [if_neg e, if_neg e]; rfl
theorem ec_st {s : Nat} {x : Nd} (h : x.st = 0) : (spN (ecD s) 0 x).st = 0 := by
  show (spS (ecD s) 0 x).1 = 0
  rw [ec_spS h]
  split <;> rfl
theorem ec_sn {s : Nat} {x : Nd} (h : x.st = 0) : (spN (ecD s) 0 x).sn ≤ x.sn + 1 ∧ x.sn ≤ (spN (ecD s) 0 x).sn := by
  show x.sn + ((spS (ecD s) 0 x).2.length : Int) ≤ x.sn + 1 ∧ x.sn ≤ x.sn + ((spS (ecD s) 0 x).2.length : Int)
  rw [ec_spS h]
  split <;> simp <;> omega
theorem he_st (n f : Nat) (x : Nd) (fr k : Int) (m : Q.M) : (heN n f x fr k m).st = x.st ∧ (heN n f x fr k m).sn = x.sn ∧ (heN n f x fr k m).lg = x.lg ∧ (heN n f x fr k m).t = x.t := by
  unfold heN
  split
  · exact ⟨rfl, rfl, rfl, rfl⟩
  · split <;> exact ⟨rfl, rfl, rfl, rfl⟩
/-- Two clocks' bound. -/
theorem bnd3 (c : Int → Int) : C.bnd 3 0 c = min (min 1125899906842624 (c 1)) (c 2) := by
  unfold C.bnd
  simp [C.bndK]
theorem isCl3 (j : Int) : C.isCl 3 0 j = decide (j = 1 ∨ j = 2) := by
  unfold C.isCl
  rw [decide_eq_decide]
  omega
/-- A bound that is heard. -/
theorem heB {x : Nd} {fr t : Int} (m : Q.M) (hm : m.1.1 = t) (hf : fr = 1 ∨ fr = 2) (ht : C.okT t = true) (hc : x.c fr ≤ t) : heE 3 0 x fr 2 m = 0 ∧ heN 3 0 x fr 2 m = { x with c := C.upC x.c fr t } := by
  have h1 : C.isCl 3 0 fr = true := by rw [isCl3]; simpa using hf
  have h2 : C.hrE 3 0 x.c fr t = 0 := by unfold C.hrE; rw [if_pos ⟨h1, ht⟩, if_neg (by omega)]
  refine ⟨?_, ?_⟩
  · unfold heE; rw [if_pos rfl, hm]; exact h2
  · unfold heN; rw [if_pos rfl, hm]; unfold C.hrC; rw [if_pos h2]
/-! ### Alone -/
def am (t : Int) (i : Nat) : Q.M := ((t, 1, (i : Int)), 0, 0, (i : Int))
def lowN (q : List Q.M) : Nat := (q.filter (fun m => decide (m.1.1 < 100))).length
structure Al (k : Nat) (l : Nat) (x : Nd) : Prop where
  st : x.st = 0
  sn : x.sn = k
  lg : x.lg.length = k
  srt : Q.Srt x.q
  len : x.q.length = l
  mem : ∀ m ∈ x.q, ∃ t i, m = am t i ∧ 0 ≤ t ∧ t ≤ 255 ∧ i < 30
theorem lowN_ins (q : List Q.M) (m : Q.M) : lowN (Q.ins q m) = lowN q + (if m.1.1 < 100 then 1 else 0) := by
  unfold lowN
  rw [((Q.ins_perm q m).filter _).length_eq, List.filter_append, List.length_append]
  by_cases e : m.1.1 < 100
  · rw [if_pos e]; simp [e]
  · rw [if_neg e]; simp [e]
theorem lowN_head {q : List Q.M} (h : Q.Srt q) : 0 < lowN q ↔ ∃ m r, q = m :: r ∧ m.1.1 < 100 := by
  constructor
  · intro g
    unfold lowN at g
    obtain ⟨y, hy⟩ := List.exists_mem_of_length_pos g
    obtain ⟨h1, h2⟩ := List.mem_filter.1 hy
    cases q with
    | nil => cases h1
    | cons m r =>
      refine ⟨m, r, rfl, ?_⟩
      have h3 : y.1.1 < 100 := by simpa using h2
      rcases List.mem_cons.1 h1 with rfl | h4
      · exact h3
      · have := (List.pairwise_cons.1 h).1 y h4
        rw [Q.klt_iff] at this
        omega
  · rintro ⟨m, r, rfl, g⟩
    unfold lowN
    simp [g]
theorem lowN_tail {m : Q.M} {r : List Q.M} (h : m.1.1 < 100) : lowN (m :: r) = lowN r + 1 := by
  unfold lowN
  simp [h]
/-- One more is heard. -/
theorem Al.hear {k l : Nat} {x : Nd} (h : Al k l x) (hc : x.c = C.noC) {t : Int} (ht0 : 0 ≤ t) (ht : t ≤ 255) (hl : l < 30) (hnew : ∀ m ∈ x.q, m.1.2.2 < (l : Int)) :
    heE 3 0 x 1 0 (am t l) = 0 ∧ Al k (l + 1) (heN 3 0 x 1 0 (am t l)) ∧ (heN 3 0 x 1 0 (am t l)).c = C.noC ∧ lowN (heN 3 0 x 1 0 (am t l)).q = lowN x.q + (if t < 100 then 1 else 0) ∧ ∀ m ∈ (heN 3 0 x 1 0 (am t l)).q, m.1.2.2 < ((l + 1 : Nat) : Int) := by
  have hK : Q.hasK x.q (am t l).1 = false := by
    cases e : Q.hasK x.q (am t l).1
    · rfl
    · rw [Q.hasK_iff] at e
      obtain ⟨m, h1, h2⟩ := List.mem_map.1 e
      have := hnew m h1
      rw [h2] at this
      simp [am] at this
  have hE : heE 3 0 x 1 0 (am t l) = 0 := by
    unfold heE
    have ha : C.atC 3 0 x.c 1 = 0 := by rw [hc]; rfl
    rw [if_neg (by decide), if_pos rfl, ha, if_neg (by decide), if_neg (by show ¬ t < 0; omega), hK, if_neg (by decide), if_neg (by have := h.len; omega)]
  obtain ⟨e1, _⟩ := heN_push hE
  refine ⟨hE, ?_⟩
  rw [e1]
  refine ⟨⟨h.st, h.sn, h.lg, h.srt.ins (fun g => by rw [← Q.hasK_iff] at g; rw [g] at hK; cases hK), ?_, fun m hm => ?_⟩, hc, lowN_ins _ _, fun m hm => ?_⟩
  · show (Q.ins x.q (am t l)).length = l + 1
    rw [Q.ins_len, h.len]
  · rcases Q.ins_mem.1 hm with g | rfl
    · exact h.mem m g
    · exact ⟨t, l, rfl, ht0, ht, hl⟩
  · rcases Q.ins_mem.1 hm with g | rfl
    · have := hnew m g; omega
    · show (l : Int) < _; omega
/-- One more is taken. -/
theorem Al.step {s k l : Nat} {x : Nd} (h : Al k l x) (hc : C.bnd 3 0 x.c = 1125899906842624) (hlow : 0 < lowN x.q) :
    ∃ t i, hd x = am t i ∧ 0 ≤ t ∧ t < 100 ∧ i < 30 ∧ safe (ecD s) 0 x = true ∧ spM (ecD s) 0 x = [⟨t + 2, 0, (k : Int), 1, 0, (i : Int) + 1⟩] ∧ Al (k + 1) (l - 1) (spN (ecD s) 0 x) ∧ 1 ≤ l ∧ lowN (spN (ecD s) 0 x).q + 1 = lowN x.q ∧ (spN (ecD s) 0 x).c = x.c := by
  obtain ⟨m, r, hq, hm⟩ := (lowN_head h.srt).1 hlow
  obtain ⟨t, i, rfl, t0, t1, hi⟩ := h.mem m (by rw [hq]; simp)
  have hh : hd x = am t i := by unfold hd; rw [hq]; rfl
  have hm' : t < 100 := hm
  have hlen := h.len
  rw [hq] at hlen
  simp at hlen
  have hsrt := h.srt
  rw [hq] at hsrt
  refine ⟨t, i, hh, t0, hm', hi, ?_, ?_, ⟨ec_st h.st, ?_, ?_, ?_, ?_, fun y hy => ?_⟩, by omega, ?_, rfl⟩
  · unfold safe
    rw [hh, hq, ecD_n, hc]
    have a1 : decide ((am t i).1.1 < (ecD s).en) = true := by rw [decide_eq_true_iff]; show t < 100; exact hm'
    have a2 : decide ((am t i).1.1 < (1125899906842624 : Int)) = true := by rw [decide_eq_true_iff]; show t < 1125899906842624; omega
    rw [a1, a2]
    rfl
  · rw [ec_spM h.st, hh, if_pos (show (am t i).2.2.1 = 0 from rfl), h.sn]
    have e1 : vadd (am t i).1.1 2 = t + 2 := by
      show C.vadd t 2 = t + 2
      unfold C.vadd
      rw [C.cnt_mid (t := t) t0 (by omega), C.cnt_mid (t := 2) (by omega) (by omega), C.cnt_mid (by omega) (by omega)]
    have e2 : ((am t i).2.2.2 + 1) % 1000 = (i : Int) + 1 := by show ((i : Int) + 1) % 1000 = _; omega
    rw [e1, e2]
  · show x.sn + ((spS (ecD s) 0 x).2.length : Int) = ((k + 1 : Nat) : Int)
    rw [ec_spS h.st, hh, if_pos (show (am t i).2.2.1 = 0 from rfl), h.sn]
    simp
  · show (x.lg ++ [spD (ecD s) 0 x]).length = k + 1
    rw [List.length_append, h.lg]; rfl
  · show Q.Srt x.q.tail
    rw [hq]; exact (List.pairwise_cons.1 hsrt).2
  · show x.q.tail.length = l - 1
    rw [hq]; simp; omega
  · change y ∈ x.q.tail at hy
    rw [hq] at hy
    exact h.mem y (by rw [hq]; simp at hy ⊢; exact .inr hy)
  · show lowN x.q.tail + 1 = lowN x.q
    rw [hq]
    exact (lowN_tail hm).symm
theorem Al.done {s k l : Nat} {x : Nd} (h : Al k l x) (hlow : lowN x.q = 0) : safe (ecD s) 0 x = false := by
  cases e : safe (ecD s) 0 x
  · rfl
  · obtain ⟨m, r, hq, h1, _⟩ := safe_parts e
    have : 0 < lowN x.q := (lowN_head h.srt).2 ⟨m, r, hq, h1⟩
    omega
end Go.Proofs.Ytkodjioofkdepaa
