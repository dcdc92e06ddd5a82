/- Proved: what follows of a node's calls, as plain data. -/
import Derived.Test.YtkodjioofkdepaaEch
namespace Go.Proofs.Ytkodjioofkdepaa
open Go.RowKit Go.Shelf
set_option linter.unusedVariables false

/-! ### What is refused changes nothing -/
theorem heN_no {n f : Nat} {x : Nd} {fr k : Int} {m : Q.M} (h : heE n f x fr k m ≠ 0) : heN n f x fr k m = x := by
  unfold heN
  by_cases e : k = 2
  · rw [if_pos e]
    have e2 : heE n f x fr k m = C.hrE n f x.c fr m.1.1 := by unfold heE; rw [if_pos e]
    rw [e2] at h
    have e3 : C.hrC n f x.c fr m.1.1 = x.c := by unfold C.hrC; rw [if_neg h]
    rw [e3]
  · rw [if_neg e, if_neg (fun g => h g.2)]
theorem heN_push {n f : Nat} {x : Nd} {fr : Int} {m : Q.M} (h : heE n f x fr 0 m = 0) : heN n f x fr 0 m = { x with q := Q.ins x.q m } ∧ C.isCl n f fr = true ∧ x.c fr ≤ m.1.1 ∧ Q.hasK x.q m.1 = false ∧ x.q.length < 64 := by
  have h0 := h
  unfold heE at h
  rw [if_neg (by decide), if_pos rfl] at h
  by_cases a0 : C.atC n f x.c fr < 0
  · rw [if_pos a0] at h; cases h
  rw [if_neg a0] at h
  by_cases a1 : m.1.1 < C.atC n f x.c fr
  · rw [if_pos a1] at h; cases h
  rw [if_neg a1] at h
  cases a2 : Q.hasK x.q m.1
  · rw [a2] at h
    by_cases a3 : 64 ≤ x.q.length
    · rw [if_neg (by decide), if_pos a3] at h; cases h
    · refine ⟨?_, ?_, ?_, rfl, by omega⟩
      · unfold heN
        rw [if_neg (by decide), if_pos ⟨rfl, h0⟩]
      · cases b : C.isCl n f fr
        · exfalso; apply a0; unfold C.atC; rw [b, if_neg (by decide)]; decide
        · rfl
      · have b : C.isCl n f fr = true := by
          cases b : C.isCl n f fr
          · exfalso; apply a0; unfold C.atC; rw [b, if_neg (by decide)]; decide
          · rfl
        have e : C.atC n f x.c fr = x.c fr := by unfold C.atC; rw [if_pos b]
        omega
  · rw [a2, if_pos rfl] at h; cases h
theorem heN_len {n f : Nat} {x : Nd} {fr : Int} {m : Q.M} (h : heE n f x fr 0 m = 0) : (heN n f x fr 0 m).q.length = x.q.length + 1 := by
  rw [(heN_push h).1]
  exact Q.ins_len _ _
/-! ### Bounds rise -/
theorem bndC_hear (n f : Nat) (c : Int → Int) (a t : Int) : C.bnd n f c ≤ C.bnd n f (C.hrC n f c a t) := by
  have hb := C.bnd_hi n f c
  rcases C.bndK_is f (C.hrC n f c a t) n with e | ⟨j, g1, g2, g3⟩
  · change C.bnd n f _ = _ at e
    omega
  · change C.bnd n f _ = _ at g3
    have hj : C.isCl n f j = true := C.isCl_iff.2 ⟨by omega, by omega, by omega⟩
    have h1 := C.bnd_le (c := c) hj
    have h2 : c j ≤ C.hrC n f c a t j := by
      unfold C.hrC
      split
      · rename_i g
        by_cases e : (j : Int) = a
        · rw [← e] at g ⊢; rw [C.upC_at]; exact (C.hr0 g).2.2
        · rw [C.upC_out _ _ e]; exact Int.le_refl _
      · exact Int.le_refl _
    omega
theorem heN_bnd (n f : Nat) (x : Nd) (fr k : Int) (m : Q.M) : C.bnd n f x.c ≤ C.bnd n f (heN n f x fr k m).c := by
  unfold heN
  split
  · exact bndC_hear n f x.c fr m.1.1
  · split <;> exact Int.le_refl _
theorem heN_late {n f : Nat} {x : Nd} {fr : Int} {m : Q.M} (h : heE n f x fr 0 m = 0) : C.bnd n f x.c ≤ m.1.1 := by
  obtain ⟨_, h1, h2, _⟩ := heN_push h
  have := C.bnd_le (c := x.c) h1
  omega
/-! ### In order (P12.5) -/
abbrev dk (d : Dn) : Q.K := (d.m.t, d.m.fr, d.m.sq)
structure Ord (n f : Nat) (x : Nd) : Prop where
  srt : Q.Srt x.q
  lg : x.lg.Pairwise (fun a b => Q.klt (dk a) (dk b) = true)
  lq : ∀ a ∈ x.lg, ∀ m ∈ x.q, Q.klt (dk a) m.1 = true
  lb : ∀ a ∈ x.lg, a.m.t < C.bnd n f x.c
theorem Ord.start (D : Wd) (f : Nat) : Ord D.fs.length f (nd0 D f) := ⟨List.Pairwise.nil, List.Pairwise.nil, (fun a h => by cases h), (fun a h => by cases h)⟩
theorem Ord.hear {n f : Nat} {x : Nd} (h : Ord n f x) (fr k : Int) (m : Q.M) : Ord n f (heN n f x fr k m) := by
  by_cases e : heE n f x fr k m = 0
  · by_cases k2 : k = 2
    · have hb := heN_bnd n f x fr k m
      have e1 : heN n f x fr k m = { x with c := C.hrC n f x.c fr m.1.1 } := by unfold heN; rw [if_pos k2]
      rw [e1] at hb ⊢
      exact ⟨h.srt, h.lg, h.lq, fun a ha => Int.lt_of_lt_of_le (h.lb a ha) hb⟩
    · by_cases k0 : k = 0
      · subst k0
        obtain ⟨e1, h1, h2, h3, h4⟩ := heN_push e
        have hl := heN_late e
        rw [e1]
        refine ⟨h.srt.ins (fun g => by rw [← Q.hasK_iff] at g; rw [g] at h3; cases h3), h.lg, fun a ha y hy => ?_, h.lb⟩
        rcases Q.ins_mem.1 hy with g | rfl
        · exact h.lq a ha y g
        · rw [Q.klt_iff]
          left
          have := h.lb a ha
          show a.m.t < _
          omega
      · exfalso
        unfold heE at e
        rw [if_neg k2, if_neg k0] at e
        cases e
  · rw [heN_no e]; exact h
theorem safe_parts {D : Wd} {f : Nat} {x : Nd} (h : safe D f x = true) : ∃ m r, x.q = m :: r ∧ m.1.1 < D.en ∧ m.1.1 < C.bnd D.fs.length f x.c ∧ hd x = m := by
  unfold safe hd at *
  cases hq : x.q with
  | nil => rw [hq] at h; simp at h
  | cons m r =>
    rw [hq] at h
    simp at h
    exact ⟨m, r, rfl, h.1, h.2, rfl⟩
theorem Ord.step {D : Wd} {f : Nat} {x : Nd} (h : Ord D.fs.length f x) (hs : safe D f x = true) : Ord D.fs.length f (spN D f x) := by
  obtain ⟨m, r, hq, h1, h2, h3⟩ := safe_parts hs
  have hk : dk (spD D f x) = m.1 := by unfold spD; rw [h3]; rfl
  have hsr := h.srt
  rw [hq] at hsr
  obtain ⟨g1, g2⟩ := List.pairwise_cons.1 hsr
  have hlq := h.lq
  rw [hq] at hlq
  refine ⟨?_, ?_, fun a ha y hy => ?_, fun a ha => ?_⟩
  · show Q.Srt x.q.tail
    rw [hq]; exact g2
  · show (x.lg ++ [spD D f x]).Pairwise _
    rw [List.pairwise_append]
    refine ⟨h.lg, List.pairwise_singleton _ _, fun a ha b hb => ?_⟩
    simp at hb
    subst hb
    rw [hk]
    exact hlq a ha m (by simp)
  · change a ∈ x.lg ++ [spD D f x] at ha
    change y ∈ x.q.tail at hy
    rw [hq] at hy
    simp at ha hy
    rcases ha with g | rfl
    · exact hlq a g y (by simp [hy])
    · rw [hk]; exact g1 y hy
  · change a ∈ x.lg ++ [spD D f x] at ha
    show a.m.t < C.bnd D.fs.length f x.c
    simp at ha
    rcases ha with g | rfl
    · exact h.lb a g
    · have : (spD D f x).m.t = m.1.1 := by unfold spD; rw [h3]; rfl
      omega
theorem Ord.tell {D : Wd} {f : Nat} {x : Nd} (h : Ord D.fs.length f x) : Ord D.fs.length f (teN D f x) := ⟨h.srt, h.lg, h.lq, h.lb⟩
/-! ### What was told (P12.5) -/
theorem cnt_mono {a b : Int} (h : a ≤ b) : C.cnt a ≤ C.cnt b := by
  unfold C.cnt
  repeat' split
  all_goals omega
theorem lst_two (a b : Int) : C.lstI [a, b] = min (C.cnt a) (C.cnt b) := by
  have h1 := C.cnt_hi a
  simp [C.lstI]
  omega
theorem prm_mono {n f : Nat} {c c' : Int → Int} {a a' l : Int} (h : min (C.cnt a) (C.cnt (C.bnd n f c)) ≤ min (C.cnt a') (C.cnt (C.bnd n f c'))) : C.prm n f c a l ≤ C.prm n f c' a' l := by
  unfold C.prm C.vadd
  rw [lst_two, lst_two]
  have := cnt_mono h
  exact cnt_mono (by omega)
def Tld (D : Wd) (f : Nat) (x : Nd) : Prop := x.t ≤ C.prm D.fs.length f x.c (ft x) (nthF D.fs f).lk
theorem Tld.start (D : Wd) (f : Nat) : Tld D f (nd0 D f) := C.cnt_lo _
theorem ft_nil {x : Nd} (h : x.q = []) : ft x = 1125899906842624 := by unfold ft; rw [h]; rfl
theorem ft_cons {x : Nd} {m : Q.M} {r : List Q.M} (h : x.q = m :: r) : ft x = m.1.1 := by unfold ft hd; rw [h]; rfl
theorem ins_head (q : List Q.M) (m : Q.M) : (∃ r, Q.ins q m = m :: r) ∨ ∃ y r s, q = y :: r ∧ Q.ins q m = y :: s := by
  cases q with
  | nil => exact .inl ⟨[], rfl⟩
  | cons y r =>
    by_cases e : Q.klt m.1 y.1 = true
    · exact .inl ⟨y :: r, by simp [Q.ins, e]⟩
    · exact .inr ⟨y, r, Q.ins r m, rfl, by simp [Q.ins, e]⟩
theorem Tld.hear {D : Wd} {f : Nat} {x : Nd} (h : Tld D f x) (fr k : Int) (m : Q.M) : Tld D f (heN D.fs.length f x fr k m) := by
  by_cases e : heE D.fs.length f x fr k m = 0
  · by_cases k2 : k = 2
    · have hb := heN_bnd D.fs.length f x fr k m
      have e1 : heN D.fs.length f x fr k m = { x with c := C.hrC D.fs.length f x.c fr m.1.1 } := by unfold heN; rw [if_pos k2]
      rw [e1] at hb ⊢
      refine Int.le_trans h (prm_mono ?_)
      have := cnt_mono hb
      show min (C.cnt (ft x)) _ ≤ min (C.cnt (ft x)) _
      omega
    · by_cases k0 : k = 0
      · subst k0
        have hl := cnt_mono (heN_late e)
        obtain ⟨e1, _⟩ := heN_push e
        rw [e1]
        refine Int.le_trans h (prm_mono ?_)
        show min (C.cnt (ft x)) (C.cnt (C.bnd D.fs.length f x.c)) ≤ min (C.cnt (ft { x with q := Q.ins x.q m })) (C.cnt (C.bnd D.fs.length f x.c))
        rcases ins_head x.q m with ⟨r, hr⟩ | ⟨y, r, s, hq, hs⟩
        · rw [ft_cons (x := { x with q := Q.ins x.q m }) hr]
          omega
        · rw [ft_cons (x := { x with q := Q.ins x.q m }) hs, ft_cons hq]
          omega
      · exfalso
        unfold heE at e
        rw [if_neg k2, if_neg k0] at e
        cases e
  · rw [heN_no e]; exact h
theorem Tld.step {D : Wd} {f : Nat} {x : Nd} (h : Tld D f x) (hq : Q.Srt x.q) (hs : safe D f x = true) : Tld D f (spN D f x) := by
  obtain ⟨m, r, e, h1, h2, h3⟩ := safe_parts hs
  rw [e] at hq
  refine Int.le_trans h (prm_mono ?_)
  show min (C.cnt (ft x)) (C.cnt (C.bnd D.fs.length f x.c)) ≤ min (C.cnt (ft (spN D f x))) (C.cnt (C.bnd D.fs.length f x.c))
  have hle : C.cnt (ft x) ≤ C.cnt (ft (spN D f x)) := by
    have hq' : (spN D f x).q = r := by show x.q.tail = r; rw [e]; rfl
    cases r with
    | nil =>
      rw [ft_nil hq']
      have := C.cnt_hi (ft x)
      have e2 : C.cnt 1125899906842624 = 1125899906842624 := C.cnt_big (by omega)
      omega
    | cons y s =>
      rw [ft_cons hq', ft_cons e]
      have := (List.pairwise_cons.1 hq).1 y (by simp)
      rw [Q.klt_iff] at this
      exact cnt_mono (by omega)
  omega
theorem Tld.tell {D : Wd} {f : Nat} {x : Nd} (h : Tld D f x) : Tld D f (teN D f x) ∧ teT D f x = C.prm D.fs.length f x.c (ft x) (nthF D.fs f).lk ∧ x.t ≤ teT D f x := by
  have e : teT D f x = C.prm D.fs.length f x.c (ft x) (nthF D.fs f).lk := by
    unfold teT C.tlT
    unfold Tld at h
    split <;> omega
  refine ⟨?_, e, C.tlT_up _ _ _ _ _ _⟩
  unfold Tld
  show teT D f x ≤ C.prm D.fs.length f x.c (ft (teN D f x)) _
  rw [e]
  exact Int.le_refl _
/-- What is told is never above what is sent next, by the lookahead. -/
theorem Tld.sent {D : Wd} {f : Nat} {x : Nd} (h : Tld D f x) (hs : safe D f x = true) {d : Int} (hd' : (nthF D.fs f).lk ≤ d) : x.t ≤ C.vadd (hd x).1.1 d := by
  obtain ⟨m, r, e, h1, h2, h3⟩ := safe_parts hs
  refine Int.le_trans h ?_
  unfold C.prm
  rw [lst_two, ft_cons e, h3]
  unfold C.vadd
  have g1 := cnt_mono (show m.1.1 ≤ C.bnd D.fs.length f x.c by omega)
  have g2 := cnt_mono hd'
  have g3 := cnt_mono (show min (C.cnt m.1.1) (C.cnt (C.bnd D.fs.length f x.c)) ≤ C.cnt m.1.1 by omega)
  have g4 : C.cnt (C.cnt m.1.1) = C.cnt m.1.1 := by
    rcases C.cnt_two m.1.1 with q | q
    · rw [q]; exact C.cnt_big (by omega)
    · exact C.cnt_mid (C.cnt_lo _) q
  exact cnt_mono (by omega)
end Go.Proofs.Ytkodjioofkdepaa
