/- Proved: a cut told by letters: what it answers and is behind each call; no condition. -/
import Derived.Test.YtdfjmnckgcpmgaaPok
namespace Go.Proofs.Ytdfjmnckgcpmgaa
open Go.RowKit Go.Shelf
open K
set_option linter.unusedVariables false

/-- n participants; whether a round is under way; the colour of those that have not turned; who has turned, who has reported; how many are on their way; the least; the value; the rounds. -/
structure Ph (n : Nat) (is : Bool) (k : Int) (f g : Nat → Bool) (o0 o1 le v r : Int) (c : Cu) : Prop where
  lc : c.co.length = n
  lt : c.tu.length = n
  lr : c.re.length = n
  hi : c.is = is
  hk : pk c = k
  tu : ∀ i, i < n → ptu c i = f i
  re : ∀ i, i < n → pre c i = g i
  e0 : c.o0 = o0
  e1 : c.o1 = o1
  el : is = true → c.le = le
  ev : c.v = v
  er : c.r = r
def nob : Nat → Bool := fun _ => false
def too (f : Nat → Bool) (a : Nat) : Nat → Bool := fun i => f i || decide (i = a)
theorem too_at (f : Nat → Bool) (a : Nat) : too f a a = true := by simp [too]
theorem too_out (f : Nat → Bool) {a i : Nat} (h : i ≠ a) : too f a i = f i := by simp [too, h]
theorem Ph.new {n : Nat} (h : 1 ≤ n) : Ph n false 0 nob nob 0 0 0 0 0 (K.new n) where
  lc := by simp [K.new]
  lt := by simp [K.new]
  lr := by simp [K.new]
  hi := rfl
  hk := by unfold pk K.new; simp [show (0 : Nat) < n by omega]
  tu := fun i hi => by unfold ptu K.new; simp [nob]
  re := fun i hi => by unfold pre K.new; simp [nob]
  e0 := rfl
  e1 := rfl
  el := fun h => (by cases h)
  ev := rfl
  er := rfl
theorem Ph.isP {n : Nat} {is : Bool} {k : Int} {f g : Nat → Bool} {o0 o1 le v r : Int} {c : Cu} (h : Ph n is k f g o0 o1 le v r c) {i : Nat} (hi : i < n) : K.isP c i = true := isP_nat (by rw [h.lc]; exact hi)
theorem Ph.col {n : Nat} {is : Bool} {k : Int} {f g : Nat → Bool} {o0 o1 le v r : Int} {c : Cu} (h : Ph n is k f g o0 o1 le v r c) {B : Nat} (ok : OK B c) {i : Nat} (hi : i < n) : K.col c i = if f i = true then 1 - k else k := by
  unfold K.col
  rw [Int.toNat_natCast, ok.col (by rw [h.lc]; exact hi), h.tu i hi, h.hk]
theorem Ph.colE {n : Nat} {is : Bool} {k : Int} {f g : Nat → Bool} {o0 o1 le v r : Int} {c : Cu} (h : Ph n is k f g o0 o1 le v r c) {B : Nat} (ok : OK B c) {i : Nat} (hi : i < n) : K.colE c i = if f i = true then 1 - k else k := by
  unfold K.colE
  rw [if_pos (h.isP hi), h.col ok hi]
theorem Ph.beg {n : Nat} {k : Int} {f g : Nat → Bool} {o0 o1 le v r : Int} {c : Cu} (h : Ph n false k f g o0 o1 le v r c) : begE c = 0 ∧ Ph n true k nob nob o0 o1 inf v r (begC c) := by
  have e : begE c = 0 := by unfold begE; rw [if_neg (by rw [h.hi]; decide)]
  have e2 : begC c = { c with is := true, old := K.col c 0, le := inf, tu := List.replicate c.co.length false, re := List.replicate c.co.length false } := by unfold begC; rw [if_neg (by rw [h.hi]; decide)]
  refine ⟨e, ?_⟩
  rw [e2]
  refine ⟨h.lc, by simp [h.lc], by simp [h.lc], rfl, ?_, fun i hi => ?_, fun i hi => ?_, h.e0, h.e1, fun _ => rfl, h.ev, h.er⟩
  · rw [← h.hk]
    unfold pk
    rw [if_pos rfl, if_neg (by rw [h.hi]; decide)]
    rfl
  · show (true && (List.replicate c.co.length false).getD i false) = false
    rw [rep_getD]; rfl
  · show (true && (List.replicate c.co.length false).getD i false) = false
    rw [rep_getD]; rfl
theorem Ph.beg2 {n : Nat} {k : Int} {f g : Nat → Bool} {o0 o1 le v r : Int} {c : Cu} (h : Ph n true k f g o0 o1 le v r c) : begE c = 130 ∧ begC c = c :=
  ⟨by unfold begE; rw [if_pos h.hi], by unfold begC; rw [if_pos h.hi]⟩
theorem Ph.tud {n : Nat} {k : Int} {f g : Nat → Bool} {o0 o1 le v r : Int} {c : Cu} (h : Ph n true k f g o0 o1 le v r c) {i : Nat} (hi : i < n) : c.tu.getD i false = f i := by
  have := h.tu i hi
  unfold ptu at this
  rw [h.hi] at this
  simpa using this
theorem Ph.red {n : Nat} {k : Int} {f g : Nat → Bool} {o0 o1 le v r : Int} {c : Cu} (h : Ph n true k f g o0 o1 le v r c) {i : Nat} (hi : i < n) : c.re.getD i false = g i := by
  have := h.re i hi
  unfold pre at this
  rw [h.hi] at this
  simpa using this
theorem Ph.old {n : Nat} {k : Int} {f g : Nat → Bool} {o0 o1 le v r : Int} {c : Cu} (h : Ph n true k f g o0 o1 le v r c) : c.old = k := by
  have := h.hk
  unfold pk at this
  rwa [if_pos h.hi] at this
theorem Ph.tur {n : Nat} {k : Int} {f g : Nat → Bool} {o0 o1 le v r : Int} {c : Cu} (h : Ph n true k f g o0 o1 le v r c) {a : Nat} (ha : a < n) (hf : f a = false) : turE c a = 0 ∧ Ph n true k (too f a) g o0 o1 le v r (turC c a) := by
  have et : K.tud c a = false := by unfold K.tud; rw [Int.toNat_natCast, h.tud ha, hf]
  have e : turE c a = 0 := by unfold turE; rw [if_neg (by rw [h.isP ha]; decide), if_neg (by rw [h.hi, et]; simp)]
  have e2 : turC c a = { c with tu := c.tu.set a true, co := c.co.set a (1 - c.old) } := by unfold turC; rw [if_pos e, Int.toNat_natCast]
  refine ⟨e, ?_⟩
  rw [e2]
  refine ⟨by show (c.co.set _ _).length = n; rw [List.length_set]; exact h.lc, by show (c.tu.set _ _).length = n; rw [List.length_set]; exact h.lt, h.lr, h.hi, ?_, fun i hi => ?_, h.re, h.e0, h.e1, h.el, h.ev, h.er⟩
  · have := h.hk
    unfold pk at this ⊢
    rw [if_pos h.hi] at this
    rw [if_pos (show c.is = true from h.hi)]
    exact this
  · show (c.is && (c.tu.set a true).getD i false) = too f a i
    rw [h.hi, set_getD c.tu false true a i (by rw [h.lt]; exact ha)]
    by_cases g : i = a
    · subst g; rw [if_pos rfl, too_at]; rfl
    · rw [if_neg g, too_out f g, h.tud hi]; rfl
theorem Ph.tur2 {n : Nat} {k : Int} {f g : Nat → Bool} {o0 o1 le v r : Int} {c : Cu} (h : Ph n true k f g o0 o1 le v r c) {a : Nat} (ha : a < n) (hf : f a = true) : turE c a = 130 ∧ turC c a = c := by
  have e : turE c a = 130 := by unfold turE; rw [if_neg (by rw [h.isP ha]; decide), if_pos (.inr (by unfold K.tud; rw [Int.toNat_natCast, h.tud ha, hf]))]
  exact ⟨e, by unfold turC; rw [if_neg (by rw [e]; decide)]⟩
theorem Ph.allT {n : Nat} {k : Int} {f g : Nat → Bool} {o0 o1 le v r : Int} {c : Cu} (h : Ph n true k f g o0 o1 le v r c) (hf : ∀ i, i < n → f i = true) : allB c.tu = true := allB_iff.2 (fun i hi => by rw [h.lt] at hi; rw [h.tud hi]; exact hf i hi)
theorem Ph.repO {n : Nat} {k : Int} {f g : Nat → Bool} {o0 o1 le v r : Int} {c : Cu} (h : Ph n true k f g o0 o1 le v r c) {i : Nat} (hi : i < n) {t : Int} (ht : okT t = true) {j : Nat} (hj : j < n) (hf : f j = false) : repE c i t = 130 ∧ repC c i t = c := by
  have e : repE c i t = 130 := by
    unfold repE
    rw [if_neg (fun q => q ⟨h.isP hi, ht⟩), if_pos]
    refine .inr (.inl ?_)
    cases hh : allB c.tu
    · rfl
    · have := allB_iff.1 hh j (by rw [h.lt]; exact hj)
      rw [h.tud hj, hf] at this
      cases this
  exact ⟨e, by unfold repC; rw [if_neg (by rw [e]; decide)]⟩
def onK (k o0 o1 : Int) : Int := if k = 0 then o0 else o1
theorem Ph.on {n : Nat} {is : Bool} {k : Int} {f g : Nat → Bool} {o0 o1 le v r : Int} {c : Cu} (h : Ph n is k f g o0 o1 le v r c) (q : Int) : K.on c q = onK q o0 o1 := by unfold K.on onK; rw [h.e0, h.e1]
theorem Ph.repI {n : Nat} {k : Int} {f g : Nat → Bool} {o0 o1 le v r : Int} {c : Cu} (h : Ph n true k f g o0 o1 le v r c) {i : Nat} (hi : i < n) {t : Int} (ht : okT t = true) (hf : ∀ i, i < n → f i = true) (hg : g i = false) (ho : 0 < onK k o0 o1) : repE c i t = 150 ∧ repC c i t = c := by
  have e : repE c i t = 150 := by
    unfold repE
    rw [if_neg (fun q => q ⟨h.isP hi, ht⟩), if_neg (by unfold K.red; rw [h.hi, h.allT hf, Int.toNat_natCast, h.red hi, hg]; simp), if_pos (by rw [h.on, h.old]; exact ho)]
  exact ⟨e, by unfold repC; rw [if_neg (by rw [e]; decide)]⟩
theorem Ph.rep0 {n : Nat} {k : Int} {f g : Nat → Bool} {o0 o1 le v r : Int} {c : Cu} (h : Ph n true k f g o0 o1 le v r c) {i : Nat} (hi : i < n) {t : Int} (ht : okT t = true) (hf : ∀ i, i < n → f i = true) (hg : g i = false) (ho : ¬ 0 < onK k o0 o1) : repE c i t = 0 ∧ repC c i t = (let re' := c.re.set i true; let le' := min c.le t; if allB re' = true then { c with re := re', le := le', is := false, v := max c.v le', r := c.r + 1 } else { c with re := re', le := le' }) := by
  have e : repE c i t = 0 := by
    unfold repE
    rw [if_neg (fun q => q ⟨h.isP hi, ht⟩), if_neg (by unfold K.red; rw [h.hi, h.allT hf, Int.toNat_natCast, h.red hi, hg]; simp), if_neg (by rw [h.on, h.old]; exact ho)]
  exact ⟨e, by unfold repC; rw [if_pos e, Int.toNat_natCast]⟩
theorem Ph.rep {n : Nat} {k : Int} {f g : Nat → Bool} {o0 o1 le v r : Int} {c : Cu} (h : Ph n true k f g o0 o1 le v r c) {i : Nat} (hi : i < n) {t : Int} (ht : okT t = true) (hf : ∀ i, i < n → f i = true) (hg : g i = false) (ho : ¬ 0 < onK k o0 o1) {j : Nat} (hj : j < n) (hji : j ≠ i) (hgj : g j = false) : repE c i t = 0 ∧ Ph n true k f (too g i) o0 o1 (min le t) v r (repC c i t) := by
  obtain ⟨e, e2⟩ := h.rep0 hi ht hf hg ho
  have hir : i < c.re.length := by rw [h.lr]; exact hi
  refine ⟨e, ?_⟩
  rw [e2]
  dsimp only
  rw [if_neg (fun q => by
    have := allB_iff.1 q j (by rw [List.length_set, h.lr]; exact hj)
    rw [set_getD c.re false true i j hir, if_neg hji, h.red hj, hgj] at this
    cases this)]
  refine ⟨h.lc, h.lt, by show (c.re.set _ _).length = n; rw [List.length_set]; exact h.lr, h.hi, h.hk, h.tu, fun q hq => ?_, h.e0, h.e1, fun _ => by show min c.le t = _; rw [h.el rfl], h.ev, h.er⟩
  show (c.is && (c.re.set i true).getD q false) = too g i q
  rw [h.hi, set_getD c.re false true i q hir]
  by_cases p : q = i
  · subst p; rw [if_pos rfl, too_at]; rfl
  · rw [if_neg p, too_out g p, h.red hq]; rfl
theorem Ph.fin {n : Nat} {k : Int} {f g : Nat → Bool} {o0 o1 le v r : Int} {c : Cu} (h : Ph n true k f g o0 o1 le v r c) {B : Nat} (ok : OK B c) {i : Nat} (hi : i < n) {t : Int} (ht : okT t = true) (hf : ∀ i, i < n → f i = true) (hg : g i = false) (ho : ¬ 0 < onK k o0 o1) (hgj : ∀ j, j < n → j ≠ i → g j = true) : repE c i t = 0 ∧ Ph n false (1 - k) nob nob o0 o1 0 (max v (min le t)) (r + 1) (repC c i t) := by
  obtain ⟨e, e2⟩ := h.rep0 hi ht hf hg ho
  have hir : i < c.re.length := by rw [h.lr]; exact hi
  refine ⟨e, ?_⟩
  rw [e2]
  dsimp only
  rw [if_pos (allB_iff.2 (fun j hj => by
    rw [List.length_set, h.lr] at hj
    rw [set_getD c.re false true i j hir]
    split
    · rfl
    · rename_i p
      rw [h.red hj]; exact hgj j hj p))]
  refine ⟨h.lc, h.lt, by show (c.re.set _ _).length = n; rw [List.length_set]; exact h.lr, rfl, ?_, fun q hq => rfl, fun q hq => rfl, h.e0, h.e1, fun q => (by cases q), by show max c.v (min c.le t) = _; rw [h.ev, h.el rfl], by show c.r + 1 = _; rw [h.er]⟩
  unfold pk
  rw [if_neg (by simp)]
  show c.co.getD 0 0 = 1 - k
  rw [ok.allCo h.hi (h.allT hf) (by have := ok.n1; omega), h.old]
theorem Ph.add {n : Nat} {is : Bool} {k : Int} {f g : Nat → Bool} {o0 o1 le v r : Int} {c : Cu} (h : Ph n is k f g o0 o1 le v r c) (q d : Int) : Ph n is k f g (if q = 0 then o0 + d else o0) (if q = 0 then o1 else o1 + d) le v r (addOn c q d) := by
  unfold addOn
  split
  · exact ⟨h.lc, h.lt, h.lr, h.hi, h.hk, h.tu, h.re, by show c.o0 + d = _; rw [h.e0], h.e1, h.el, h.ev, h.er⟩
  · exact ⟨h.lc, h.lt, h.lr, h.hi, h.hk, h.tu, h.re, h.e0, by show c.o1 + d = _; rw [h.e1], h.el, h.ev, h.er⟩
theorem Ph.sen {n : Nat} {is : Bool} {k : Int} {f g : Nat → Bool} {o0 o1 le v r : Int} {c : Cu} (h : Ph n is k f g o0 o1 le v r c) {B : Nat} (ok : OK B c) {i : Nat} (hi : i < n) {t : Int} (ht : okT t = true) {q : Int} (hq : (if f i = true then 1 - k else k) = q) : senE c i t = 0 ∧ senK c i t = q ∧ Ph n is k f g (if q = 0 then o0 + 1 else o0) (if q = 0 then o1 else o1 + 1) (if f i = true then min le t else le) v r (senC c i t) := by
  have e : senE c i t = 0 := by unfold senE; rw [if_pos ⟨h.isP hi, ht⟩]
  have ec : K.col c i = q := by rw [h.col ok hi, hq]
  have e2 : senC c i t = (let d := addOn c (K.col c i) 1; if c.is = true ∧ K.tud c i = true then { d with le := min d.le t } else d) := by unfold senC; rw [if_pos e]
  refine ⟨e, by unfold senK; rw [if_pos e, ec], ?_⟩
  rw [e2, ec]
  dsimp only
  have hh := h.add q 1
  have hel := (addOn_rest c q 1).2.2.2.2.2.1
  have ef : (c.is = true ∧ K.tud c i = true) ↔ f i = true := by
    have := h.tu i hi
    unfold ptu at this
    unfold K.tud
    rw [Int.toNat_natCast, ← this]
    simp
  by_cases hf : f i = true
  · rw [if_pos (ef.2 hf), if_pos hf]
    refine ⟨hh.lc, hh.lt, hh.lr, hh.hi, hh.hk, hh.tu, hh.re, hh.e0, hh.e1, fun p => ?_, hh.ev, hh.er⟩
    show min (addOn c q 1).le t = _
    rw [hel, h.el p]
  · rw [if_neg (fun p => hf (ef.1 p)), if_neg hf]
    exact hh
theorem Ph.got {n : Nat} {is : Bool} {k : Int} {f g : Nat → Bool} {o0 o1 le v r : Int} {c : Cu} (h : Ph n is k f g o0 o1 le v r c) {i : Nat} (hi : i < n) {q : Int} (hq : q = 0 ∨ q = 1) (ho : onK q o0 o1 ≠ 0) : gotE c i q = 0 ∧ Ph n is k f g (if q = 0 then o0 + -1 else o0) (if q = 0 then o1 else o1 + -1) le v r (gotC c i q) := by
  have e : gotE c i q = 0 := by unfold gotE; rw [if_pos ⟨h.isP hi, hq, by rw [h.on]; exact ho⟩]
  refine ⟨e, ?_⟩
  unfold gotC
  rw [if_pos e]
  exact h.add q (-1)
theorem Ph.got0 {n : Nat} {is : Bool} {k : Int} {f g : Nat → Bool} {o0 o1 le v r : Int} {c : Cu} (h : Ph n is k f g o0 o1 le v r c) (i : Int) {q : Int} (ho : onK q o0 o1 = 0) : gotE c i q = 1 ∧ gotC c i q = c := by
  have e : gotE c i q = 1 := by unfold gotE; rw [if_neg (fun p => p.2.2 (by rw [h.on]; exact ho))]
  exact ⟨e, by unfold gotC; rw [if_neg (by rw [e]; decide)]⟩
theorem Ph.same {n : Nat} {is : Bool} {k : Int} {f f' g g' : Nat → Bool} {o0 o1 le v r : Int} {c : Cu} (h : Ph n is k f g o0 o1 le v r c) (hf : ∀ i, i < n → f i = f' i) (hg : ∀ i, i < n → g i = g' i) : Ph n is k f' g' o0 o1 le v r c := { h with tu := fun i hi => (h.tu i hi).trans (hf i hi), re := fun i hi => (h.re i hi).trans (hg i hi) }
theorem okT_small {t : Int} (h0 : 0 ≤ t) (h : t ≤ 1099511627776) : okT t = true := by unfold okT; simp; omega
end Go.Proofs.Ytdfjmnckgcpmgaa
