/- Joined: the texts that follow, each with its own sentence. -/
import Derived.Test.YtiaopafkfadmkaaGreatZGa
import Derived.Test.YtiaopafkfadmkaaGreatZAa
set_option linter.unusedVariables false
set_option maxRecDepth 100000
namespace Go.Proofs.YtiaopafkfadmkaaGreat.W
open Go.Proofs.YtiaopafkfadmkaaGreat.B Go.Proofs.YtiaopafkfadmkaaGreat.G
structure Fe where
 tk : Int → Int → M → Int × Int × List M
 op : M → Bool
abbrev En := Go.Proofs.YtiaopafkfadmkaaGreat.A.P
def tr (F : Fe) : Int → Int → List M → List En
 | _, _, [] => []
 | s, n, m :: r => ⟨m, s, n, (F.tk s n m).1, (F.tk s n m).2.2⟩ :: tr F (F.tk s n m).1 (F.tk s n m).2.1 r
def fin (F : Fe) : Int → Int → List M → Int × Int
 | s, n, [] => (s, n)
 | s, n, m :: r => fin F (F.tk s n m).1 (F.tk s n m).2.1 r
theorem tr_append (F : Fe) : ∀ (s n : Int) (a b : List M), tr F s n (a ++ b) = tr F s n a ++ tr F (fin F s n a).1 (fin F s n a).2 b
 | s, n, [], b => rfl
 | s, n, m :: r, b => by
  show _ :: tr F _ _ (r ++ b) = _ :: (tr F _ _ r ++ _)
  rw [tr_append F _ _ r b]
  rfl
theorem fin_append (F : Fe) : ∀ (s n : Int) (a b : List M), fin F s n (a ++ b) = fin F (fin F s n a).1 (fin F s n a).2 b
 | s, n, [], b => rfl
 | s, n, m :: r, b => fin_append F _ _ r b
theorem tr_ms (F : Fe) : ∀ (s n : Int) (a : List M), (tr F s n a).map Go.Proofs.YtiaopafkfadmkaaGreat.A.P.m = a
 | s, n, [] => rfl
 | s, n, m :: r => by
  show m :: (tr F _ _ r).map Go.Proofs.YtiaopafkfadmkaaGreat.A.P.m = m :: r
  rw [tr_ms F _ _ r]
theorem tr_len (F : Fe) (s n : Int) (a : List M) : (tr F s n a).length = a.length := by
 have := congrArg List.length (tr_ms F s n a)
 simpa using this
theorem tr_take (F : Fe) (s n : Int) (a : List M) (j : Nat) : (tr F s n a).take j = tr F s n (a.take j) := by
 by_cases h : j ≤ a.length
 ·have e := tr_append F s n (a.take j) (a.drop j)
  rw [List.take_append_drop] at e
  rw [e, List.take_append_of_le_length (by rw [tr_len, List.length_take]; omega), List.take_of_length_le (by rw [tr_len, List.length_take]; omega)]
 ·rw [List.take_of_length_le (by rw [tr_len]; omega), List.take_of_length_le (by omega)]
theorem tr_drop (F : Fe) (s n : Int) (a : List M) (j : Nat) : (tr F s n a).drop j = tr F (fin F s n (a.take j)).1 (fin F s n (a.take j)).2 (a.drop j) := by
 by_cases h : j ≤ a.length
 ·have e := tr_append F s n (a.take j) (a.drop j)
  rw [List.take_append_drop] at e
  conv => lhs; rw [e]
  have hl : (tr F s n (a.take j)).length = j := by rw [tr_len, List.length_take]; omega
  rw [List.drop_append_of_le_length (by omega), List.drop_of_length_le (by omega), List.nil_append]
 ·rw [List.drop_of_length_le (by rw [tr_len]; omega), List.drop_of_length_le (by omega)]
  rfl
theorem back_fold (F : Fe) (s n : Int) (a : List M) (x : Int × Int) : (tr F s n a).reverse.foldl (fun (_ : Int × Int) e => (e.ah, e.se)) x = if a = [] then x else (s, n) := by
 cases a with
 | nil => rfl
 | cons m q =>
  show ((_ :: tr F _ _ q).reverse).foldl _ x = _
  rw [List.reverse_cons, List.foldl_append]
  simp
def SrtM (l : List M) : Prop := l.Pairwise (fun a b => klt a.1 b.1 = true)
def pos (k : K) (l : List M) : Nat := (l.filter (fun m => klt m.1 k)).length
theorem pos_le (k : K) (l : List M) : pos k l ≤ l.length := List.length_filter_le _ _
theorem pos_cut {l : List M} (h : SrtM l) (k : K) : l.take (pos k l) = l.filter (fun m => klt m.1 k) ∧ l.drop (pos k l) = l.filter (fun m => !klt m.1 k) := by
 induction l with
 | nil => exact ⟨rfl, rfl⟩
 | cons a r ih =>
  obtain ⟨h1, h2⟩ := List.pairwise_cons.1 h
  obtain ⟨i1, i2⟩ := ih h2
  unfold pos at *
  cases ha : klt a.1 k
  ·have hr : ∀ b ∈ r, klt b.1 k = false := fun b hb => by
    cases hb2 : klt b.1 k
    ·rfl
    ·have := klt_trans (h1 b hb) hb2
     rw [ha] at this
     cases this
   have e1 : r.filter (fun m => klt m.1 k) = [] := List.filter_eq_nil_iff.2 fun b hb => by rw [hr b hb]; simp
   have e2 : r.filter (fun m => !klt m.1 k) = r := List.filter_eq_self.2 fun b hb => by rw [hr b hb]; rfl
   simp [ha, e1, e2]
  ·simp only [List.filter_cons, ha, if_true, List.length_cons, List.take_succ_cons, List.drop_succ_cons, Bool.not_true, Bool.false_eq_true, if_false]
   exact ⟨by rw [i1], i2⟩
theorem SrtM.take {l : List M} (h : SrtM l) (n : Nat) : SrtM (l.take n) := List.Pairwise.sublist (List.take_sublist n l) h
theorem SrtM.drop {l : List M} (h : SrtM l) (n : Nat) : SrtM (l.drop n) := List.Pairwise.sublist (List.drop_sublist n l) h
theorem pos_take {l : List M} (h : SrtM l) (k : K) (c : Nat) : pos k (l.take c) = min c (pos k l) := by
 have e1 := (pos_cut h k).1
 have e2 : (l.take c).filter (fun m => klt m.1 k) = (l.take (pos k l)).take c := by
  have e3 : l.filter (fun m => klt m.1 k) = (l.take c).filter (fun m => klt m.1 k) ++ (l.drop c).filter (fun m => klt m.1 k) := by rw [← List.filter_append, List.take_append_drop]
  by_cases hc : c ≤ pos k l
  ·have : l.take c = (l.take (pos k l)).take c := by rw [List.take_take, Nat.min_eq_left hc]
   rw [this]
   rw [e1]
   refine List.filter_eq_self.2 fun m hm => ?_
   exact (List.mem_filter.1 (List.mem_of_mem_take hm)).2
  ·have e4 : (l.drop c).filter (fun m => klt m.1 k) = [] := by
    rw [List.filter_eq_nil_iff]
    intro m hm
    have : m ∈ l.drop (pos k l) := by
     have e5 : l.drop c = (l.drop (pos k l)).drop (c - pos k l) := by rw [List.drop_drop]; congr 1; omega
     rw [e5] at hm
     exact List.mem_of_mem_drop hm
    rw [(pos_cut h k).2] at this
    have := (List.mem_filter.1 this).2
    simpa using this
   rw [e4, List.append_nil] at e3
   rw [e1, ← e3, List.take_of_length_le (by rw [e3]; have := List.length_filter_le (fun m => klt m.1 k) (l.take c); rw [List.length_take] at this; omega)]
 unfold pos at *
 rw [e2, List.length_take, List.length_take]
 have := List.length_filter_le (fun m => klt m.1 k) l
 omega
theorem tr_bef (F : Fe) (s n : Int) {l : List M} (h : SrtM l) (k : K) (c : Nat) :
  (tr F s n (l.take c)).filter (fun e => klt e.m.1 k) = tr F s n (l.take (min c (pos k l))) ∧ (tr F s n (l.take c)).filter (fun e => !klt e.m.1 k) = (tr F s n (l.take c)).drop (min c (pos k l)) := by
 have key : ∀ (s n : Int) (a : List M), SrtM a → (tr F s n a).filter (fun e => klt e.m.1 k) = (tr F s n a).take (pos k a) ∧ (tr F s n a).filter (fun e => !klt e.m.1 k) = (tr F s n a).drop (pos k a) := by
  intro s n a ha
  induction a generalizing s n with
  | nil => exact ⟨rfl, rfl⟩
  | cons m r ih =>
   obtain ⟨h1, h2⟩ := List.pairwise_cons.1 ha
   obtain ⟨i1, i2⟩ := ih (F.tk s n m).1 (F.tk s n m).2.1 h2
   cases hm : klt m.1 k
   ·have hr : ∀ b ∈ r, klt b.1 k = false := fun b hb => by
     cases hb2 : klt b.1 k
     ·rfl
     ·have := klt_trans (h1 b hb) hb2
      rw [hm] at this
      cases this
    have hp : pos k (m :: r) = 0 := by
     unfold pos
     rw [List.length_eq_zero_iff, List.filter_eq_nil_iff]
     intro b hb
     rcases List.mem_cons.1 hb with rfl | hb
     ·rw [hm]; simp
     ·rw [hr b hb]; simp
    have hall : ∀ e ∈ tr F s n (m :: r), klt e.m.1 k = false := fun e he => by
     have : e.m ∈ (tr F s n (m :: r)).map Go.Proofs.YtiaopafkfadmkaaGreat.A.P.m := List.mem_map_of_mem he
     rw [tr_ms] at this
     rcases List.mem_cons.1 this with g | g
     ·rw [g]; exact hm
     ·exact hr _ g
    rw [hp]
    refine ⟨?_, ?_⟩
    ·rw [List.take_zero, List.filter_eq_nil_iff]
     intro e he
     rw [hall e he]
     simp
    ·rw [List.drop_zero]
     exact List.filter_eq_self.2 fun e he => by rw [hall e he]; rfl
   ·have hp : pos k (m :: r) = pos k r + 1 := by
     unfold pos
     simp [hm]
    rw [hp]
    show ((⟨m, s, n, _, _⟩ : En) :: tr F _ _ r).filter _ = ((⟨m, s, n, _, _⟩ : En) :: tr F _ _ r).take _ ∧ ((⟨m, s, n, _, _⟩ : En) :: tr F _ _ r).filter _ = ((⟨m, s, n, _, _⟩ : En) :: tr F _ _ r).drop _
    simp only [List.filter_cons, hm, if_true, List.take_succ_cons, List.drop_succ_cons, Bool.not_true, Bool.false_eq_true, if_false]
    exact ⟨by rw [i1], i2⟩
 obtain ⟨k1, k2⟩ := key s n (l.take c) (h.take c)
 rw [pos_take h k c] at k1 k2
 refine ⟨?_, k2⟩
 rw [k1, tr_take, List.take_take]
 congr 2
 omega
def gt (F : Fe) (es : List En) : List H := es.flatMap (fun e => (e.os.filter (fun o => !F.op o)).map (fun o => (e.m.1, o)))
def ou (F : Fe) (es : List En) : List M := es.flatMap (fun e => e.os.filter F.op)
theorem gt_append (F : Fe) (a b : List En) : gt F (a ++ b) = gt F a ++ gt F b := by simp [gt]
theorem ou_append (F : Fe) (a b : List En) : ou F (a ++ b) = ou F a ++ ou F b := by simp [ou]
theorem gt_filter (F : Fe) (es : List En) (p : K → Bool) : (gt F es).filter (fun x => p x.1) = gt F (es.filter (fun e => p e.m.1)) := by
 induction es with
 | nil => rfl
 | cons e r ih =>
  have e1 : gt F (e :: r) = (e.os.filter (fun o => !F.op o)).map (fun o => (e.m.1, o)) ++ gt F r := rfl
  rw [e1, List.filter_append, ih]
  cases hp : p e.m.1
  ·have e2 : ((e.os.filter (fun o => !F.op o)).map (fun o => (e.m.1, o))).filter (fun x => p x.1) = [] := by
    rw [List.filter_eq_nil_iff]
    intro x hx
    obtain ⟨o, _, rfl⟩ := List.mem_map.1 hx
    show ¬ p e.m.1 = true
    rw [hp]
    simp
   rw [e2, List.filter_cons, hp]
   rfl
  ·have e2 : ((e.os.filter (fun o => !F.op o)).map (fun o => (e.m.1, o))).filter (fun x => p x.1) = (e.os.filter (fun o => !F.op o)).map (fun o => (e.m.1, o)) := by
    rw [List.filter_eq_self]
    intro x hx
    obtain ⟨o, _, rfl⟩ := List.mem_map.1 hx
    exact hp
   rw [e2, List.filter_cons, hp]
   rfl
theorem gt_srt (F : Fe) {es : List En} (h : es.Pairwise (fun a b => klt a.m.1 b.m.1 = true)) : Stb.Srt leH (gt F es) := by
 induction es with
 | nil => exact List.Pairwise.nil
 | cons e r ih =>
  obtain ⟨h1, h2⟩ := List.pairwise_cons.1 h
  have e1 : gt F (e :: r) = (e.os.filter (fun o => !F.op o)).map (fun o => (e.m.1, o)) ++ gt F r := rfl
  rw [e1]
  unfold Stb.Srt
  refine List.pairwise_append.2 ⟨?_, ih h2, fun a ha b hb => ?_⟩
  ·rw [List.pairwise_map]
   exact List.Pairwise.imp (fun {a b} _ => by show (!klt e.m.1 e.m.1) = true; rw [klt_irrefl]; rfl) (List.pairwise_of_forall (R := fun _ _ => True) (fun _ _ => trivial))
  ·obtain ⟨o, _, rfl⟩ := List.mem_map.1 ha
   obtain ⟨e2, he2, hb2⟩ := List.mem_flatMap.1 hb
   obtain ⟨o2, _, rfl⟩ := List.mem_map.1 hb2
   show (!klt e2.m.1 e.m.1) = true
   rw [klt_asymm (h1 e2 he2)]
   rfl
theorem gt_open (F : Fe) {es : List En} (h : es.Pairwise (fun a b => klt a.m.1 b.m.1 = true)) : Stb.isort leH (gt F es) = gt F es := Stb.isort_of_srt (gt_srt F h)
theorem tr_srt (F : Fe) (s n : Int) {l : List M} (h : SrtM l) : (tr F s n l).Pairwise (fun a b => klt a.m.1 b.m.1 = true) := by
 have : ((tr F s n l).map Go.Proofs.YtiaopafkfadmkaaGreat.A.P.m).Pairwise (fun a b => klt a.1 b.1 = true) := by rw [tr_ms]; exact h
 exact List.pairwise_map.1 this
theorem srt_ext : ∀ {a b : List M}, SrtM a → SrtM b → (∀ x, x ∈ a ↔ x ∈ b) → a = b
 | [], [], _, _, _ => rfl
 | [], y :: _, _, _, h => by have := (h y).2 (List.mem_cons_self ..); simp at this
 | x :: _, [], _, _, h => by have := (h x).1 (List.mem_cons_self ..); simp at this
 | x :: r, y :: q, ha, hb, h => by
  obtain ⟨a1, a2⟩ := List.pairwise_cons.1 ha
  obtain ⟨b1, b2⟩ := List.pairwise_cons.1 hb
  have hxy : x = y := by
   rcases List.mem_cons.1 ((h x).1 (List.mem_cons_self ..)) with e | e
   ·exact e
   ·rcases List.mem_cons.1 ((h y).2 (List.mem_cons_self ..)) with g | g
    ·exact g.symm
    ·have := klt_trans (b1 x e) (a1 y g)
     rw [klt_irrefl] at this
     cases this
  subst hxy
  have hr : ∀ z, z ∈ r ↔ z ∈ q := fun z => by
   constructor
   ·intro hz
    rcases List.mem_cons.1 ((h z).1 (List.mem_cons_of_mem _ hz)) with e | e
    ·subst e
     have := a1 z hz
     rw [klt_irrefl] at this
     cases this
    ·exact e
   ·intro hz
    rcases List.mem_cons.1 ((h z).2 (List.mem_cons_of_mem _ hz)) with e | e
    ·subst e
     have := b1 z hz
     rw [klt_irrefl] at this
     cases this
    ·exact e
  rw [srt_ext a2 b2 hr]
theorem srt_key {a : List M} (h : SrtM a) {x y : M} (hx : x ∈ a) (hy : y ∈ a) (e : x.1 = y.1) : x = y := by
 induction a with
 | nil => simp at hx
 | cons z r ih =>
  obtain ⟨h1, h2⟩ := List.pairwise_cons.1 h
  rcases List.mem_cons.1 hx with g | g <;> rcases List.mem_cons.1 hy with q | q
  ·exact g.trans q.symm
  ·have := h1 y q
   rw [← g, e, klt_irrefl] at this
   cases this
  ·have := h1 x g
   rw [← q, e, klt_irrefl] at this
   cases this
  ·exact ih h2 g q
def insM (m : M) (l : List M) : List M := l.take (pos m.1 l) ++ m :: l.drop (pos m.1 l)
theorem insM_mem (m : M) (l : List M) (x : M) : x ∈ insM m l ↔ x = m ∨ x ∈ l := by
 unfold insM
 rw [List.mem_append, List.mem_cons]
 conv => rhs; rw [← List.take_append_drop (pos m.1 l) l, List.mem_append]
 constructor
 ·rintro (h | h | h)
  ·exact Or.inr (Or.inl h)
  ·exact Or.inl h
  ·exact Or.inr (Or.inr h)
 ·rintro (h | h | h)
  ·exact Or.inr (Or.inl h)
  ·exact Or.inl h
  ·exact Or.inr (Or.inr h)
theorem insM_len (m : M) (l : List M) : (insM m l).length = l.length + 1 := by
 have := pos_le m.1 l
 unfold insM
 simp
 omega
theorem insM_srt {l : List M} (h : SrtM l) (m : M) (hn : ∀ x ∈ l, x.1 ≠ m.1) : SrtM (insM m l) := by
 obtain ⟨h1, h2⟩ := pos_cut h m.1
 unfold insM SrtM
 refine List.pairwise_append.2 ⟨h.take _, List.pairwise_cons.2 ⟨fun x hx => ?_, h.drop _⟩, fun a ha b hb => ?_⟩
 ·rw [h2] at hx
  obtain ⟨g1, g2⟩ := List.mem_filter.1 hx
  rcases klt_or (hn x g1) with e | e
  ·rw [e] at g2
   cases g2
  ·exact e
 ·rw [h1] at ha
  have ga := (List.mem_filter.1 ha).2
  rcases List.mem_cons.1 hb with rfl | hb
  ·exact ga
  ·rw [h2] at hb
   have gb := (List.mem_filter.1 hb).2
   exact klt_of_lt_of_le ga (by simpa using gb)
theorem insM_take (m : M) (l : List M) {c : Nat} (hc : c ≤ pos m.1 l) : (insM m l).take c = l.take c := by
 have := pos_le m.1 l
 unfold insM
 rw [List.take_append_of_le_length (by rw [List.length_take]; omega), List.take_take, Nat.min_eq_left hc]
theorem insM_drop {l : List M} (h : SrtM l) (m : M) {c : Nat} (hc : c ≤ pos m.1 l) : (insM m l).drop c = insM m (l.drop c) := by
 have hp := pos_le m.1 l
 have e1 : pos m.1 (l.drop c) = pos m.1 l - c := by
  have e2 : pos m.1 l = pos m.1 (l.take c) + pos m.1 (l.drop c) := by
   unfold pos
   rw [← List.length_append, ← List.filter_append, List.take_append_drop]
  rw [pos_take h m.1 c] at e2
  omega
 unfold insM
 rw [e1, List.drop_append_of_le_length (by rw [List.length_take]; omega), List.drop_take, List.drop_drop]
 congr 4
 omega
def delM (k : K) (l : List M) : List M := l.filter (fun m => decide (m.1 ≠ k))
theorem delM_srt {l : List M} (h : SrtM l) (k : K) : SrtM (delM k l) := List.Pairwise.sublist List.filter_sublist h
theorem delM_mem (k : K) (l : List M) (x : M) : x ∈ delM k l ↔ x ∈ l ∧ x.1 ≠ k := by simp [delM, List.mem_filter]
theorem delM_app (k : K) (a b : List M) : delM k (a ++ b) = delM k a ++ delM k b := List.filter_append ..
theorem delM_no {k : K} {l : List M} (h : ∀ x ∈ l, x.1 ≠ k) : delM k l = l := List.filter_eq_self.2 fun x hx => by simp [h x hx]
theorem delM_cut {l : List M} (h : SrtM l) (k : K) {c : Nat} (hc : c ≤ pos k l) : (delM k l).take c = l.take c ∧ (delM k l).drop c = delM k (l.drop c) := by
 have hp := pos_le k l
 have e0 : ∀ x ∈ l.take c, x.1 ≠ k := fun x hx e => by
  have e1 : l.take c = (l.take (pos k l)).take c := by rw [List.take_take, Nat.min_eq_left hc]
  rw [e1, (pos_cut h k).1] at hx
  have := (List.mem_filter.1 (List.mem_of_mem_take hx)).2
  rw [show x.1 = k from e] at this
  simp [klt_irrefl] at this
 have e2 : delM k l = l.take c ++ delM k (l.drop c) := by
  conv => lhs; rw [← List.take_append_drop c l, delM_app, delM_no e0]
 have hl : (l.take c).length = c := by rw [List.length_take]; omega
 refine ⟨?_, ?_⟩
 ·rw [e2, List.take_append_of_le_length (by omega), List.take_of_length_le (by omega)]
 ·rw [e2, List.drop_append_of_le_length (by omega), List.drop_of_length_le (by omega), List.nil_append]
theorem pos_wait {l : List M} (h : SrtM l) {c : Nat} (hc : c ≤ l.length) {m : M} (hm : m ∈ l.drop c) : c ≤ pos m.1 l := by
 have e : pos m.1 l = pos m.1 (l.take c) + pos m.1 (l.drop c) := by
  unfold pos
  rw [← List.length_append, ← List.filter_append, List.take_append_drop]
 have e2 : pos m.1 (l.take c) = c := by
  have g : ∀ x ∈ l.take c, klt x.1 m.1 = true := fun x hx => by
   have := (List.pairwise_append.1 (by rw [List.take_append_drop]; exact h : (l.take c ++ l.drop c).Pairwise (fun a b => klt a.1 b.1 = true))).2.2
   exact this x hx m hm
  unfold pos
  rw [List.filter_eq_self.2 g, List.length_take]
  omega
 omega
theorem pos_done {l : List M} (h : SrtM l) {c : Nat} {m : M} (hm : m ∈ l.take c) : pos m.1 l < c := by
 have e : pos m.1 (l.take c) = min c (pos m.1 l) := pos_take h m.1 c
 have e2 : pos m.1 (l.take c) < (l.take c).length := by
  unfold pos
  rcases Nat.lt_or_ge ((l.take c).filter (fun x => klt x.1 m.1)).length (l.take c).length with g | g
  ·exact g
  ·have e3 := List.filter_eq_self.1 (List.filter_sublist.eq_of_length_le g) m hm
   rw [klt_irrefl] at e3
   cases e3
 rw [List.length_take] at e2
 omega
def posT (t : Int) (l : List M) : Nat := (l.filter (fun m => decide (m.1.1 < t))).length
theorem posT_cut {l : List M} (h : SrtM l) (t : Int) : l.take (posT t l) = l.filter (fun m => decide (m.1.1 < t)) ∧ l.drop (posT t l) = l.filter (fun m => !decide (m.1.1 < t)) := by
 induction l with
 | nil => exact ⟨rfl, rfl⟩
 | cons a r ih =>
  obtain ⟨h1, h2⟩ := List.pairwise_cons.1 h
  obtain ⟨i1, i2⟩ := ih h2
  unfold posT at *
  by_cases ha : a.1.1 < t
  ·simp only [List.filter_cons, ha, decide_true, if_true, List.length_cons, List.take_succ_cons, List.drop_succ_cons, Bool.not_true, Bool.false_eq_true, if_false]
   exact ⟨by rw [i1], i2⟩
  ·have hr : ∀ b ∈ r, ¬ b.1.1 < t := fun b hb => by
    have := (klt_iff _ _).1 (h1 b hb)
    omega
   have e1 : r.filter (fun m => decide (m.1.1 < t)) = [] := List.filter_eq_nil_iff.2 fun b hb => by simpa using hr b hb
   have e2 : r.filter (fun m => !decide (m.1.1 < t)) = r := List.filter_eq_self.2 fun b hb => by simpa using hr b hb
   simp [ha, e1, e2]
theorem posT_le (t : Int) (l : List M) : posT t l ≤ l.length := List.length_filter_le _ _
theorem tr_settle (F : Fe) (s n : Int) {l : List M} (h : SrtM l) (t : Int) {c : Nat} (hc : posT t l ≤ c) :
  (tr F s n (l.take c)).take (posT t l) = tr F s n (l.filter (fun m => decide (m.1.1 < t))) ∧
  (tr F s n (l.take c)).drop (posT t l) = tr F (fin F s n (l.filter (fun m => decide (m.1.1 < t)))).1 (fin F s n (l.filter (fun m => decide (m.1.1 < t)))).2 ((l.filter (fun m => !decide (m.1.1 < t))).take (c - posT t l)) := by
 have e1 : (l.take c).take (posT t l) = l.filter (fun m => decide (m.1.1 < t)) := by rw [List.take_take, Nat.min_eq_left hc, (posT_cut h t).1]
 have e2 : (l.take c).drop (posT t l) = (l.filter (fun m => !decide (m.1.1 < t))).take (c - posT t l) := by rw [List.drop_take, (posT_cut h t).2]
 rw [tr_take, tr_drop, e1, e2]
 exact ⟨rfl, rfl⟩
end Go.Proofs.YtiaopafkfadmkaaGreat.W
namespace Go.Proofs.YtiaopafkfadmkaaGreat.W
open Go.Proofs.YtiaopafkfadmkaaGreat.B Go.Proofs.YtiaopafkfadmkaaGreat.G
structure Nd where
 s : Int
 n : Int
 q : List M
 p : List En
 g : List H
def undo (k : K) (x : Nd) : Nd :=
 let b := (x.p.filter (fun e => !klt e.m.1 k)).reverse
 let sn := b.foldl (fun (_ : Int × Int) e => (e.ah, e.se)) (x.s, x.n)
 ⟨sn.1, sn.2, b.foldl (fun q e => insM e.m q) x.q, x.p.filter (fun e => klt e.m.1 k), x.g.filter (fun h => klt h.1 k)⟩
def antis (F : Fe) (k : K) (x : Nd) : List M := (x.p.filter (fun e => !klt e.m.1 k)).reverse.flatMap (fun e => e.os.filter F.op)
def plain (m : M) (x : Nd) : Nd := { undo m.1 x with q := insM m (undo m.1 x).q }
def antiQ (k : K) (x : Nd) : Nd := { x with q := delM k x.q }
def antiP (k : K) (x : Nd) : Nd := { undo k x with q := delM k (undo k x).q }
def ent (F : Fe) (m : M) (x : Nd) : En := ⟨m, x.s, x.n, (F.tk x.s x.n m).1, (F.tk x.s x.n m).2.2⟩
def step (F : Fe) (m : M) (x : Nd) : Nd :=
 ⟨(F.tk x.s x.n m).1, (F.tk x.s x.n m).2.1, x.q.tail, x.p ++ [ent F m x], x.g ++ gt F [ent F m x]⟩
def settle (t : Int) (x : Nd) : Nd := { x with p := x.p.filter (fun e => !decide (e.m.1.1 < t)), g := x.g.filter (fun h => !decide (h.1.1 < t)) }
structure Rp (F : Fe) (s0 n0 : Int) (al : List M) (c : Nat) (x : Nd) : Prop where
 srt : SrtM al
 le : c ≤ al.length
 p : x.p = tr F s0 n0 (al.take c)
 q : x.q = al.drop c
 s : (x.s, x.n) = fin F s0 n0 (al.take c)
 g : x.g = gt F x.p
theorem insM_front {m : M} {l : List M} (h : ∀ x ∈ l, klt m.1 x.1 = true) : insM m l = m :: l := by
 have e : pos m.1 l = 0 := by
  unfold pos
  rw [List.length_eq_zero_iff, List.filter_eq_nil_iff]
  intro x hx
  rw [klt_asymm (h x hx)]
  simp
 unfold insM
 rw [e]
 rfl
theorem again (a b : List M) (h : SrtM (a ++ b)) : a.reverse.foldl (fun q m => insM m q) b = a ++ b := by
 induction a with
 | nil => rfl
 | cons m r ih =>
  obtain ⟨h1, h2⟩ := List.pairwise_cons.1 h
  rw [List.reverse_cons, List.foldl_append, ih h2]
  exact insM_front h1
theorem foldl_ms (l : List En) (q : List M) : l.foldl (fun q e => insM e.m q) q = (l.map Go.Proofs.YtiaopafkfadmkaaGreat.A.P.m).foldl (fun q m => insM m q) q := by
 rw [List.foldl_map]
theorem undo_rp {F : Fe} {s0 n0 : Int} {al : List M} {c : Nat} {x : Nd} (h : Rp F s0 n0 al c x) (k : K) : Rp F s0 n0 al (min c (pos k al)) (undo k x) := by
 obtain ⟨b1, b2⟩ := tr_bef F s0 n0 h.srt k c
 have hm : min c (pos k al) ≤ c := Nat.min_le_left _ _
 have hcl := h.le
 have ed : (tr F s0 n0 (al.take c)).drop (min c (pos k al)) = tr F (fin F s0 n0 (al.take (min c (pos k al)))).1 (fin F s0 n0 (al.take (min c (pos k al)))).2 ((al.take c).drop (min c (pos k al))) := by
  rw [tr_drop, List.take_take, Nat.min_eq_left hm]
 have ea : (al.take c).drop (min c (pos k al)) ++ al.drop c = al.drop (min c (pos k al)) := by
  have e1 : al.drop (min c (pos k al)) = (al.take c ++ al.drop c).drop (min c (pos k al)) := by rw [List.take_append_drop]
  rw [e1, List.drop_append_of_le_length (by rw [List.length_take]; omega)]
 refine ⟨h.srt, by omega, ?_, ?_, ?_, ?_⟩
 ·show x.p.filter _ = _
  rw [h.p, b1]
 ·show (x.p.filter (fun e => !klt e.m.1 k)).reverse.foldl (fun q e => insM e.m q) x.q = _
  rw [h.p, b2, foldl_ms, List.map_reverse, ed, tr_ms, h.q, again _ _ (by rw [ea]; exact h.srt.drop _), ea]
 ·show ((x.p.filter (fun e => !klt e.m.1 k)).reverse.foldl (fun (_ : Int × Int) e => (e.ah, e.se)) (x.s, x.n)) = _
  rw [h.p, b2, ed, back_fold]
  split
  ·rename_i he
   have hl : c ≤ min c (pos k al) := by
    have := congrArg List.length he
    rw [List.length_drop, List.length_take, List.length_nil] at this
    omega
   rw [h.s, show min c (pos k al) = c by omega]
  ·rfl
 ·show x.g.filter (fun h => klt h.1 k) = gt F (x.p.filter (fun e => klt e.m.1 k))
  rw [h.g, gt_filter F x.p (fun y => klt y k)]
theorem antis_rp {F : Fe} {s0 n0 : Int} {al : List M} {c : Nat} {x : Nd} (h : Rp F s0 n0 al c x) (k : K) : antis F k x = ((x.p.drop (min c (pos k al))).reverse.flatMap (fun e => e.os.filter F.op)) ∧ (undo k x).p = x.p.take (min c (pos k al)) := by
 obtain ⟨b1, b2⟩ := tr_bef F s0 n0 h.srt k c
 refine ⟨?_, ?_⟩
 ·unfold antis
  rw [h.p, b2]
 ·show x.p.filter _ = _
  rw [h.p, b1, tr_take, List.take_take]
  congr 2
  omega
theorem plain_rp {F : Fe} {s0 n0 : Int} {al : List M} {c : Nat} {x : Nd} (h : Rp F s0 n0 al c x) (m : M) (hn : ∀ y ∈ al, y.1 ≠ m.1) : Rp F s0 n0 (insM m al) (min c (pos m.1 al)) (plain m x) := by
 have u := undo_rp h m.1
 have hp : min c (pos m.1 al) ≤ pos m.1 al := Nat.min_le_right _ _
 refine ⟨insM_srt h.srt m hn, by rw [insM_len]; have := u.le; omega, ?_, ?_, ?_, u.g⟩
 ·rw [insM_take m al hp]
  exact u.p
 ·show insM m (undo m.1 x).q = _
  rw [u.q, insM_drop h.srt m hp]
 ·rw [insM_take m al hp]
  exact u.s
theorem antiQ_rp {F : Fe} {s0 n0 : Int} {al : List M} {c : Nat} {x : Nd} (h : Rp F s0 n0 al c x) {m : M} (hm : m ∈ x.q) : Rp F s0 n0 (delM m.1 al) c (antiQ m.1 x) := by
 have hp : c ≤ pos m.1 al := pos_wait h.srt h.le (by rw [← h.q]; exact hm)
 obtain ⟨d1, d2⟩ := delM_cut h.srt m.1 hp
 refine ⟨delM_srt h.srt _, ?_, ?_, ?_, ?_, h.g⟩
 ·have e := congrArg List.length d1
  rw [List.length_take, List.length_take] at e
  have := h.le
  omega
 ·rw [d1]; exact h.p
 ·show delM m.1 x.q = _
  rw [d2, h.q]
 ·rw [d1]; exact h.s
theorem antiP_rp {F : Fe} {s0 n0 : Int} {al : List M} {c : Nat} {x : Nd} (h : Rp F s0 n0 al c x) {m : M} (hm : m ∈ al.take c) : Rp F s0 n0 (delM m.1 al) (pos m.1 al) (antiP m.1 x) := by
 have u := undo_rp h m.1
 have hlt := pos_done h.srt hm
 rw [Nat.min_eq_right (Nat.le_of_lt hlt)] at u
 obtain ⟨d1, d2⟩ := delM_cut h.srt m.1 (Nat.le_refl _)
 refine ⟨delM_srt h.srt _, ?_, ?_, ?_, ?_, u.g⟩
 ·have e := congrArg List.length d1
  rw [List.length_take, List.length_take] at e
  have := u.le
  omega
 ·rw [d1]; exact u.p
 ·show delM m.1 (undo m.1 x).q = _
  rw [d2, u.q]
 ·rw [d1]; exact u.s
theorem step_rp {F : Fe} {s0 n0 : Int} {al : List M} {c : Nat} {x : Nd} (h : Rp F s0 n0 al c x) {m : M} {r : List M} (hq : x.q = m :: r) : Rp F s0 n0 al (c + 1) (step F m x) := by
 have hd : al.drop c = m :: r := by rw [← h.q]; exact hq
 have hl : c < al.length := by
  rcases Nat.lt_or_ge c al.length with g | g
  ·exact g
  ·rw [List.drop_of_length_le g] at hd
   cases hd
 have ht : al.take (c + 1) = al.take c ++ [m] := by
  have e1 := List.getElem_cons_drop hl
  rw [hd] at e1
  rw [List.take_succ_eq_append_getElem hl, (List.cons.inj e1).1]
 have hs1 : x.s = (fin F s0 n0 (al.take c)).1 := congrArg Prod.fst h.s
 have hs2 : x.n = (fin F s0 n0 (al.take c)).2 := congrArg Prod.snd h.s
 have hp : (step F m x).p = tr F s0 n0 (al.take (c + 1)) := by
  show x.p ++ [ent F m x] = _
  rw [ht, tr_append, h.p, ← hs1, ← hs2]
  rfl
 refine ⟨h.srt, hl, hp, ?_, ?_, ?_⟩
 ·show x.q.tail = _
  rw [hq, ← List.tail_drop, hd]
 ·rw [ht, fin_append, ← hs1, ← hs2]
  rfl
 ·show x.g ++ gt F [ent F m x] = gt F (x.p ++ [ent F m x])
  rw [gt_append, h.g]
theorem step_ou {F : Fe} {x : Nd} (m : M) : ou F (step F m x).p = ou F x.p ++ (F.tk x.s x.n m).2.2.filter F.op := by
 show ou F (x.p ++ [ent F m x]) = _
 rw [ou_append]
 simp [ou, ent]
theorem settle_rp {F : Fe} {s0 n0 : Int} {al : List M} {c : Nat} {x : Nd} (h : Rp F s0 n0 al c x) {t : Int} (ht : ∀ y ∈ x.q, t ≤ y.1.1) :
  Rp F (fin F s0 n0 (al.filter (fun m => decide (m.1.1 < t)))).1 (fin F s0 n0 (al.filter (fun m => decide (m.1.1 < t)))).2 (al.filter (fun m => !decide (m.1.1 < t))) (c - posT t al) (settle t x) ∧
  x.p.filter (fun e => decide (e.m.1.1 < t)) = tr F s0 n0 (al.filter (fun m => decide (m.1.1 < t))) := by
 have hcl := h.le
 have hc : posT t al ≤ c := by
  have e : al.filter (fun m => decide (m.1.1 < t)) = (al.take c).filter (fun m => decide (m.1.1 < t)) := by
   conv => lhs; rw [← List.take_append_drop c al, List.filter_append]
   rw [List.filter_eq_nil_iff.2 (fun y hy => by have := ht y (by rw [h.q]; exact hy); simpa using this : ∀ y ∈ al.drop c, ¬ decide (y.1.1 < t) = true), List.append_nil]
  unfold posT
  rw [e]
  have := List.length_filter_le (fun m : M => decide (m.1.1 < t)) (al.take c)
  rw [List.length_take] at this
  omega
 obtain ⟨t1, t2⟩ := tr_settle F s0 n0 h.srt t hc
 obtain ⟨p1, p2⟩ := posT_cut h.srt t
 have key : ∀ (es : List En) (j : Nat), (∀ e ∈ es.take j, e.m.1.1 < t) → (∀ e ∈ es.drop j, ¬ e.m.1.1 < t) → es.filter (fun e => decide (e.m.1.1 < t)) = es.take j ∧ es.filter (fun e => !decide (e.m.1.1 < t)) = es.drop j := by
  intro es j h1 h2
  refine ⟨?_, ?_⟩
  ·conv => lhs; rw [← List.take_append_drop j es, List.filter_append]
   rw [List.filter_eq_self.2 (fun e he => by simpa using h1 e he), List.filter_eq_nil_iff.2 (fun e he => by simpa using h2 e he), List.append_nil]
  ·conv => lhs; rw [← List.take_append_drop j es, List.filter_append]
   rw [List.filter_eq_nil_iff.2 (fun e he => by simpa using h1 e he), List.filter_eq_self.2 (fun e he => by simpa using h2 e he), List.nil_append]
 obtain ⟨k1, k2⟩ := key x.p (posT t al)
  (fun e he => by
   rw [h.p, t1] at he
   have := List.mem_map_of_mem (f := Go.Proofs.YtiaopafkfadmkaaGreat.A.P.m) he
   rw [tr_ms] at this
   simpa using (List.mem_filter.1 this).2)
  (fun e he => by
   rw [h.p, t2] at he
   have := List.mem_map_of_mem (f := Go.Proofs.YtiaopafkfadmkaaGreat.A.P.m) he
   rw [tr_ms] at this
   simpa using (List.mem_filter.1 (List.mem_of_mem_take this)).2)
 refine ⟨⟨List.Pairwise.sublist List.filter_sublist h.srt, ?_, ?_, ?_, ?_, ?_⟩, ?_⟩
 ·rw [← p2, List.length_drop]
  omega
 ·show x.p.filter _ = _
  rw [k2, h.p, t2]
 ·show x.q = _
  rw [h.q, ← p2, List.drop_drop]
  congr 1
  omega
 ·show (x.s, x.n) = _
  rw [h.s]
  have e : al.take c = al.filter (fun m => decide (m.1.1 < t)) ++ (al.filter (fun m => !decide (m.1.1 < t))).take (c - posT t al) := by
   rw [← p1, ← p2, ← List.drop_take]
   have := List.take_append_drop (posT t al) (al.take c)
   rw [List.take_take, Nat.min_eq_left hc] at this
   exact this.symm
  rw [e, fin_append]
 ·show x.g.filter _ = gt F (x.p.filter _)
  rw [h.g, gt_filter F x.p (fun y => !decide (y.1 < t))]
 ·rw [k1, h.p, t1]
end Go.Proofs.YtiaopafkfadmkaaGreat.W
namespace Go.Proofs.YtiaopafkfadmkaaGreat.W
open Go.Proofs.YtiaopafkfadmkaaGreat.B Go.Proofs.YtiaopafkfadmkaaGreat.G
def tkn : List M → List (Bool × M) → Option (List M)
 | l, [] => some l
 | l, (true, m) :: r => tkn (l ++ [m]) r
 | l, (false, m) :: r => if m ∈ l then tkn (l.erase m) r else none
theorem tkn_plain : ∀ (l ms : List M), tkn l (ms.map (fun m => (true, m))) = some (l ++ ms)
 | l, [] => by simp [tkn]
 | l, m :: r => by
  show tkn (l ++ [m]) (r.map _) = _
  rw [tkn_plain (l ++ [m]) r, List.append_assoc]
  rfl
theorem tkn_anti : ∀ (a b ms : List M), (a ++ b).Nodup → ms.Perm b → tkn (a ++ b) (ms.map (fun m => (false, m))) = some a
 | a, b, [], hn, hp => by
  rw [List.nil_perm.1 hp]
  simp [tkn]
 | a, b, m :: r, hn, hp => by
  have hm : m ∈ b := hp.mem_iff.1 (List.mem_cons_self ..)
  have ha : m ∉ a := fun g => (List.nodup_append.1 hn).2.2 m g m hm rfl
  show (if m ∈ a ++ b then tkn ((a ++ b).erase m) (r.map _) else none) = some a
  rw [if_pos (List.mem_append_right _ hm), List.erase_append_right _ ha]
  exact tkn_anti a (b.erase m) r (by rw [← List.erase_append_right _ ha]; exact hn.erase m) (List.cons_perm_iff_perm_erase.1 hp).2
def Ris (F : Fe) : Prop := ∀ s n m, n ≤ (F.tk s n m).2.1 ∧ ((F.tk s n m).2.2.filter F.op).Pairwise (fun a b => a.1.2.2 < b.1.2.2) ∧ ∀ o ∈ (F.tk s n m).2.2.filter F.op, n ≤ o.1.2.2 ∧ o.1.2.2 < (F.tk s n m).2.1
theorem ou_ris {F : Fe} (h : Ris F) : ∀ (l : List M) (s n : Int), (ou F (tr F s n l)).Pairwise (fun a b => a.1.2.2 < b.1.2.2) ∧ ∀ o ∈ ou F (tr F s n l), n ≤ o.1.2.2
 | [], s, n => ⟨List.Pairwise.nil, fun o ho => by simp [ou, tr] at ho⟩
 | m :: r, s, n => by
  obtain ⟨i1, i2⟩ := ou_ris h r (F.tk s n m).1 (F.tk s n m).2.1
  obtain ⟨h0, h1, h2⟩ := h s n m
  have e : ou F (tr F s n (m :: r)) = (F.tk s n m).2.2.filter F.op ++ ou F (tr F (F.tk s n m).1 (F.tk s n m).2.1 r) := rfl
  rw [e]
  refine ⟨List.pairwise_append.2 ⟨h1, i1, fun a ha b hb => ?_⟩, fun o ho => ?_⟩
  ·have g1 := (h2 a ha).2
   have g2 := i2 b hb
   omega
  ·rcases List.mem_append.1 ho with g | g
   ·exact (h2 o g).1
   ·have := i2 o g
    omega
theorem ou_nodup {F : Fe} (h : Ris F) (l : List M) (s n : Int) : (ou F (tr F s n l)).Nodup :=
 List.Pairwise.imp (fun {a b} g e => by rw [e] at g; omega) (ou_ris h l s n).1
theorem flatMap_reverse_perm (f : En → List M) : ∀ l : List En, (l.reverse.flatMap f).Perm (l.flatMap f)
 | [] => List.Perm.refl _
 | e :: r => by
  have e1 : List.flatMap f [e] = f e := by simp
  have e2 : (e :: r).flatMap f = f e ++ r.flatMap f := rfl
  rw [List.reverse_cons, List.flatMap_append, e1, e2]
  exact List.perm_append_comm.trans ((flatMap_reverse_perm f r).append_left (f e))
theorem left_undo {F : Fe} {s0 n0 : Int} {al : List M} {c : Nat} {x : Nd} (hF : Ris F) (h : Rp F s0 n0 al c x) (k : K) : tkn (ou F x.p) ((antis F k x).map (fun m => (false, m))) = some (ou F (undo k x).p) := by
 obtain ⟨a1, a2⟩ := antis_rp h k
 have e : ou F x.p = ou F (x.p.take (min c (pos k al))) ++ ou F (x.p.drop (min c (pos k al))) := by rw [← ou_append, List.take_append_drop]
 have hn : (ou F x.p).Nodup := by rw [h.p]; exact ou_nodup hF _ _ _
 rw [a1, a2]
 rw [e] at hn ⊢
 exact tkn_anti _ _ _ hn (flatMap_reverse_perm _ _)
def stp (F : Fe) (E : Int) (x : Nd) : Nd × List M :=
 match x.q with
 | [] => (x, [])
 | m :: _ => if m.1.1 < E then (step F m x, (F.tk x.s x.n m).2.2.filter F.op) else (x, [])
theorem stp_ou {F : Fe} {x : Nd} (E : Int) : ou F (stp F E x).1.p = ou F x.p ++ (stp F E x).2 := by
 unfold stp
 split
 ·simp
 ·split
  ·exact step_ou _
  ·simp
theorem left_stp {F : Fe} {x : Nd} (E : Int) : tkn (ou F x.p) ((stp F E x).2.map (fun m => (true, m))) = some (ou F (stp F E x).1.p) := by
 rw [tkn_plain, stp_ou]
theorem below_iff  {l : List M} (h : SrtM l) {c : Nat} (hc : c ≤ l.length) (E : Int) : c ≤ posT E l ↔ ∀ y ∈ l.take c, y.1.1 < E := by
 constructor
 ·intro g y hy
  have e : l.take c = (l.take (posT E l)).take c := by rw [List.take_take, Nat.min_eq_left g]
  rw [e, (posT_cut h E).1] at hy
  simpa using (List.mem_filter.1 (List.mem_of_mem_take hy)).2
 ·intro g
  have e : l.filter (fun m => decide (m.1.1 < E)) = (l.take c).filter (fun m => decide (m.1.1 < E)) ++ (l.drop c).filter (fun m => decide (m.1.1 < E)) := by rw [← List.filter_append, List.take_append_drop]
  have e2 : (l.take c).filter (fun m => decide (m.1.1 < E)) = l.take c := List.filter_eq_self.2 fun y hy => by simpa using g y hy
  unfold posT
  rw [e, e2, List.length_append, List.length_take]
  omega
theorem stp_rp {F : Fe} {s0 n0 : Int} {al : List M} {c : Nat} {x : Nd} (h : Rp F s0 n0 al c x) {E : Int} (hE : c ≤ posT E al) : ∃ c', Rp F s0 n0 al c' (stp F E x).1 ∧ c' = min (c + 1) (posT E al) := by
 unfold stp
 split
 ·rename_i hq
  have hl : al.length ≤ c := by
   have e := h.q
   rw [hq] at e
   have := congrArg List.length e
   rw [List.length_nil, List.length_drop] at this
   omega
  have := posT_le E al
  exact ⟨c, h, by omega⟩
 ·rename_i m r hq
  have hd : al.drop c = m :: r := by rw [← h.q]; exact hq
  split
  ·rename_i hm
   have hs := step_rp h hq
   refine ⟨c + 1, hs, ?_⟩
   have : c + 1 ≤ posT E al := by
    rw [below_iff h.srt hs.le]
    have hl := hs.le
    have e1 := List.getElem_cons_drop (show c < al.length by omega)
    rw [hd] at e1
    intro y hy
    rw [List.take_succ_eq_append_getElem (show c < al.length by omega), (List.cons.inj e1).1] at hy
    rcases List.mem_append.1 hy with g | g
    ·exact (below_iff h.srt h.le E).1 hE y g
    ·rw [List.mem_singleton.1 g]
     exact hm
   omega
  ·rename_i hm
   refine ⟨c, h, ?_⟩
   have : posT E al ≤ c := by
    rcases Nat.lt_or_ge c (posT E al) with g | g
    ·have hl := posT_le E al
     have e2 := (below_iff h.srt (show c + 1 ≤ al.length by omega) E).1 g
     have e1 := List.getElem_cons_drop (show c < al.length by omega)
     rw [hd] at e1
     refine absurd (e2 m ?_) hm
     rw [List.take_succ_eq_append_getElem (show c < al.length by omega), (List.cons.inj e1).1]
     exact List.mem_append_right _ (List.mem_singleton.2 rfl)
    ·exact g
   omega
theorem plain_end {F : Fe} {s0 n0 : Int} {al : List M} {c : Nat} {x : Nd} (h : Rp F s0 n0 al c x) {E : Int} (hE : c ≤ posT E al) (m : M) (hn : ∀ y ∈ al, y.1 ≠ m.1) : min c (pos m.1 al) ≤ posT E (insM m al) := by
 have r := plain_rp h m hn
 rw [below_iff r.srt r.le, insM_take m al (Nat.min_le_right _ _)]
 intro y hy
 have e : al.take (min c (pos m.1 al)) = (al.take c).take (pos m.1 al) := by rw [List.take_take, Nat.min_comm]
 rw [e] at hy
 exact (below_iff h.srt h.le E).1 hE y (List.mem_of_mem_take hy)
theorem antiQ_end {F : Fe} {s0 n0 : Int} {al : List M} {c : Nat} {x : Nd} (h : Rp F s0 n0 al c x) {E : Int} (hE : c ≤ posT E al) {m : M} (hm : m ∈ x.q) : c ≤ posT E (delM m.1 al) := by
 have r := antiQ_rp h hm
 have hp : c ≤ pos m.1 al := pos_wait h.srt h.le (by rw [← h.q]; exact hm)
 rw [below_iff r.srt r.le, (delM_cut h.srt m.1 hp).1]
 exact (below_iff h.srt h.le E).1 hE
theorem antiP_end {F : Fe} {s0 n0 : Int} {al : List M} {c : Nat} {x : Nd} (h : Rp F s0 n0 al c x) {E : Int} (hE : c ≤ posT E al) {m : M} (hm : m ∈ al.take c) : pos m.1 al ≤ posT E (delM m.1 al) := by
 have r := antiP_rp h hm
 have hlt := pos_done h.srt hm
 rw [below_iff r.srt r.le, (delM_cut h.srt m.1 (Nat.le_refl _)).1]
 intro y hy
 have e : al.take (pos m.1 al) = (al.take c).take (pos m.1 al) := by rw [List.take_take, Nat.min_eq_left (by omega)]
 rw [e] at hy
 exact (below_iff h.srt h.le E).1 hE y (List.mem_of_mem_take hy)
theorem settle_all {F : Fe} {s0 n0 : Int} {al : List M} {x : Nd} {E t : Int} (ht : ∀ y ∈ x.q, t ≤ y.1.1) (hE : E ≤ t) (h : Rp F s0 n0 al (posT E al) x) :
  x.p.filter (fun e => decide (e.m.1.1 < t)) = x.p := by
 refine List.filter_eq_self.2 fun e he => ?_
 rw [h.p] at he
 have := List.mem_map_of_mem (f := Go.Proofs.YtiaopafkfadmkaaGreat.A.P.m) he
 rw [tr_ms, (posT_cut h.srt E).1] at this
 have g := (List.mem_filter.1 this).2
 simp at g
 simp
 omega
theorem nil_rp (F : Fe) (s0 n0 : Int) : Rp F s0 n0 [] 0 ⟨s0, n0, [], [], []⟩ := ⟨List.Pairwise.nil, Nat.le_refl _, rfl, rfl, rfl, rfl⟩
end Go.Proofs.YtiaopafkfadmkaaGreat.W
