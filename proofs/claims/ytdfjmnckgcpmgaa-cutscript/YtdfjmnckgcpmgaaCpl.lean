/- Proved: a cut as plain data: what it answers and is behind each call; participants that go on in time, send nothing below where they stand, and go back to what they hear: nobody stands below the value, nothing on its way is below it. -/
namespace Go.Proofs.Ytdfjmnckgcpmgaa.K
set_option linter.unusedVariables false

/-- A cut: colours, who has turned, who has reported, how many of each colour are on their way, whether a round is under way, its old colour, the least of it; the value; rounds. -/
structure Cu where
  co : List Int
  tu : List Bool
  re : List Bool
  o0 : Int
  o1 : Int
  is : Bool
  old : Int
  le : Int
  v : Int
  r : Int
abbrev inf : Int := 1125899906842624
def okT (t : Int) : Bool := decide (0 ≤ t ∧ t ≤ 1099511627776 ∨ t = inf)
def new (n : Nat) : Cu := ⟨List.replicate n 0, List.replicate n false, List.replicate n false, 0, 0, false, 0, 0, 0, 0⟩
def isP (c : Cu) (i : Int) : Bool := decide (0 ≤ i ∧ i < (c.co.length : Int))
def col (c : Cu) (i : Int) : Int := c.co.getD i.toNat 0
def tud (c : Cu) (i : Int) : Bool := c.tu.getD i.toNat false
def red (c : Cu) (i : Int) : Bool := c.re.getD i.toNat false
def on (c : Cu) (k : Int) : Int := if k = 0 then c.o0 else c.o1
def addOn (c : Cu) (k d : Int) : Cu := if k = 0 then { c with o0 := c.o0 + d } else { c with o1 := c.o1 + d }
def begE (c : Cu) : Int := if c.is = true then 130 else 0
def begC (c : Cu) : Cu := if c.is = true then c else { c with is := true, old := col c 0, le := inf, tu := List.replicate c.co.length false, re := List.replicate c.co.length false }
def senE (c : Cu) (i t : Int) : Int := if isP c i = true ∧ okT t = true then 0 else 1
def senK (c : Cu) (i t : Int) : Int := if senE c i t = 0 then col c i else 0
def senC (c : Cu) (i t : Int) : Cu := if senE c i t = 0 then (let d := addOn c (col c i) 1; if c.is = true ∧ tud c i = true then { d with le := min d.le t } else d) else c
def gotE (c : Cu) (i k : Int) : Int := if isP c i = true ∧ (k = 0 ∨ k = 1) ∧ on c k ≠ 0 then 0 else 1
def gotC (c : Cu) (i k : Int) : Cu := if gotE c i k = 0 then addOn c k (-1) else c
def turE (c : Cu) (i : Int) : Int := if isP c i = false then 1 else if c.is = false ∨ tud c i = true then 130 else 0
def turC (c : Cu) (i : Int) : Cu := if turE c i = 0 then { c with tu := c.tu.set i.toNat true, co := c.co.set i.toNat (1 - c.old) } else c
def allB (l : List Bool) : Bool := l.all id
def repE (c : Cu) (i t : Int) : Int := if ¬ (isP c i = true ∧ okT t = true) then 1 else if c.is = false ∨ allB c.tu = false ∨ red c i = true then 130 else if 0 < on c c.old then 150 else 0
def repC (c : Cu) (i t : Int) : Cu :=
  if repE c i t = 0 then
    (let re' := c.re.set i.toNat true
     let le' := min c.le t
     if allB re' = true then { c with re := re', le := le', is := false, v := max c.v le', r := c.r + 1 } else { c with re := re', le := le' })
  else c
def colE (c : Cu) (i : Int) : Int := if isP c i = true then col c i else -1
/-! ### What is on its way: to whom, its time, its colour -/
abbrev H := Int × Int × Int
def cnt (k : Int) (l : List H) : Int := ((l.filter (fun h => decide (h.2.2 = k))).length : Int)
theorem cnt_nil (k : Int) : cnt k [] = 0 := rfl
theorem cnt_app (k : Int) (a b : List H) : cnt k (a ++ b) = cnt k a + cnt k b := by
  unfold cnt
  rw [List.filter_append, List.length_append]
  omega
theorem cnt_one (k : Int) (h : H) : cnt k [h] = if h.2.2 = k then 1 else 0 := by
  unfold cnt
  by_cases e : h.2.2 = k <;> simp [e]
theorem cnt_zero {k : Int} {l : List H} (h : cnt k l = 0) : ∀ x ∈ l, x.2.2 ≠ k := by
  intro x hx e
  have : x ∈ l.filter (fun h => decide (h.2.2 = k)) := List.mem_filter.2 ⟨hx, by simpa using e⟩
  have h2 := List.length_pos_of_mem this
  unfold cnt at h
  omega
theorem cnt_nonneg (k : Int) (l : List H) : 0 ≤ cnt k l := by unfold cnt; omega
def at' (at_ : List Int) (i : Nat) : Int := at_.getD i 0
/-- What always holds of the model. -/
structure J (n : Nat) (m : Int) (c : Cu) (p : List Int) (l : List H) : Prop where
  lc : c.co.length = n
  lt : c.tu.length = n
  lr : c.re.length = n
  lp : p.length = n
  n1 : 1 ≤ n
  od : c.old = 0 ∨ c.old = 1
  cl : ∀ h ∈ l, h.2.2 = 0 ∨ h.2.2 = 1
  c0 : c.o0 = cnt 0 l
  c1 : c.o1 = cnt 1 l
  hi : ∀ x ∈ p, x ≤ m
  hh : ∀ h ∈ l, h.2.1 ≤ m
  vp : ∀ x ∈ p, c.v ≤ x
  vh : ∀ h ∈ l, c.v ≤ h.2.1
  v0 : 0 ≤ c.v
  idle : c.is = false → ∃ k, (k = 0 ∨ k = 1) ∧ (∀ x ∈ c.co, x = k) ∧ ∀ h ∈ l, h.2.2 = k
  run : c.is = true → (∀ i, i < n → c.co.getD i 0 = if c.tu.getD i false = true then 1 - c.old else c.old) ∧ (∀ h ∈ l, h.2.2 = 1 - c.old → c.le ≤ h.2.1) ∧ (∀ i, i < n → c.re.getD i false = true → allB c.tu = true ∧ on c c.old = 0 ∧ c.le ≤ p.getD i 0)
theorem allB_iff {l : List Bool} : allB l = true ↔ ∀ i, i < l.length → l.getD i false = true := by
  unfold allB
  rw [List.all_eq_true]
  constructor
  · intro h i hi
    have : l.getD i false = l[i] := by simp [hi]
    rw [this]
    exact h _ (List.getElem_mem hi)
  · intro h x hx
    obtain ⟨i, hi, rfl⟩ := List.mem_iff_getElem.1 hx
    have := h i hi
    simpa [hi] using this
theorem on_cnt {n : Nat} {m : Int} {c : Cu} {p : List Int} {l : List H} (h : J n m c p l) {k : Int} (hk : k = 0 ∨ k = 1) : on c k = cnt k l := by
  unfold on
  rcases hk with rfl | rfl
  · simp [h.c0]
  · simp [h.c1]
theorem mem_getD {α : Type} {l : List α} {d : α} {i : Nat} (h : i < l.length) : l.getD i d ∈ l := by simp [h]
theorem J.start (n : Nat) (hn : 1 ≤ n) : J n 0 (new n) (List.replicate n 0) [] where
  lc := by simp [new]
  lt := by simp [new]
  lr := by simp [new]
  lp := by simp
  n1 := hn
  od := .inl rfl
  cl := fun _ h => (by cases h)
  c0 := rfl
  c1 := rfl
  hi := fun x hx => by rw [List.eq_of_mem_replicate hx]; exact Int.le_refl _
  hh := fun _ h => (by cases h)
  vp := fun x hx => by rw [List.eq_of_mem_replicate hx]; exact Int.le_refl _
  vh := fun _ h => (by cases h)
  v0 := Int.le_refl _
  idle := fun _ => ⟨0, .inl rfl, fun x hx => List.eq_of_mem_replicate hx, fun _ h => (by cases h)⟩
  run := fun h => (by cases h)
theorem J.wide {n : Nat} {m m' : Int} {c : Cu} {p : List Int} {l : List H} (h : J n m c p l) (hm : m ≤ m') : J n m' c p l := { h with hi := fun x hx => Int.le_trans (h.hi x hx) hm, hh := fun x hx => Int.le_trans (h.hh x hx) hm }
theorem two {k o : Int} (hk : k = 0 ∨ k = 1) (ho : o = 0 ∨ o = 1) : k = o ∨ k = 1 - o := by omega
theorem col_two {n : Nat} {m : Int} {c : Cu} {p : List Int} {l : List H} (h : J n m c p l) {a : Nat} (ha : a < n) : c.co.getD a 0 = 0 ∨ c.co.getD a 0 = 1 := by
  cases hi : c.is
  · obtain ⟨k, hk, h1, _⟩ := h.idle hi
    rw [h1 _ (mem_getD (by rw [h.lc]; exact ha))]
    exact hk
  · have h1 := (h.run hi).1 a ha
    have := h.od
    rw [h1]
    split <;> omega
theorem J.beg {n : Nat} {m : Int} {c : Cu} {p : List Int} {l : List H} (h : J n m c p l) : J n m (begC c) p l := by
  unfold begC
  cases hi : c.is
  · rw [if_neg (by simp)]
    obtain ⟨k, hk, h1, h2⟩ := h.idle hi
    have hc0 : col c 0 = k := h1 _ (mem_getD (by rw [h.lc]; exact h.n1))
    refine { h with lt := by simp [h.lc], lr := by simp [h.lc], od := by show col c 0 = 0 ∨ col c 0 = 1; rw [hc0]; exact hk, idle := fun g => (by cases g), run := fun _ => ⟨fun i hin => ?_, fun x hx e => ?_, fun i hin e => ?_⟩ }
    · have : c.co.getD i 0 = k := h1 _ (mem_getD (by rw [h.lc]; exact hin))
      show c.co.getD i 0 = if (List.replicate c.co.length false).getD i false = true then 1 - col c 0 else col c 0
      rw [this, hc0, if_neg]
      rw [h.lc]
      simp [hin]
    · have := h2 x hx
      have e' : x.2.2 = 1 - col c 0 := e
      rw [hc0] at e'
      omega
    · exfalso
      have e' : (List.replicate c.co.length false).getD i false = true := e
      rw [h.lc] at e'
      simp [hin] at e'
  · rw [if_pos rfl]
    exact h
theorem on_add_same (c : Cu) (k d : Int) (hk : k = 0 ∨ k = 1) : on (addOn c k d) k = on c k + d := by
  unfold on addOn
  rcases hk with rfl | rfl <;> simp
theorem on_add_other (c : Cu) {k o : Int} (d : Int) (hk : k = 0 ∨ k = 1) (ho : o = 0 ∨ o = 1) (hne : k ≠ o) : on (addOn c k d) o = on c o := by
  unfold on addOn
  rcases hk with rfl | rfl <;> rcases ho with rfl | rfl <;> simp at hne ⊢
theorem addOn_rest (c : Cu) (k d : Int) : (addOn c k d).co = c.co ∧ (addOn c k d).tu = c.tu ∧ (addOn c k d).re = c.re ∧ (addOn c k d).is = c.is ∧ (addOn c k d).old = c.old ∧ (addOn c k d).le = c.le ∧ (addOn c k d).v = c.v ∧ (addOn c k d).r = c.r := by
  unfold addOn
  split <;> exact ⟨rfl, rfl, rfl, rfl, rfl, rfl, rfl, rfl⟩
theorem add_cnt {n : Nat} {m : Int} {c : Cu} {p : List Int} {l : List H} (h : J n m c p l) {k d : Int} (hk : k = 0 ∨ k = 1) {l' : List H} (h0 : cnt 0 l' = cnt 0 l + if k = 0 then d else 0) (h1 : cnt 1 l' = cnt 1 l + if k = 1 then d else 0) : (addOn c k d).o0 = cnt 0 l' ∧ (addOn c k d).o1 = cnt 1 l' := by
  have := h.c0
  have := h.c1
  unfold addOn
  rcases hk with rfl | rfl
  · simp at h0 h1 ⊢
    omega
  · simp at h0 h1 ⊢
    omega
theorem J.send {n : Nat} {m : Int} {c : Cu} {p : List Int} {l : List H} (h : J n m c p l) {a : Nat} (ha : a < n) (b : Int) {t : Int} (ht : p.getD a 0 ≤ t) (htm : t ≤ m) (hm : m ≤ 1099511627776) :
    senE c a t = 0 ∧ senK c a t = colE c a ∧ J n m (senC c a t) p (l ++ [(b, t, senK c a t)]) := by
  have hpa := h.vp _ (mem_getD (d := 0) (by rw [h.lp]; exact ha))
  have hv0 := h.v0
  have hE : senE c a t = 0 := by
    unfold senE isP okT
    rw [if_pos]
    rw [h.lc]
    simp
    omega
  have hK : senK c a t = c.co.getD a 0 := by
    unfold senK
    rw [if_pos hE]
    simp [col]
  have h2 := col_two h ha
  refine ⟨hE, ?_, ?_⟩
  · rw [hK]
    unfold colE isP
    rw [if_pos (by rw [h.lc]; simp; omega)]
    simp [col]
  rw [hK]
  obtain ⟨k, hk⟩ : ∃ k, c.co.getD a 0 = k := ⟨_, rfl⟩
  rw [hk] at h2 ⊢
  have hcl : col c a = k := by simpa [col] using hk
  obtain ⟨e1, e2, e3, e4, e5, e6, e7, e8⟩ := addOn_rest c k 1
  have hcn := add_cnt h (d := 1) (l' := l ++ [(b, t, k)]) h2 (by rw [cnt_app, cnt_one]) (by rw [cnt_app, cnt_one])
  have hX : senC c a t = if c.is = true ∧ tud c a = true then { addOn c k 1 with le := min (addOn c k 1).le t } else addOn c k 1 := by
    unfold senC
    rw [if_pos hE, hcl]
  have base : ∀ le', (c.is = true → le' ≤ c.le) → (c.is = true → k = 1 - c.old → le' ≤ t) → J n m { addOn c k 1 with le := le' } p (l ++ [(b, t, k)]) := by
    intro le' g1 g2
    refine ⟨by show (addOn c k 1).co.length = n; rw [e1]; exact h.lc, by show (addOn c k 1).tu.length = n; rw [e2]; exact h.lt, by show (addOn c k 1).re.length = n; rw [e3]; exact h.lr, h.lp, h.n1, by show (addOn c k 1).old = 0 ∨ _; rw [e5]; exact h.od, fun x hx => ?_, hcn.1, hcn.2, h.hi, fun x hx => ?_, by show ∀ x ∈ p, (addOn c k 1).v ≤ x; rw [e7]; exact h.vp, fun x hx => ?_, by show 0 ≤ (addOn c k 1).v; rw [e7]; exact h.v0, fun hi => ?_, fun hi => ?_⟩
    · rcases List.mem_append.1 hx with g | g
      · exact h.cl x g
      · rw [List.mem_singleton.1 g]
        exact h2
    · rcases List.mem_append.1 hx with g | g
      · exact h.hh x g
      · rw [List.mem_singleton.1 g]
        exact htm
    · show (addOn c k 1).v ≤ x.2.1
      rw [e7]
      rcases List.mem_append.1 hx with g | g
      · exact h.vh x g
      · rw [List.mem_singleton.1 g]
        show c.v ≤ t
        omega
    · have hi' : c.is = false := by rw [← e4]; exact hi
      obtain ⟨k', hk', q1, q2⟩ := h.idle hi'
      refine ⟨k', hk', by show ∀ x ∈ (addOn c k 1).co, x = k'; rw [e1]; exact q1, fun x hx => ?_⟩
      rcases List.mem_append.1 hx with g | g
      · exact q2 x g
      · rw [List.mem_singleton.1 g]
        show k = k'
        rw [← hk]
        exact q1 _ (mem_getD (by rw [h.lc]; exact ha))
    · have hi' : c.is = true := by rw [← e4]; exact hi
      obtain ⟨q1, q2, q3⟩ := h.run hi'
      refine ⟨fun i hin => ?_, fun x hx e => ?_, fun i hin e => ?_⟩
      · show (addOn c k 1).co.getD i 0 = if (addOn c k 1).tu.getD i false = true then 1 - (addOn c k 1).old else (addOn c k 1).old
        rw [e1, e2, e5]
        exact q1 i hin
      · have e' : x.2.2 = 1 - c.old := by rw [← e5]; exact e
        show le' ≤ x.2.1
        rcases List.mem_append.1 hx with g | g
        · exact Int.le_trans (g1 hi') (q2 x g e')
        · rw [List.mem_singleton.1 g] at e' ⊢
          exact g2 hi' e'
      · have e' : c.re.getD i false = true := by rw [← e3]; exact e
        obtain ⟨r1, r2, r3⟩ := q3 i hin e'
        have hta : c.tu.getD a false = true := allB_iff.1 r1 a (by rw [h.lt]; exact ha)
        have hka : k = 1 - c.old := by
          have := q1 a ha
          rw [hk, if_pos hta] at this
          exact this
        refine ⟨by show allB (addOn c k 1).tu = true; rw [e2]; exact r1, ?_, Int.le_trans (g1 hi') r3⟩
        show on (addOn c k 1) (addOn c k 1).old = 0
        rw [e5, on_add_other c 1 h2 h.od (by have := h.od; omega)]
        exact r2
  rw [hX]
  split
  case isTrue g =>
    rw [e6]
    exact base _ (fun _ => Int.min_le_left _ _) (fun _ _ => Int.min_le_right _ _)
  case isFalse g =>
    have := base c.le (fun _ => Int.le_refl _) (fun hi hk1 => by
      exfalso
      have hq := (h.run hi).1 a ha
      have htf : ¬ c.tu.getD a false = true := fun e => g ⟨hi, by simpa [tud] using e⟩
      rw [hk, if_neg htf] at hq
      have := h.od
      omega)
    have e : ({ addOn c k 1 with le := c.le } : Cu) = addOn c k 1 := by rw [← e6]
    rw [e] at this
    exact this
theorem set_getD {α : Type} (l : List α) (d x : α) (i j : Nat) (hi : i < l.length) : (l.set i x).getD j d = if j = i then x else l.getD j d := by
  by_cases e : j = i
  · subst e
    simp [hi]
  · rw [if_neg e]
    simp [List.getElem?_set_ne (fun g => e g.symm)]
theorem mem_set {α : Type} {l : List α} {i : Nat} {x y : α} (h : y ∈ l.set i x) : y = x ∨ y ∈ l := by
  rcases List.mem_or_eq_of_mem_set h with g | g
  · exact .inr g
  · exact .inl g
/-- One goes on. -/
theorem J.go {n : Nat} {m : Int} {c : Cu} {p : List Int} {l : List H} (h : J n m c p l) {a : Nat} (ha : a < n) {t m' : Int} (ht : p.getD a 0 ≤ t) (htm : t ≤ m') (hm : m ≤ m') : J n m' c (p.set a t) l := by
  have hla : a < p.length := by rw [h.lp]; exact ha
  have hv := h.vp _ (mem_getD (d := 0) hla)
  refine { (h.wide hm) with lp := by rw [List.length_set]; exact h.lp, hi := fun x hx => ?_, vp := fun x hx => ?_, run := fun hi => ?_ }
  · rcases mem_set hx with rfl | g
    · exact htm
    · exact Int.le_trans (h.hi x g) hm
  · rcases mem_set hx with rfl | g
    · omega
    · exact h.vp x g
  · obtain ⟨q1, q2, q3⟩ := h.run hi
    refine ⟨q1, q2, fun i hin e => ?_⟩
    obtain ⟨r1, r2, r3⟩ := q3 i hin e
    refine ⟨r1, r2, ?_⟩
    rw [set_getD p 0 t a i hla]
    split
    · rename_i g
      subst g
      omega
    · exact r3
/-- One hears what is on its way. -/
theorem J.hear {n : Nat} {m : Int} {c : Cu} {p : List Int} {l1 l2 : List H} {x : H} (h : J n m c p (l1 ++ x :: l2)) {b : Nat} (hb : b < n) :
    gotE c b x.2.2 = 0 ∧ J n m (gotC c b x.2.2) (p.set b (min (p.getD b 0) x.2.1)) (l1 ++ l2) := by
  have hxl : x ∈ l1 ++ x :: l2 := List.mem_append.2 (.inr (List.mem_cons_self ..))
  have hsub : ∀ y ∈ l1 ++ l2, y ∈ l1 ++ x :: l2 := fun y hy => by
    rcases List.mem_append.1 hy with g | g
    · exact List.mem_append.2 (.inl g)
    · exact List.mem_append.2 (.inr (List.mem_cons_of_mem _ g))
  have hk := h.cl x hxl
  have hcn : ∀ k, cnt k (l1 ++ x :: l2) = cnt k (l1 ++ l2) + if x.2.2 = k then 1 else 0 := fun k => by
    rw [cnt_app, show x :: l2 = [x] ++ l2 from rfl, cnt_app, cnt_one, cnt_app]
    omega
  have hon := on_cnt h hk
  have hpos : on c x.2.2 ≠ 0 := by
    rw [hon, hcn, if_pos rfl]
    have := cnt_nonneg x.2.2 (l1 ++ l2)
    omega
  have hE : gotE c b x.2.2 = 0 := by
    unfold gotE isP
    rw [if_pos]
    refine ⟨by rw [h.lc]; simp; omega, hk, hpos⟩
  refine ⟨hE, ?_⟩
  have hX : gotC c b x.2.2 = addOn c x.2.2 (-1) := by unfold gotC; rw [if_pos hE]
  rw [hX]
  obtain ⟨e1, e2, e3, e4, e5, e6, e7, e8⟩ := addOn_rest c x.2.2 (-1)
  have hlb : b < p.length := by rw [h.lp]; exact hb
  have hvb := h.vp _ (mem_getD (d := 0) hlb)
  have hvx := h.vh x hxl
  have hmb := h.hi _ (mem_getD (d := 0) hlb)
  have hc2 := add_cnt h (d := -1) (l' := l1 ++ l2) hk (by rw [hcn 0]; split <;> omega) (by rw [hcn 1]; split <;> omega)
  refine ⟨by rw [e1]; exact h.lc, by rw [e2]; exact h.lt, by rw [e3]; exact h.lr, by rw [List.length_set]; exact h.lp, h.n1, by rw [e5]; exact h.od, fun y hy => h.cl y (hsub y hy), hc2.1, hc2.2, fun y hy => ?_, fun y hy => h.hh y (hsub y hy), fun y hy => ?_, fun y hy => ?_, by rw [e7]; exact h.v0, fun hi => ?_, fun hi => ?_⟩
  · rcases mem_set hy with rfl | g
    · omega
    · exact h.hi y g
  · rw [e7]
    rcases mem_set hy with rfl | g
    · omega
    · exact h.vp y g
  · rw [e7]
    exact h.vh y (hsub y hy)
  · rw [e4] at hi
    obtain ⟨k, q0, q1, q2⟩ := h.idle hi
    exact ⟨k, q0, by rw [e1]; exact q1, fun y hy => q2 y (hsub y hy)⟩
  · rw [e4] at hi
    obtain ⟨q1, q2, q3⟩ := h.run hi
    rw [e1, e2, e3, e5, e6]
    refine ⟨q1, fun y hy e => q2 y (hsub y hy) e, fun i hin e => ?_⟩
    obtain ⟨r1, r2, r3⟩ := q3 i hin e
    have hco : x.2.2 ≠ c.old := by
      rw [on_cnt h h.od] at r2
      exact cnt_zero r2 x hxl
    have hcx : x.2.2 = 1 - c.old := by have := h.od; omega
    have hlx := q2 x hxl hcx
    refine ⟨r1, by rw [on_add_other c (-1) hk h.od hco]; exact r2, ?_⟩
    rw [set_getD p 0 _ b i hlb]
    split
    · rename_i g
      subst g
      omega
    · exact r3
theorem J.turn {n : Nat} {m : Int} {c : Cu} {p : List Int} {l : List H} (h : J n m c p l) {a : Nat} (ha : a < n) : J n m (turC c a) p l := by
  unfold turC
  split
  case isFalse => exact h
  case isTrue hE =>
    have hP : isP c a = true := by unfold isP; rw [h.lc]; simp; omega
    have hh : c.is = true ∧ tud c a = false := by
      unfold turE at hE
      rw [hP] at hE
      simp at hE
      cases h1 : c.is <;> cases h2 : tud c a <;> simp [h1, h2] at hE ⊢
    have hta : c.tu.getD a false = false := by simpa [tud] using hh.2
    have hlt : a < c.tu.length := by rw [h.lt]; exact ha
    have hlc : a < c.co.length := by rw [h.lc]; exact ha
    obtain ⟨q1, q2, q3⟩ := h.run hh.1
    refine { h with lc := by show (c.co.set _ _).length = n; rw [List.length_set]; exact h.lc, lt := by show (c.tu.set _ _).length = n; rw [List.length_set]; exact h.lt, idle := fun g => ?_, run := fun _ => ⟨fun i hin => ?_, q2, fun i hin e => ?_⟩ }
    · have g' : c.is = false := g
      rw [hh.1] at g'
      cases g'
    · show (c.co.set ((a : Int).toNat) (1 - c.old)).getD i 0 = if (c.tu.set ((a : Int).toNat) true).getD i false = true then 1 - c.old else c.old
      rw [Int.toNat_natCast, set_getD c.co 0 _ a i hlc, set_getD c.tu false _ a i hlt]
      by_cases e : i = a
      · rw [if_pos e, if_pos e, if_pos rfl]
      · rw [if_neg e, if_neg e]
        exact q1 i hin
    · exfalso
      have r1 := (q3 i hin e).1
      have := allB_iff.1 r1 a hlt
      rw [hta] at this
      cases this
theorem J.rep {n : Nat} {m : Int} {c : Cu} {p : List Int} {l : List H} (h : J n m c p l) {a : Nat} (ha : a < n) : J n m (repC c a (p.getD a 0)) p l ∧ c.v ≤ (repC c a (p.getD a 0)).v ∧ ((repC c a (p.getD a 0)).r = c.r → (repC c a (p.getD a 0)).v = c.v) := by
  unfold repC
  split
  case isFalse => exact ⟨h, Int.le_refl _, fun _ => rfl⟩
  case isTrue hE =>
    have hla : a < p.length := by rw [h.lp]; exact ha
    have hlr : a < c.re.length := by rw [h.lr]; exact ha
    have hh : c.is = true ∧ allB c.tu = true ∧ ¬ 0 < on c c.old := by
      unfold repE at hE
      split at hE
      · cases hE
      · split at hE
        · cases hE
        · rename_i g
          split at hE
          · cases hE
          · rename_i g2
            refine ⟨?_, ?_, g2⟩
            · cases h1 : c.is
              · exact absurd (.inl h1) g
              · rfl
            · cases h1 : allB c.tu
              · exact absurd (.inr (.inl h1)) g
              · rfl
    obtain ⟨q1, q2, q3⟩ := h.run hh.1
    have hon := on_cnt h h.od
    have hz : on c c.old = 0 := by
      have := cnt_nonneg c.old l
      omega
    have hnew : ∀ y ∈ l, y.2.2 = 1 - c.old := fun y hy => by
      rw [hon] at hz
      have := cnt_zero hz y hy
      have := h.cl y hy
      have := h.od
      omega
    have hre : ∀ i, i < n → (c.re.set a true).getD i false = true → min c.le (p.getD a 0) ≤ p.getD i 0 := fun i hin e => by
      rw [set_getD c.re false true a i hlr] at e
      by_cases g : i = a
      · subst g
        exact Int.min_le_right _ _
      · rw [if_neg g] at e
        exact Int.le_trans (Int.min_le_left _ _) (q3 i hin e).2.2
    dsimp only
    rw [Int.toNat_natCast]
    by_cases hall : allB (c.re.set a true) = true
    · rw [if_pos hall]
      have hp : ∀ x ∈ p, min c.le (p.getD a 0) ≤ x := fun x hx => by
        obtain ⟨i, hi, rfl⟩ := List.mem_iff_getElem.1 hx
        have hin : i < n := by rw [← h.lp]; exact hi
        have := hre i hin (allB_iff.1 hall i (by rw [List.length_set, h.lr]; exact hin))
        simpa [hi] using this
      have hl : ∀ y ∈ l, min c.le (p.getD a 0) ≤ y.2.1 := fun y hy => Int.le_trans (Int.min_le_left _ _) (q2 y hy (hnew y hy))
      refine ⟨?_, ?_, ?_⟩
      · refine { h with lr := by show (c.re.set a true).length = n; rw [List.length_set]; exact h.lr, vp := fun x hx => ?_, vh := fun y hy => ?_, v0 := ?_, idle := fun _ => ⟨1 - c.old, by have := h.od; omega, fun x hx => ?_, hnew⟩, run := fun g => (by cases g) }
        · show max c.v (min c.le (p.getD a 0)) ≤ x
          have := h.vp x hx
          have := hp x hx
          omega
        · show max c.v (min c.le (p.getD a 0)) ≤ y.2.1
          have := h.vh y hy
          have := hl y hy
          omega
        · show 0 ≤ max c.v (min c.le (p.getD a 0))
          have := h.v0
          omega
        · obtain ⟨i, hi, rfl⟩ := List.mem_iff_getElem.1 hx
          have hin : i < n := by rw [← h.lc]; exact hi
          have g1 := q1 i hin
          rw [if_pos (allB_iff.1 hh.2.1 i (by rw [h.lt]; exact hin))] at g1
          simpa [hi] using g1
      · show c.v ≤ max c.v (min c.le (p.getD a 0))
        omega
      · intro g
        have g' : c.r + 1 = c.r := g
        omega
    · rw [if_neg hall]
      refine ⟨?_, Int.le_refl _, fun _ => rfl⟩
      refine { h with lr := by show (c.re.set a true).length = n; rw [List.length_set]; exact h.lr, idle := fun g => ?_, run := fun _ => ⟨q1, fun y hy e => ?_, fun i hin e => ⟨hh.2.1, hz, hre i hin e⟩⟩ }
      · have g' : c.is = false := g
        rw [hh.1] at g'
        cases g'
      · show min c.le (p.getD a 0) ≤ y.2.1
        exact Int.le_trans (Int.min_le_left _ _) (q2 y hy e)
theorem beg_v (c : Cu) : (begC c).v = c.v := by unfold begC; split <;> rfl
theorem sen_v (c : Cu) (i t : Int) : (senC c i t).v = c.v := by
  unfold senC
  have e := (addOn_rest c (col c i) 1).2.2.2.2.2.2.1
  split
  · dsimp only
    split
    · exact e
    · exact e
  · rfl
theorem got_v (c : Cu) (i k : Int) : (gotC c i k).v = c.v := by
  unfold gotC
  split
  · exact (addOn_rest c k (-1)).2.2.2.2.2.2.1
  · rfl
theorem tur_v (c : Cu) (i : Int) : (turC c i).v = c.v := by unfold turC; split <;> rfl
end Go.Proofs.Ytdfjmnckgcpmgaa.K
