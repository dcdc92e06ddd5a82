/- Joined: the texts that follow, each with its own sentence. -/
import Derived.Test.YtiaopafkfadmkaaGreatZW
import Derived.Test.YtiaopafkfadmkaaGreatZJf
import Derived.Test.YtiaopafkfadmkaaGreatZQa
set_option linter.unusedVariables false
set_option maxRecDepth 100000
namespace Go.Proofs.YtiaopafkfadmkaaGreat.V
abbrev Mg := Go.Proofs.YtiaopafkfadmkaaGreat.B.M
abbrev Kg := Go.Proofs.YtiaopafkfadmkaaGreat.B.K
abbrev Hg := Go.Proofs.YtiaopafkfadmkaaGreat.G.H
abbrev En := Go.Proofs.YtiaopafkfadmkaaGreat.A.P
abbrev klt (a b : Kg) : Bool := Go.Proofs.YtiaopafkfadmkaaGreat.B.klt a b
def m8 (m : Mg) : Go.Proofs.YtiaopafkfadmkaaGreat.M := ⟨m.1.1, m.1.2.1, m.1.2.2, m.2.1, m.2.2.1, m.2.2.2⟩
def m6 (x : Go.Proofs.YtiaopafkfadmkaaGreat.M) : Mg := ((x.t, x.fr, x.sq), x.dst, x.cl, x.bd)
structure Cf where
 F : W.Fe
 n : Nat
 f : Nat
 kd : Int → Int
 en : Int
 lk : Int
def kdD (D : Wd) (j : Int) : Int := (nthF D.fs j.toNat).kd
def fe (D : Wd) (f : Nat) : W.Fe := ⟨fun s n m => ((stp (nthF D.fs f).rs s m.2.2.1).1, n + ((stp (nthF D.fs f).rs s m.2.2.1).2.length : Int), (spr D f n m.1.1 m.2.2.2 (stp (nthF D.fs f).rs s m.2.2.1).2).map m6), fun o => decide (kdD D o.2.1 = 1)⟩
def cf (D : Wd) (f : Nat) : Cf := ⟨fe D f, D.fs.length, f, kdD D, D.en, (nthF D.fs f).lk⟩
structure CfOk (C : Cf) : Prop where
 n8 : C.n ≤ 8
 fn : C.f < C.n
 kd : ∀ j, C.kd j = 0 ∨ C.kd j = 1
 kf : C.kd C.f = 1
 lk : 1 ≤ C.lk ∧ C.lk ≤ 1048576
 en : 0 ≤ C.en ∧ C.en ≤ 1099511627776
 tn : ∀ s n m, n ≤ (C.F.tk s n m).2.1 ∧ (C.F.tk s n m).2.1 ≤ n + 3
 ts : ∀ s n m, (C.F.tk s n m).2.2.length ≤ 24
 td : ∀ s n m, ∀ o ∈ (C.F.tk s n m).2.2, 0 ≤ o.2.1 ∧ o.2.1 < C.n
 op : C.F.op = fun o => decide (C.kd o.2.1 = 1)
structure X where
 nd : W.Nd
 fl : Int
 c : Int → Int
 lg : List Dn
def x0 (s n : Int) : X := ⟨⟨s, n, [], [], []⟩, 0, fun _ => 0, []⟩
def isC (C : Cf) (j : Int) : Bool := decide (0 ≤ j ∧ j < C.n ∧ C.kd j = 0)
def okT (t : Int) : Bool := decide (0 ≤ t ∧ t ≤ 1099511627776 ∨ t = 1125899906842624)
def upC (c : Int → Int) (j t : Int) : Int → Int := fun i => if i = j then t else c i
def hasP (p : List En) (k : Kg) : Bool := p.any (fun e => decide (e.m.1 = k))
def beh (p : List En) (k : Kg) : Nat := (p.filter (fun e => klt k e.m.1)).length
def hrA (C : Cf) (fr : Int) : Bool := decide (fr < 0 ∨ (C.n : Int) ≤ fr ∨ fr = C.f)
def hrL (C : Cf) (x : X) (fr T : Int) : Bool := decide (T < x.fl ∨ (C.kd fr = 0 ∧ T < x.c fr))
def hearE (C : Cf) (x : X) (fr k : Int) (m : Mg) : Int :=
 if hrA C fr = true then 1
 else if k = 2 then (if C.kd fr = 0 ∧ okT m.1.1 = true then (if m.1.1 < x.c fr then 110 else 0) else 1)
 else if k = 1 then
  (if C.kd fr = 0 then 1 else if hrL C x fr m.1.1 = true then 110 else if Q.hasK x.nd.q m.1 = true then 0 else if hasP x.nd.p m.1 = false then 4 else if 64 < x.nd.q.length + beh x.nd.p m.1 then 2 else 0)
 else if k = 0 then
  (if hrL C x fr m.1.1 = true then 110 else if Q.hasK x.nd.q m.1 = true ∨ hasP x.nd.p m.1 = true then 3 else if 64 < x.nd.q.length + beh x.nd.p m.1 + 1 then 2 else 0)
 else 130
def hearX (C : Cf) (x : X) (fr k : Int) (m : Mg) : X :=
 if hearE C x fr k m = 0 then
  (if k = 2 then { x with c := upC x.c fr m.1.1 }
  else if k = 1 then { x with nd := if Q.hasK x.nd.q m.1 = true then W.antiQ m.1 x.nd else W.antiP m.1 x.nd }
  else { x with nd := W.plain m x.nd })
 else x
def hearI (C : Cf) (x : X) (fr k : Int) (m : Mg) : List Mg :=
 if hearE C x fr k m = 0 then (if k = 2 then [] else if k = 1 ∧ Q.hasK x.nd.q m.1 = true then [] else W.antis C.F m.1 x.nd) else []
def zeroD : Dn := ⟨⟨0, 0, 0, 0, 0, 0⟩, 0⟩
def hd (x : X) : Mg := x.nd.q.headD Q.zeroM
def stepE (C : Cf) (x : X) : Int :=
 if x.nd.q.isEmpty = true ∨ C.en ≤ (hd x).1.1 then 150 else if 64 ≤ x.nd.p.length ∨ 192 < x.nd.g.length then 2 else 0
def stepX (C : Cf) (x : X) : X := if stepE C x = 0 then { x with nd := W.step C.F (hd x) x.nd } else x
def stepO (C : Cf) (x : X) : List Mg := (C.F.tk x.nd.s x.nd.n (hd x)).2.2
def stepI (C : Cf) (x : X) : List Mg := if stepE C x = 0 then (stepO C x).filter C.F.op else []
def stepD (C : Cf) (x : X) : Dn := if stepE C x = 0 then ⟨m8 (hd x), (C.F.tk x.nd.s x.nd.n (hd x)).1⟩ else zeroD
def bndK (C : Cf) (c : Int → Int) : Nat → Int
 | 0 => 1125899906842624
 | k + 1 => if C.kd k = 0 then min (bndK C c k) (c k) else bndK C c k
def locT (C : Cf) (x : X) : Int := if x.nd.q.isEmpty = true then bndK C x.c C.n else min (bndK C x.c C.n) (cnt (hd x).1.1)
def dn (e : En) : Dn := ⟨m8 e.m, e.st⟩
def commE (C : Cf) (x : X) (t : Int) : Int := if t < x.fl then 110 else if locT C x < t then 130 else 0
def commD (C : Cf) (x : X) (t : Int) : List Dn := if commE C x t = 0 then (x.nd.p.filter (A.low t)).map dn else []
def commM (C : Cf) (x : X) (t : Int) : List Mg := if commE C x t = 0 then G.openG t x.nd.g else []
def commX (C : Cf) (x : X) (t : Int) : X := if commE C x t = 0 then ⟨W.settle t x.nd, t, x.c, x.lg ++ commD C x t⟩ else x
structure Inv (C : Cf) (N : Nat) (x : X) : Prop where
 rp : ∃ s0 n0 al c, W.Rp C.F s0 n0 al c x.nd ∧ (∀ y ∈ al, x.fl ≤ y.1.1 ∨ 1099511627776 < y.1.1) ∧ (∀ y ∈ al, B.mwf y) ∧ 0 ≤ n0 ∧ n0 + 3 * (al.length : Int) ≤ 3 * (N : Int) ∧ x.lg.length + al.length ≤ N
 pe : ∀ e ∈ x.nd.p, e.m.1.1 < C.en
 ck : ∀ j, isC C j = true → okT (x.c j) = true
 f0 : 0 ≤ x.fl ∧ x.fl ≤ 1125899906842624
 ql : x.nd.q.length ≤ 64
theorem Inv.mono {C : Cf} {N N' : Nat} {x : X} (h : Inv C N x) (hN : N ≤ N') : Inv C N' x := by
 obtain ⟨s0, n0, al, c, h1, h2, h3, h4, h5, h6⟩ := h.rp
 exact ⟨⟨s0, n0, al, c, h1, h2, h3, h4, by omega, by omega⟩, h.pe, h.ck, h.f0, h.ql⟩
theorem inv0 (C : Cf) (s n : Int) (N : Nat) (h0 : 0 ≤ n) (hN : n ≤ 3 * (N : Int)) : Inv C N (x0 s n) :=
 ⟨⟨s, n, [], 0, W.nil_rp C.F s n, fun _ h => (by cases h), fun _ h => (by cases h), h0, by simpa using hN, Nat.zero_le _⟩, fun _ h => (by cases h), fun _ _ => (by decide : okT 0 = true), ⟨(by show (0 : Int) ≤ 0; omega), (by show (0 : Int) ≤ 1125899906842624; omega)⟩, by simp [x0]⟩
theorem fin_n {C : Cf} (hC : CfOk C) : ∀ (l : List Mg) (s n : Int), n ≤ (W.fin C.F s n l).2 ∧ (W.fin C.F s n l).2 ≤ n + 3 * (l.length : Int)
 | [], s, n => ⟨Int.le_refl _, by simp [W.fin]⟩
 | m :: r, s, n => by
  have h1 := hC.tn s n m
  have h2 := fin_n hC r (C.F.tk s n m).1 (C.F.tk s n m).2.1
  have e : W.fin C.F s n (m :: r) = W.fin C.F (C.F.tk s n m).1 (C.F.tk s n m).2.1 r := rfl
  rw [e, List.length_cons]
  omega
theorem Inv.sn {C : Cf} {N : Nat} {x : X} (hC : CfOk C) (h : Inv C N x) : 0 ≤ x.nd.n ∧ x.nd.n ≤ 3 * (N : Int) := by
 obtain ⟨s0, n0, al, c, h1, h2, h3, h4, h5, h6⟩ := h.rp
 have e : x.nd.n = (W.fin C.F s0 n0 (al.take c)).2 := congrArg Prod.snd h1.s
 have g := fin_n hC (al.take c) s0 n0
 have hl : (al.take c).length ≤ al.length := by rw [List.length_take]; omega
 rw [e]
 omega
theorem Inv.lg {C : Cf} {N : Nat} {x : X} (h : Inv C N x) : x.lg.length ≤ N := by
 obtain ⟨s0, n0, al, c, h1, h2, h3, h4, h5, h6⟩ := h.rp
 omega
theorem tr_mem {F : W.Fe} {e : En} : ∀ (l : List Mg) (s n : Int), e ∈ W.tr F s n l → e.m ∈ l ∧ ∃ s' n', e.ah = s' ∧ e.se = n' ∧ e.st = (F.tk s' n' e.m).1 ∧ e.os = (F.tk s' n' e.m).2.2
 | [], s, n, h => by cases h
 | m :: r, s, n, h => by
  rcases List.mem_cons.1 h with rfl | h
  ·exact ⟨List.mem_cons_self .., s, n, rfl, rfl, rfl, rfl⟩
  ·obtain ⟨h1, h2⟩ := tr_mem r _ _ h
   exact ⟨List.mem_cons_of_mem _ h1, h2⟩
theorem Inv.pm {C : Cf} {N : Nat} {x : X} (hC : CfOk C) (h : Inv C N x) : ∀ e ∈ x.nd.p, B.mwf e.m ∧ x.fl ≤ e.m.1.1 ∧ e.os.length ≤ 24 ∧ ∀ o ∈ e.os, 0 ≤ o.2.1 ∧ o.2.1 < C.n := by
 obtain ⟨s0, n0, al, c, h1, h2, h3, h4, h5, h6⟩ := h.rp
 intro e he
 have hpe := h.pe e he
 have hen := hC.en.2
 rw [h1.p] at he
 obtain ⟨g1, s', n', _, _, _, g5⟩ := tr_mem _ _ _ he
 have g1' := List.mem_of_mem_take g1
 exact ⟨h3 _ g1', by rcases h2 _ g1' with g | g <;> omega, by rw [g5]; exact hC.ts _ _ _, by rw [g5]; exact hC.td _ _ _⟩
theorem Inv.qm {C : Cf} {N : Nat} {x : X} (h : Inv C N x) : ∀ m ∈ x.nd.q, B.mwf m ∧ (x.fl ≤ m.1.1 ∨ 1099511627776 < m.1.1) := by
 obtain ⟨s0, n0, al, c, h1, h2, h3, h4, h5, h6⟩ := h.rp
 intro m hm
 rw [h1.q] at hm
 have := List.mem_of_mem_drop hm
 exact ⟨h3 _ this, h2 _ this⟩
theorem Inv.srt {C : Cf} {N : Nat} {x : X} (h : Inv C N x) : W.SrtM (x.nd.p.map A.P.m ++ x.nd.q) := by
 obtain ⟨s0, n0, al, c, h1, h2, h3, h4, h5, h6⟩ := h.rp
 rw [h1.p, W.tr_ms, h1.q, List.take_append_drop]
 exact h1.srt
theorem Inv.nl {C : Cf} {N : Nat} {x : X} (h : Inv C N x) : x.nd.p.length + x.nd.q.length ≤ N := by
 obtain ⟨s0, n0, al, c, h1, h2, h3, h4, h5, h6⟩ := h.rp
 rw [h1.p, W.tr_len, h1.q, List.length_take, List.length_drop]
 have := h1.le
 omega
theorem srt_ins {l : List Mg} (h : W.SrtM l) {m : Mg} (hn : ∀ y ∈ l, y.1 ≠ m.1) : Q.ins l m = W.insM m l := by
 have hn2 : m.1 ∉ l.map Prod.fst := fun g => by
  obtain ⟨y, hy, e⟩ := List.mem_map.1 g
  exact hn y hy e
 refine W.srt_ext (a := Q.ins l m) (b := W.insM m l) (Q.Srt.ins h hn2) (W.insM_srt h m hn) (fun y => ?_)
 rw [Q.ins_mem, W.insM_mem]
 exact Or.comm
theorem hasK_iff {l : List Mg} {k : Kg} : Q.hasK l k = true ↔ ∃ m ∈ l, m.1 = k := by
 unfold Q.hasK
 rw [List.any_eq_true]
 simp
theorem hasK_no {l : List Mg} {k : Kg} (h : Q.hasK l k = false) : ∀ m ∈ l, m.1 ≠ k := fun m hm e => by
 have := hasK_iff.2 ⟨m, hm, e⟩
 rw [h] at this
 cases this
theorem hasP_iff {l : List En} {k : Kg} : hasP l k = true ↔ ∃ e ∈ l, e.m.1 = k := by
 unfold hasP
 rw [List.any_eq_true]
 simp
theorem hasP_no {l : List En} {k : Kg} (h : hasP l k = false) : ∀ e ∈ l, e.m.1 ≠ k := fun e he g => by
 have := hasP_iff.2 ⟨e, he, g⟩
 rw [h] at this
 cases this
theorem rp_new {F : W.Fe} {s0 n0 : Int} {al : List Mg} {c : Nat} {x : W.Nd} (h : W.Rp F s0 n0 al c x) {k : Kg} (h1 : Q.hasK x.q k = false) (h2 : hasP x.p k = false) : ∀ y ∈ al, y.1 ≠ k := by
 intro y hy e
 rw [← List.take_append_drop c al] at hy
 rcases List.mem_append.1 hy with g | g
 ·have : y ∈ x.p.map A.P.m := by rw [h.p, W.tr_ms]; exact g
  obtain ⟨z, hz, rfl⟩ := List.mem_map.1 this
  exact hasP_no h2 z hz e
 ·rw [← h.q] at g
  exact hasK_no h1 y g e
end Go.Proofs.YtiaopafkfadmkaaGreat.V
