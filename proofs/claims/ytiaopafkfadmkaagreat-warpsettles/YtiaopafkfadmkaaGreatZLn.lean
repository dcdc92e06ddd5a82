/- Joined: the texts that follow, each with its own sentence. -/
import Derived.Test.YtiaopafkfadmkaaGreatZVm
import Derived.Test.YtiaopafkfadmkaaGreatZVp
set_option linter.unusedVariables false
set_option maxRecDepth 100000
namespace Go.Proofs.YtiaopafkfadmkaaGreat.V
open Go.RowKit Go.Shelf
theorem open_gt {F : W.Fe} {p : List En} (hs : p.Pairwise (fun a b => klt a.m.1 b.m.1 = true)) (t : Int) : G.openG t (W.gt F p) = (W.gt F (p.filter (A.low t))).map (fun y => y.2) := by
 unfold G.openG G.msgs
 have e : (W.gt F p).filter (G.low t) = W.gt F (p.filter (A.low t)) := W.gt_filter F p (fun k => decide (k.1 < t))
 rw [e, W.gt_open F (List.Pairwise.sublist List.filter_sublist hs)]
structure Lg (x : X) : Prop where
 ks : x.lg.Pairwise (fun a b => klt (m6 a.m).1 (m6 b.m).1 = true)
 lo : ∀ d ∈ x.lg, d.m.t < x.fl
structure Pr (w0 : World) (n i : Nat) (x : X) (Z : Ad) (T : Nat → Prop) (W : World) : Prop where
 pn : PN w0 (Bo n) (i + 2) x Z T W
 lg : Lg x
theorem PN.inv {w0 : World} {C : Cf} {N : Nat} {x : X} {Z : Ad} {T : Nat → Prop} {W : World} (h : PN w0 C N x Z T W) : CfOk C ∧ Inv C N x := by
 obtain ⟨D, f, F, v, rfl, h2, h3, _⟩ := h
 exact ⟨h2, h3⟩
end Go.Proofs.YtiaopafkfadmkaaGreat.V
namespace Go.Proofs.YtiaopafkfadmkaaGreat.V
open Go.RowKit Go.Shelf
theorem bo_os (n : Nat) (s c : Int) : (stp (nthF (boD n).fs 0).rs s c).2 = [] ∨ (stp (nthF (boD n).fs 0).rs s c).2 = [(1, 2, 1)] ∨ (stp (nthF (boD n).fs 0).rs s c).2 = [(1, 3, 5), (1, 4, 7)] := by
 rcases stp_os (nthF (boD n).fs 0).rs s c with e | ⟨r, hr, e⟩
 ·exact .inl e
 ·have hr2 : r ∈ [boR0 n, boR1 n] := hr
  simp at hr2
  rcases hr2 with rfl | rfl
  ·exact .inr (.inl e)
  ·exact .inr (.inr e)
theorem bo_tk1 (n : Nat) (s k : Int) (m : Mg) : ((Bo n).F.tk s k m).2.1 = k + ((stp (nthF (boD n).fs 0).rs s m.2.2.1).2.length : Int) := rfl
theorem bo_tk2 (n : Nat) (s k : Int) (m : Mg) : ((Bo n).F.tk s k m).2.2 = (spr (boD n) 0 k m.1.1 m.2.2.2 (stp (nthF (boD n).fs 0).rs s m.2.2.1).2).map m6 := rfl
theorem bo_f0 (n : Nat) (k T b : Int) : ((spr (boD n) 0 k T b [(1, 2, 1)]).map m6).filter (Bo n).F.op = [((vadd T 2, 0, k + ((0 : Nat) : Int)), 1, 1, (b + 1) % 1000)] := by kernel_rfl
theorem bo_f1 (n : Nat) (k T b : Int) : ((spr (boD n) 0 k T b [(1, 3, 5), (1, 4, 7)]).map m6).filter (Bo n).F.op = [((vadd T 3, 0, k + ((0 : Nat) : Int)), 1, 1, (b + 5) % 1000), ((vadd T 4, 0, k + ((1 : Nat) : Int)), 1, 1, (b + 7) % 1000)] := by kernel_rfl
theorem bo_g0 (n : Nat) (k T b : Int) : (((spr (boD n) 0 k T b [(1, 2, 1)]).map m6).filter (fun o => !(Bo n).F.op o)).length = 1 := by kernel_rfl
theorem bo_g1 (n : Nat) (k T b : Int) : (((spr (boD n) 0 k T b [(1, 3, 5), (1, 4, 7)]).map m6).filter (fun o => !(Bo n).F.op o)).length = 2 := by kernel_rfl
theorem bo_n0 (n : Nat) (k T b : Int) : (spr (boD n) 0 k T b []).map m6 = [] := rfl
theorem bo_ris (n : Nat) : W.Ris (Bo n).F := by
 intro s k m
 rw [bo_tk1, bo_tk2]
 rcases bo_os n s m.2.2.1 with e | e | e
 ·rw [e, bo_n0]
  exact ⟨by simp, List.Pairwise.nil, fun o ho => (by cases ho)⟩
 ·rw [e, bo_f0]
  refine ⟨by simp; omega, List.pairwise_singleton _ _, fun o ho => ?_⟩
  rw [List.mem_singleton.1 ho]
  simp
  omega
 ·rw [e, bo_f1]
  refine ⟨by simp; omega, ?_, fun o ho => ?_⟩
  ·simp
   omega
  ·simp at ho
   rcases ho with rfl | rfl
   ·simp
    omega
   ·simp
    omega
theorem bo_held (n : Nat) (s k : Int) (m : Mg) : (((Bo n).F.tk s k m).2.2.filter (fun o => !(Bo n).F.op o)).length ≤ 2 := by
 rw [bo_tk2]
 rcases bo_os n s m.2.2.1 with e | e | e
 ·rw [e, bo_n0]
  exact Nat.zero_le _
 ·rw [e, bo_g0]
  omega
 ·rw [e, bo_g1]
  omega
theorem gt_len2 {F : W.Fe} : ∀ {p : List En}, (∀ e ∈ p, (e.os.filter (fun o => !F.op o)).length ≤ 2) → (W.gt F p).length ≤ 2 * p.length
 | [], _ => Nat.zero_le _
 | e :: r, h => by
  have e1 : W.gt F (e :: r) = (e.os.filter (fun o => !F.op o)).map (fun o => (e.m.1, o)) ++ W.gt F r := rfl
  have h1 := gt_len2 (F := F) (p := r) (fun y hy => h y (List.mem_cons_of_mem _ hy))
  have h2 := h e (List.mem_cons_self ..)
  rw [e1, List.length_append, List.length_map, List.length_cons]
  omega
structure Sb (n : Nat) (al : List Mg) (c : Nat) (x : X) : Prop where
 rp : W.Rp (Bo n).F 0 0 al c x.nd
 fl : x.fl = 0
 lg : x.lg = []
 en : c ≤ W.posT 200 al
 ln : al.length ≤ 30
 ms : ∀ y ∈ al, y.2.2.1 = 0 ∧ 0 ≤ y.1.1 ∧ y.1.1 ≤ 255
theorem Sb.zero (n : Nat) : Sb n [] 0 (x0 0 0) := ⟨W.nil_rp _ 0 0, rfl, rfl, Nat.zero_le _, Nat.zero_le _, fun y hy => (by cases hy)⟩
theorem Sb.q {n : Nat} {al : List Mg} {c : Nat} {x : X} (h : Sb n al c x) : x.nd.q = al.drop c ∧ x.nd.p.length = c ∧ c ≤ al.length ∧ x.nd.q.length = al.length - c := by
 have hl := h.rp.le
 refine ⟨h.rp.q, ?_, hl, by rw [h.rp.q, List.length_drop]⟩
 rw [h.rp.p, W.tr_len, List.length_take]
 omega
theorem Sb.g {n : Nat} {al : List Mg} {c : Nat} {x : X} (h : Sb n al c x) : x.nd.g.length ≤ 2 * c := by
 rw [h.rp.g, ← h.q.2.1]
 refine gt_len2 fun e he => ?_
 rw [h.rp.p] at he
 obtain ⟨_, s', n', _, _, _, g5⟩ := tr_mem _ _ _ he
 rw [g5]
 exact bo_held n s' n' e.m
theorem Sb.no {n : Nat} {al : List Mg} {c : Nat} {x : X} (h : Sb n al c x) {k : Kg} (hn : ∀ y ∈ al, y.1 ≠ k) : Q.hasK x.nd.q k = false ∧ hasP x.nd.p k = false := by
 refine ⟨?_, ?_⟩
 ·rw [Bool.eq_false_iff]
  intro g
  obtain ⟨m, hm, e⟩ := hasK_iff.1 g
  rw [h.rp.q] at hm
  exact hn m (List.mem_of_mem_drop hm) e
 ·rw [Bool.eq_false_iff]
  intro g
  obtain ⟨e, he, g2⟩ := hasP_iff.1 g
  have : e.m ∈ x.nd.p.map A.P.m := List.mem_map.2 ⟨e, he, rfl⟩
  rw [h.rp.p, W.tr_ms] at this
  exact hn _ (List.mem_of_mem_take this) g2
theorem bo_hr (n : Nat) : hrA (Bo n) 1 = false ∧ hrA (Bo n) 2 = false := ⟨by kernel_rfl, by kernel_rfl⟩
theorem bo_hl (n : Nat) {x : X} {t : Int} (hf : x.fl ≤ t) : hrL (Bo n) x 1 t = false := by
 unfold hrL
 rw [(bo_kd n).2.1]
 simp
 omega
theorem Sb.beh {n : Nat} {al : List Mg} {c : Nat} {x : X} (h : Sb n al c x) (k : Kg) : beh x.nd.p k ≤ c := by
 unfold V.beh
 exact Nat.le_trans (List.length_filter_le _ _) (by rw [h.q.2.1]; exact Nat.le_refl _)
theorem Sb.plain {n : Nat} {al : List Mg} {c : Nat} {x : X} (h : Sb n al c x) {m : Mg} (hm : m.2.2.1 = 0 ∧ 0 ≤ m.1.1 ∧ m.1.1 ≤ 255) (hn : ∀ y ∈ al, y.1 ≠ m.1) (hl : al.length < 30) :
  hearE (Bo n) x 1 0 m = 0 ∧ hearX (Bo n) x 1 0 m = { x with nd := W.plain m x.nd } ∧ hearI (Bo n) x 1 0 m = W.antis (Bo n).F m.1 x.nd ∧ Sb n (W.insM m al) (min c (W.pos m.1 al)) (hearX (Bo n) x 1 0 m) := by
 obtain ⟨hq, hp⟩ := h.no hn
 have hL := bo_hl n (x := x) (t := m.1.1) (by rw [h.fl]; exact hm.2.1)
 have hb := h.beh m.1
 have hlq := h.q.2.2.2
 have hcl := h.q.2.2.1
 have hE : hearE (Bo n) x 1 0 m = 0 := by
  unfold hearE
  rw [(bo_hr n).1, hL, hq, hp]
  simp
  omega
 have hX : hearX (Bo n) x 1 0 m = { x with nd := W.plain m x.nd } := by
  unfold hearX
  rw [if_pos hE]
  simp
 refine ⟨hE, hX, ?_, ?_⟩
 ·unfold hearI
  rw [if_pos hE]
  simp
 ·rw [hX]
  refine ⟨W.plain_rp h.rp _ hn, h.fl, h.lg, W.plain_end h.rp h.en m hn, by rw [W.insM_len]; omega, fun y hy => ?_⟩
  rcases (W.insM_mem _ _ _).1 hy with e | e
  ·rw [e]
   exact hm
  ·exact h.ms y e
theorem Sb.step {n : Nat} {al : List Mg} {c : Nat} {x : X} (h : Sb n al c x) : stepX (Bo n) x = { x with nd := (W.stp (Bo n).F 200 x.nd).1 } ∧ stepI (Bo n) x = (W.stp (Bo n).F 200 x.nd).2 ∧ Sb n al (min (c + 1) (W.posT 200 al)) (stepX (Bo n) x) := by
 have hp := h.q.2.1
 have hc := h.q.2.2.1
 have hl := h.ln
 have hg := h.g
 have key : stepX (Bo n) x = { x with nd := (W.stp (Bo n).F 200 x.nd).1 } ∧ stepI (Bo n) x = (W.stp (Bo n).F 200 x.nd).2 := by
  unfold stepX stepI stepE stepO hd W.stp
  have hen : (Bo n).en = 200 := rfl
  rw [hen]
  cases hq : x.nd.q with
  | nil =>
   simp
  | cons m r =>
   by_cases hT : m.1.1 < 200
   ·have h1 : ¬ (64 ≤ x.nd.p.length ∨ 192 < x.nd.g.length) := by omega
    have h2 : ¬ (200 ≤ m.1.1) := by omega
    simp [hT, h1, h2]
   ·have h2 : 200 ≤ m.1.1 := by omega
    simp [hT, h2]
 obtain ⟨c', r1, r2⟩ := W.stp_rp h.rp h.en
 refine ⟨key.1, key.2, ?_⟩
 rw [key.1, ← r2]
 exact ⟨r1, h.fl, h.lg, by rw [r2]; omega, h.ln, h.ms⟩
theorem Sb.anti {n : Nat} {al : List Mg} {c : Nat} {x : X} (h : Sb n al c x) {m : Mg} (hm : m ∈ al) : hearE (Bo n) x 1 1 m = 0 ∧ ∃ c', Sb n (W.delM m.1 al) c' (hearX (Bo n) x 1 1 m) := by
 have hL := bo_hl n (x := x) (t := m.1.1) (by rw [h.fl]; exact (h.ms m hm).2.1)
 have hb := h.beh m.1
 have hlq := h.q.2.2.2
 have hcl := h.q.2.2.1
 have hln := h.ln
 have hk1 : ¬ (Bo n).kd 1 = 0 := by rw [(bo_kd n).2.1]; decide
 have hdl : (W.delM m.1 al).length ≤ 30 := Nat.le_trans (List.length_filter_le _ _) h.ln
 have hms : ∀ y ∈ W.delM m.1 al, y.2.2.1 = 0 ∧ 0 ≤ y.1.1 ∧ y.1.1 ≤ 255 := fun y hy => h.ms y ((W.delM_mem _ _ _).1 hy).1
 by_cases hq : Q.hasK x.nd.q m.1 = true
 ·have hE : hearE (Bo n) x 1 1 m = 0 := by
   unfold hearE
   rw [(bo_hr n).1, hL, hq]
   simp [hk1]
  have hX : hearX (Bo n) x 1 1 m = { x with nd := W.antiQ m.1 x.nd } := by
   unfold hearX
   rw [if_pos hE, hq]
   simp
  have hmq : m ∈ x.nd.q := by
   obtain ⟨y, hy, e⟩ := hasK_iff.1 hq
   have hy2 := hy
   rw [h.rp.q] at hy2
   have := W.srt_key h.rp.srt (List.mem_of_mem_drop hy2) hm e
   rw [← this]
   exact hy
  refine ⟨hE, c, ?_⟩
  rw [hX]
  exact ⟨W.antiQ_rp h.rp hmq, h.fl, h.lg, W.antiQ_end h.rp h.en hmq, hdl, hms⟩
 ·have hq' : Q.hasK x.nd.q m.1 = false := by simpa using hq
  have hmt : m ∈ al.take c := by
   rw [← List.take_append_drop c al] at hm
   rcases List.mem_append.1 hm with g | g
   ·exact g
   ·rw [← h.rp.q] at g
    exact absurd rfl (hasK_no hq' m g)
  have hp : hasP x.nd.p m.1 = true := by
   have : m ∈ x.nd.p.map A.P.m := by rw [h.rp.p, W.tr_ms]; exact hmt
   obtain ⟨e, he, e2⟩ := List.mem_map.1 this
   exact hasP_iff.2 ⟨e, he, by rw [e2]⟩
  have hE : hearE (Bo n) x 1 1 m = 0 := by
   unfold hearE
   rw [(bo_hr n).1, hL, hq', hp]
   simp [hk1]
   omega
  have hX : hearX (Bo n) x 1 1 m = { x with nd := W.antiP m.1 x.nd } := by
   unfold hearX
   rw [if_pos hE, hq']
   simp
  refine ⟨hE, W.pos m.1 al, ?_⟩
  rw [hX]
  exact ⟨W.antiP_rp h.rp hmt, h.fl, h.lg, W.antiP_end h.rp h.en hmt, hdl, hms⟩
theorem Sb.miss {n : Nat} {al : List Mg} {c : Nat} {x : X} (h : Sb n al c x) {m : Mg} (hn : ∀ y ∈ al, y.1 ≠ m.1) (h0 : 0 ≤ m.1.1) : hearE (Bo n) x 1 1 m = 4 ∧ hearX (Bo n) x 1 1 m = x := by
 obtain ⟨hq, hp⟩ := h.no hn
 have hL := bo_hl n (x := x) (t := m.1.1) (by rw [h.fl]; exact h0)
 have hk1 : ¬ (Bo n).kd 1 = 0 := by rw [(bo_kd n).2.1]; decide
 have hE : hearE (Bo n) x 1 1 m = 4 := by
  unfold hearE
  rw [(bo_hr n).1, hL, hq, hp]
  simp [hk1]
 refine ⟨hE, ?_⟩
 unfold hearX
 rw [hE]
 simp
def mB : Mg := ((1125899906842624, 0, 0), 0, 0, 0)
theorem bo_bnd (n : Nat) (c : Int → Int) : bndK (Bo n) c (Bo n).n = min 1125899906842624 (c 2) := rfl
structure Se (n : Nat) (al : List Mg) (x : X) : Prop where
 sb : Sb n al (W.posT 200 al) x
 c2 : x.c 2 = 1125899906842624
theorem Sb.bound {n : Nat} {al : List Mg} {x : X} (h : Sb n al (W.posT 200 al) x) (h2 : x.c 2 ≤ 1125899906842624) : hearE (Bo n) x 2 2 mB = 0 ∧ Se n al (hearX (Bo n) x 2 2 mB) := by
 have hE : hearE (Bo n) x 2 2 mB = 0 := by
  unfold hearE
  rw [(bo_hr n).2, (bo_kd n).2.2]
  have : ¬ mB.1.1 < x.c 2 := by show ¬ (1125899906842624 : Int) < x.c 2; omega
  simp [this]
  decide
 refine ⟨hE, ?_⟩
 unfold hearX
 rw [if_pos hE]
 exact ⟨⟨h.rp, h.fl, h.lg, h.en, h.ln, h.ms⟩, rfl⟩
def bel2 (al : List Mg) : List Mg := al.filter (fun m => decide (m.1.1 < 200))
structure Sf (n : Nat) (al : List Mg) (x : X) (t : Int) : Prop where
 lo : 200 ≤ t
 hi : t ≤ 1125899906842624
 e : commE (Bo n) x t = 0
 d : commD (Bo n) x t = (W.tr (Bo n).F 0 0 (bel2 al)).map dn
 m : commM (Bo n) x t = (W.gt (Bo n).F (W.tr (Bo n).F 0 0 (bel2 al))).map (fun y => y.2)
 fl : (commX (Bo n) x t).fl = t
 s : (commX (Bo n) x t).nd.s = (W.fin (Bo n).F 0 0 (bel2 al)).1
 q : (commX (Bo n) x t).nd.q = al.drop (W.posT 200 al)
theorem Se.fin {n : Nat} {al : List Mg} {x : X} (h : Se n al x) : Sf n al x (locT (Bo n) x) := by
 have hb : bndK (Bo n) x.c (Bo n).n = 1125899906842624 := by rw [bo_bnd, h.c2]; decide
 have hcut := W.posT_cut h.sb.rp.srt 200
 have hqT : ∀ y ∈ x.nd.q, 200 ≤ y.1.1 ∧ y.1.1 ≤ 255 := fun y hy => by
  rw [h.sb.rp.q, hcut.2] at hy
  obtain ⟨g1, g2⟩ := List.mem_filter.1 hy
  refine ⟨by simpa using g2, (h.sb.ms y g1).2.2⟩
 have hsq : W.SrtM x.nd.q := by rw [h.sb.rp.q]; exact h.sb.rp.srt.drop _
 have hp : x.nd.p = W.tr (Bo n).F 0 0 (bel2 al) := by rw [h.sb.rp.p, hcut.1]; rfl
 have ht : 200 ≤ locT (Bo n) x ∧ locT (Bo n) x ≤ 1125899906842624 ∧ ∀ y ∈ x.nd.q, locT (Bo n) x ≤ y.1.1 := by
  unfold locT
  rw [hb]
  cases hq : x.nd.q with
  | nil => exact ⟨by simp, by simp, fun y hy => (by cases hy)⟩
  | cons a r =>
   have ha := hqT a (by rw [hq]; exact List.mem_cons_self ..)
   have hd0 : hd x = a := by unfold hd; rw [hq]; rfl
   have hc : cnt (hd x).1.1 = a.1.1 := by rw [hd0]; exact cnt_mid (by omega) (by omega)
   have hm : min (1125899906842624 : Int) (cnt (hd x).1.1) = a.1.1 := by rw [hc]; omega
   rw [if_neg (by simp), hm]
   refine ⟨ha.1, by omega, fun y hy => ?_⟩
   rcases List.mem_cons.1 hy with rfl | g
   ·exact Int.le_refl _
   ·rw [hq] at hsq
    have := (B.klt_iff _ _).1 ((List.pairwise_cons.1 hsq).1 y g)
    omega
 obtain ⟨t1, t2, t3⟩ := ht
 have hE : commE (Bo n) x (locT (Bo n) x) = 0 := by
  unfold commE
  rw [h.sb.fl, if_neg (by omega), if_neg (by omega)]
 have hall : x.nd.p.filter (A.low (locT (Bo n) x)) = x.nd.p := W.settle_all t3 t1 h.sb.rp
 have hps : x.nd.p.Pairwise (fun a b => klt a.m.1 b.m.1 = true) := by rw [h.sb.rp.p]; exact W.tr_srt _ _ _ (h.sb.rp.srt.take _)
 have hX : commX (Bo n) x (locT (Bo n) x) = ⟨W.settle (locT (Bo n) x) x.nd, locT (Bo n) x, x.c, x.lg ++ commD (Bo n) x (locT (Bo n) x)⟩ := by unfold commX; rw [if_pos hE]
 refine ⟨t1, t2, hE, ?_, ?_, by rw [hX], ?_, ?_⟩
 ·unfold commD
  rw [if_pos hE, hall, hp]
 ·unfold commM
  rw [if_pos hE, h.sb.rp.g, open_gt hps, hall, hp]
 ·rw [hX]
  show x.nd.s = _
  rw [show x.nd.s = (W.fin (Bo n).F 0 0 (al.take (W.posT 200 al))).1 from congrArg Prod.fst h.sb.rp.s, hcut.1]
  rfl
 ·rw [hX]
  exact h.sb.rp.q
end Go.Proofs.YtiaopafkfadmkaaGreat.V
namespace Go.Proofs.YtiaopafkfadmkaaGreat.V
open Go.RowKit Go.Shelf
theorem bo_stp (n m : Nat) (s c : Int) : stp (nthF (boD n).fs 0).rs s c = stp (nthF (boD m).fs 0).rs s c :=
 stp_lik (l' := (nthF (boD n).fs 0).rs) (l := (nthF (boD m).fs 0).rs) rfl (fun i hi => by
  have hi2 : i < 2 := hi
  match i, hi2 with
  | 0, _ => exact ⟨rfl, rfl, rfl, rfl⟩
  | 1, _ => exact ⟨rfl, rfl, rfl, rfl⟩) s c
theorem bo_tk (n m : Nat) (s k : Int) (y : Mg) : (Bo n).F.tk s k y = (Bo m).F.tk s k y := by
 show ((stp (nthF (boD n).fs 0).rs s y.2.2.1).1, k + ((stp (nthF (boD n).fs 0).rs s y.2.2.1).2.length : Int), (spr (boD n) 0 k y.1.1 y.2.2.2 (stp (nthF (boD n).fs 0).rs s y.2.2.1).2).map m6) = ((stp (nthF (boD m).fs 0).rs s y.2.2.1).1, k + ((stp (nthF (boD m).fs 0).rs s y.2.2.1).2.length : Int), (spr (boD m) 0 k y.1.1 y.2.2.2 (stp (nthF (boD m).fs 0).rs s y.2.2.1).2).map m6)
 rw [bo_stp n m]
 rcases bo_os m s y.2.2.1 with e | e | e
 ·rw [e]
  rfl
 ·rw [e]
  kernel_rfl
 ·rw [e]
  kernel_rfl
theorem bo_kdE (n m : Nat) (j : Int) : kdD (boD n) j = kdD (boD m) j := by
 unfold kdD
 generalize j.toNat = i
 match i with
 | 0 => rfl
 | 1 => rfl
 | 2 => rfl
 | i + 3 => rfl
theorem bo_fe (n m : Nat) : (Bo n).F = (Bo m).F := by
 have h1 : (Bo n).F.tk = (Bo m).F.tk := by
  funext s k y
  exact bo_tk n m s k y
 have h2 : (Bo n).F.op = (Bo m).F.op := by
  funext o
  show decide (kdD (boD n) o.2.1 = 1) = decide (kdD (boD m) o.2.1 = 1)
  rw [bo_kdE n m]
 have e : ∀ F : W.Fe, F = ⟨F.tk, F.op⟩ := fun F => rfl
 rw [e (Bo n).F, e (Bo m).F, h1, h2]
theorem PN.base {w w0 : World} {C : Cf} {N : Nat} {x : X} {Z : Ad} {T : Nat → Prop} {W : World} (h : PN w0 C N x Z T W) (hb : Below w.heap.size w w0) : PN w C N x Z T W := by
 obtain ⟨D, f, F, v, h1, h2, h3, hw, h4⟩ := h
 exact ⟨D, f, F, v, h1, h2, h3, ⟨⟨hw.sep.dj, hw.sep.lt, fun i k g => Nat.le_trans hb.size (hw.sep.lo i k g), hb.trans (hw.sep.bel.mono hb.size)⟩, hw.rc, hw.qu, hw.pa, hw.ga, hw.ck, hw.lg, hw.kw⟩, h4⟩
def Nd1 (w : World) (n M : Nat) (Z : Ad) (al : List Mg) (k : Nat) (T : Nat → Prop) (W : World) : Prop := ∃ x c, PN w (Bo n) M x Z T W ∧ Sb n al c x ∧ min k (Go.Proofs.YtiaopafkfadmkaaGreat.W.posT 200 al) ≤ c
theorem Nd1.start {w0 : World} {n : Nat} {Z : Ad} {T : Nat → Prop} {V : World} (h : PN w0 (Bo n) 2 (x0 0 0) Z T V) {w : World} (hb : Below w.heap.size w w0) : Nd1 w n 2 Z [] 0 T V := ⟨_, 0, h.base hb, Sb.zero n, by simp⟩
theorem Nd1.mono {w : World} {n M : Nat} {Z : Ad} {al : List Mg} {k : Nat} {T : Nat → Prop} {V : World} (h : Nd1 w n M Z al k T V) {M' : Nat} (hM : M ≤ M') : Nd1 w n M' Z al k T V := by
 obtain ⟨x, c, h1, h2, h3⟩ := h
 exact ⟨x, c, h1.mono hM, h2, h3⟩
theorem Nd1.any {w : World} {n M : Nat} {Z : Ad} {al : List Mg} {k : Nat} {T : Nat → Prop} {V : World} (h : Nd1 w n M Z al k T V) : Nd1 w n M Z al 0 T V := by
 obtain ⟨x, c, h1, h2, h3⟩ := h
 exact ⟨x, c, h1, h2, by simp⟩
theorem Nd1.on {w : World} {n M : Nat} {Z : Ad} {al : List Mg} {k : Nat} {T : Nat → Prop} {V : World} (h : Nd1 w n M Z al k T V) {V' : World} (hb : Below V.heap.size V V') : Nd1 w n M Z al k T V' := by
 obtain ⟨x, c, h1, h2, h3⟩ := h
 exact ⟨x, c, h1.below hb, h2, h3⟩
theorem Nd1.keep {w : World} {n M : Nat} {Z : Ad} {al : List Mg} {k : Nat} {T : Nat → Prop} {V : World} (h : Nd1 w n M Z al k T V) {S : Nat → Prop} {V' : World} (hf : Fr S V V') (hS : ∀ k, T k → ¬ S k) (h0 : ∀ k, S k → w.heap.size ≤ k) : Nd1 w n M Z al k T V' := by
 obtain ⟨x, c, h1, h2, h3⟩ := h
 exact ⟨x, c, h1.keep hf hS h0, h2, h3⟩
theorem Nd1.bel {w : World} {n M : Nat} {Z : Ad} {al : List Mg} {k : Nat} {T : Nat → Prop} {V : World} (h : Nd1 w n M Z al k T V) : Below w.heap.size w V := by
 obtain ⟨x, c, h1, h2, h3⟩ := h
 exact h1.bel
theorem Nd1.lt {w : World} {n M : Nat} {Z : Ad} {al : List Mg} {k : Nat} {T : Nat → Prop} {V : World} (h : Nd1 w n M Z al k T V) : ∀ b, T b → b < V.heap.size := by
 obtain ⟨x, c, h1, h2, h3⟩ := h
 exact h1.lt
theorem Nd1.lo {w : World} {n M : Nat} {Z : Ad} {al : List Mg} {k : Nat} {T : Nat → Prop} {V : World} (h : Nd1 w n M Z al k T V) : ∀ b, T b → w.heap.size ≤ b := by
 obtain ⟨x, c, h1, h2, h3⟩ := h
 exact h1.lo
theorem Nd1.srt {w : World} {n M : Nat} {Z : Ad} {al : List Mg} {k : Nat} {T : Nat → Prop} {V : World} (h : Nd1 w n M Z al k T V) : W.SrtM al ∧ al.length ≤ 30 := by
 obtain ⟨x, c, h1, h2, h3⟩ := h
 exact ⟨h2.rp.srt, h2.ln⟩
theorem Nd1.plain {w : World} {n M : Nat} {Z : Ad} {al : List Mg} {k : Nat} {T : Nat → Prop} {V : World} (h : Nd1 w n M Z al k T V) (t b c d g : Int) (hm : B.mwf ((t, b, c), d, 0, g)) (h0 : 0 ≤ t) (h1 : t ≤ 255) (hn : ∀ y ∈ al, y.1 ≠ (t, b, c)) (hl : al.length < 30) :
  Calls Tryz.prog 13 #[.pointer (some ⟨Z.nb, 0, none⟩), .int .i64 1, .agg #[.int .i64 0, .int .i64 t, .int .i64 b, .int .i64 c, .int .i64 d, .int .i64 0, .int .i64 g, .int .i64 0]] V fun e w' => ∃ u T', e = .returned (.tuple #[u, .int .i64 0]) ∧ Nd1 w n (M + 1) Z (W.insM ((t, b, c), d, 0, g) al) 0 T' w' ∧ Mw T T' V w' := by
 obtain ⟨x, cc, p1, p2, p3⟩ := h
 obtain ⟨e1, e2, e3, e4⟩ := p2.plain (m := ((t, b, c), d, 0, g)) ⟨rfl, h0, h1⟩ hn hl
 refine (op_hear p1 1 0 0 ((t, b, c), d, 0, g) (by kernel_rfl) hm).mono fun e w' ⟨T', a, n', c', he, g1, g2, g3, g4⟩ => ?_
 rw [e1] at he
 exact ⟨_, T', he, ⟨_, _, g1, e4, by simp⟩, g2⟩
theorem Nd1.step {w : World} {n M : Nat} {Z : Ad} {al : List Mg} {k : Nat} {T : Nat → Prop} {V : World} (h : Nd1 w n M Z al k T V) (hM : M ≤ 300) :
  Calls Tryz.prog 16 #[.pointer (some ⟨Z.nb, 0, none⟩)] V fun e w' => ∃ u T', e = .returned u ∧ Nd1 w n M Z al (k + 1) T' w' ∧ Mw T T' V w' := by
 obtain ⟨x, cc, p1, p2, p3⟩ := h
 obtain ⟨e1, e2, e4⟩ := p2.step
 exact (op_step p1 (by omega)).mono fun e w' ⟨T', a, n', c', he, g1, g2, g3, g4⟩ => ⟨_, T', he, ⟨_, _, g1, e4, by omega⟩, g2⟩
theorem Nd1.anti {w : World} {n M : Nat} {Z : Ad} {al : List Mg} {k : Nat} {T : Nat → Prop} {V : World} (h : Nd1 w n M Z al k T V) (t b c d g : Int) (hm : B.mwf ((t, b, c), d, 0, g)) (hi : ((t, b, c), d, (0 : Int), g) ∈ al) :
  Calls Tryz.prog 13 #[.pointer (some ⟨Z.nb, 0, none⟩), .int .i64 1, .agg #[.int .i64 1, .int .i64 t, .int .i64 b, .int .i64 c, .int .i64 d, .int .i64 0, .int .i64 g, .int .i64 0]] V fun e w' => ∃ u T', e = .returned (.tuple #[u, .int .i64 0]) ∧ Nd1 w n (M + 1) Z (W.delM (t, b, c) al) 0 T' w' ∧ Mw T T' V w' := by
 obtain ⟨x, cc, p1, p2, p3⟩ := h
 obtain ⟨e1, c'', e4⟩ := p2.anti hi
 refine (op_hear p1 1 1 0 ((t, b, c), d, 0, g) (by kernel_rfl) hm).mono fun e w' ⟨T', a, n', c', he, g1, g2, g3, g4⟩ => ?_
 rw [e1] at he
 exact ⟨_, T', he, ⟨_, _, g1, e4, by simp⟩, g2⟩
theorem Nd1.miss {w : World} {n M : Nat} {Z : Ad} {al : List Mg} {k : Nat} {T : Nat → Prop} {V : World} (h : Nd1 w n M Z al k T V) (t b c d g : Int) (hm : B.mwf ((t, b, c), d, 0, g)) (h0 : 0 ≤ t) (hn : ∀ y ∈ al, y.1 ≠ (t, b, c)) :
  Calls Tryz.prog 13 #[.pointer (some ⟨Z.nb, 0, none⟩), .int .i64 1, .agg #[.int .i64 1, .int .i64 t, .int .i64 b, .int .i64 c, .int .i64 d, .int .i64 0, .int .i64 g, .int .i64 0]] V fun e w' => ∃ u T', e = .returned (.tuple #[u, .int .i64 4]) ∧ Nd1 w n (M + 1) Z al k T' w' ∧ Mw T T' V w' := by
 obtain ⟨x, cc, p1, p2, p3⟩ := h
 obtain ⟨e1, e2⟩ := p2.miss (m := ((t, b, c), d, 0, g)) hn h0
 refine (op_hear p1 1 1 0 ((t, b, c), d, 0, g) (by kernel_rfl) hm).mono fun e w' ⟨T', a, n', c', he, g1, g2, g3, g4⟩ => ?_
 rw [e1] at he
 rw [e2] at g1
 exact ⟨_, T', he, ⟨_, _, g1, p2, p3⟩, g2⟩
def Ne (w : World) (n M : Nat) (Z : Ad) (al : List Mg) (T : Nat → Prop) (V : World) : Prop := ∃ x, PN w (Bo n) M x Z T V ∧ Se n al x
def Nl (w : World) (n M : Nat) (Z : Ad) (al : List Mg) (t : Int) (T : Nat → Prop) (V : World) : Prop := ∃ x, PN w (Bo n) M x Z T V ∧ Sf n al x t
def Nf (w : World) (n M : Nat) (Z : Ad) (al : List Mg) (t : Int) (T : Nat → Prop) (V : World) : Prop := ∃ x, PN w (Bo n) M x Z T V ∧ x.fl = t ∧ x.nd.s = (W.fin (Bo n).F 0 0 (bel2 al)).1 ∧ x.nd.q = al.drop (Go.Proofs.YtiaopafkfadmkaaGreat.W.posT 200 al)
theorem mB_wf : B.mwf mB := by
 refine ⟨⟨?_, ?_, ?_⟩, ?_, ?_, ?_⟩ <;> simp only [mB, B.i64] <;> omega
theorem Nd1.bound {w : World} {n M : Nat} {Z : Ad} {al : List Mg} {k : Nat} {T : Nat → Prop} {V : World} (h : Nd1 w n M Z al k T V) (hk : al.length ≤ k) :
  Calls Tryz.prog 13 #[.pointer (some ⟨Z.nb, 0, none⟩), .int .i64 2, .agg #[.int .i64 2, .int .i64 1125899906842624, .int .i64 0, .int .i64 0, .int .i64 0, .int .i64 0, .int .i64 0, .int .i64 0]] V fun e w' => ∃ u T', e = .returned (.tuple #[u, .int .i64 0]) ∧ Ne w n (M + 1) Z al T' w' ∧ Mw T T' V w' := by
 obtain ⟨x, cc, p1, p2, p3⟩ := h
 have hl := W.posT_le 200 al
 have hc : cc = Go.Proofs.YtiaopafkfadmkaaGreat.W.posT 200 al := by have := p2.en; omega
 rw [hc] at p2
 have h2 : x.c 2 ≤ 1125899906842624 := by
  have h9 := p1.inv.2.ck 2 (by kernel_rfl)
  unfold okT at h9
  have := of_decide_eq_true h9
  omega
 obtain ⟨e1, e4⟩ := p2.bound h2
 refine (op_hear p1 2 2 0 mB (by kernel_rfl) mB_wf).mono fun e w' ⟨T', a, n', c', he, g1, g2, g3, g4⟩ => ?_
 rw [e1] at he
 exact ⟨_, T', he, ⟨_, g1, e4⟩, g2⟩
theorem Ne.keep {w : World} {n M : Nat} {Z : Ad} {al : List Mg} {T : Nat → Prop} {V : World} (h : Ne w n M Z al T V) {S : Nat → Prop} {V' : World} (hf : Fr S V V') (hS : ∀ k, T k → ¬ S k) (h0 : ∀ k, S k → w.heap.size ≤ k) : Ne w n M Z al T V' := by
 obtain ⟨x, h1, h2⟩ := h
 exact ⟨x, h1.keep hf hS h0, h2⟩
theorem Ne.local {w : World} {n M : Nat} {Z : Ad} {al : List Mg} {T : Nat → Prop} {V : World} (h : Ne w n M Z al T V) :
  Calls Tryz.prog 27 #[.pointer (some ⟨Z.nb, 0, none⟩)] V fun e w' => ∃ t, e = .returned (.int .i64 t) ∧ 200 ≤ t ∧ Nl w n M Z al t T w' ∧ Below V.heap.size V w' := by
 obtain ⟨x, h1, h2⟩ := h
 exact (op_local h1).mono fun e w' ⟨he, hb⟩ => ⟨_, he, h2.fin.lo, ⟨x, h1.below hb, h2.fin⟩, hb⟩
theorem Nl.commit {w : World} {n M : Nat} {Z : Ad} {al : List Mg} {t : Int} {T : Nat → Prop} {V : World} (h : Nl w n M Z al t T V) (hM : M ≤ 300) :
  Calls Tryz.prog 18 #[.pointer (some ⟨Z.nb, 0, none⟩), .int .i64 t] V fun e w' => ∃ T' a n1 c a2 n2 c2, e = .returned (.tuple #[.slice a n1 c, .slice a2 n2 c2, .int .i64 0]) ∧ Nf w n M Z al t T' w' ∧ Mw T T' V w' ∧ (B.OwR cD 49 w' (.slice a n1 c) ((W.tr (Bo n).F 0 0 (bel2 al)).map dn) ∧ ∀ k, (Value.slice a n1 c).ownBlock = some k → V.heap.size ≤ k ∧ ¬ T' k) ∧ B.OwR B.cM 39 w' (.slice a2 n2 c2) ((W.gt (Bo n).F (W.tr (Bo n).F 0 0 (bel2 al))).map (fun y => y.2)) ∧ ∀ k, (Value.slice a2 n2 c2).ownBlock = some k → V.heap.size ≤ k ∧ ¬ T' k := by
 obtain ⟨x, h1, h2⟩ := h
 refine (op_commit h1 t (by omega)).mono fun e w' ⟨T', a, n1, c, a2, n2, c2, he, g1, g2, g3, g4, g5⟩ => ?_
 rw [h2.e] at he
 rw [h2.d] at g3
 rw [h2.m] at g4
 exact ⟨T', a, n1, c, a2, n2, c2, he, ⟨_, g1, h2.fl, h2.s, h2.q⟩, g2, g3, g4, g5⟩
theorem Nf.keep {w : World} {n M : Nat} {Z : Ad} {al : List Mg} {t : Int} {T : Nat → Prop} {V : World} (h : Nf w n M Z al t T V) {S : Nat → Prop} {V' : World} (hf : Fr S V V') (hS : ∀ k, T k → ¬ S k) (h0 : ∀ k, S k → w.heap.size ≤ k) : Nf w n M Z al t T V' := by
 obtain ⟨x, h1, h2⟩ := h
 exact ⟨x, h1.keep hf hS h0, h2⟩
theorem Nf.on {w : World} {n M : Nat} {Z : Ad} {al : List Mg} {t : Int} {T : Nat → Prop} {V : World} (h : Nf w n M Z al t T V) {V' : World} (hb : Below V.heap.size V V') : Nf w n M Z al t T V' := by
 obtain ⟨x, h1, h2⟩ := h
 exact ⟨x, h1.below hb, h2⟩
theorem Nf.state {w : World} {n M : Nat} {Z : Ad} {al : List Mg} {t : Int} {T : Nat → Prop} {V : World} (h : Nf w n M Z al t T V) :
  Calls Tryz.prog 22 #[.pointer (some ⟨Z.nb, 0, none⟩)] V fun e w' => e = .returned (.int .i64 (W.fin (Bo n).F 0 0 (bel2 al)).1) ∧ V = w' := by
 obtain ⟨x, h1, h2, h3, h4⟩ := h
 rw [← h3]
 exact op_state h1
theorem Nf.floor {w : World} {n M : Nat} {Z : Ad} {al : List Mg} {t : Int} {T : Nat → Prop} {V : World} (h : Nf w n M Z al t T V) :
  Calls Tryz.prog 23 #[.pointer (some ⟨Z.nb, 0, none⟩)] V fun e w' => e = .returned (.int .i64 t) ∧ V = w' := by
 obtain ⟨x, h1, rfl, h3, h4⟩ := h
 exact op_floor h1
theorem Nf.waiting {w : World} {n M : Nat} {Z : Ad} {al : List Mg} {t : Int} {T : Nat → Prop} {V : World} (h : Nf w n M Z al t T V) :
  Calls Tryz.prog 31 #[.pointer (some ⟨Z.nb, 0, none⟩)] V fun e w' => ∃ a c, e = .returned (.slice a (al.drop (Go.Proofs.YtiaopafkfadmkaaGreat.W.posT 200 al)).length c) ∧ Below V.heap.size V w' := by
 obtain ⟨x, h1, h2, h3, h4⟩ := h
 rw [← h4]
 exact (op_waiting h1).mono fun e w' ⟨a, c, he, _, _, hb⟩ => ⟨a, c, he, hb⟩
end Go.Proofs.YtiaopafkfadmkaaGreat.V
namespace Go.Proofs.YtiaopafkfadmkaaGreat.V
open Go.RowKit Go.Shelf
abbrev Th := (Nat → Prop) → World → Prop
structure Thg (w : World) (P : Th) : Prop where
 keep : ∀ {T S : Nat → Prop} {V V' : World}, P T V → Fr S V V' → (∀ k, T k → ¬ S k) → (∀ k, S k → w.heap.size ≤ k) → P T V'
 lt : ∀ {T : Nat → Prop} {V : World}, P T V → ∀ k, T k → k < V.heap.size
 lo : ∀ {T : Nat → Prop} {V : World}, P T V → ∀ k, T k → w.heap.size ≤ k
 bel : ∀ {T : Nat → Prop} {V : World}, P T V → Below w.heap.size w V
def Pair (w : World) (P Q : Th) (R : Nat → Prop) (V : World) : Prop := ∃ Tx Ty, P Tx V ∧ Q Ty V ∧ (∀ b, Tx b → ¬ Ty b) ∧ ∀ b, R b → w.heap.size ≤ b ∧ b < V.heap.size ∧ ¬ Tx b ∧ ¬ Ty b
theorem Pair.bel {w : World} {P Q : Th} (hP : Thg w P) {R : Nat → Prop} {V : World} (h : Pair w P Q R V) : Below w.heap.size w V := by
 obtain ⟨Tx, Ty, h1, _⟩ := h
 exact hP.bel h1
theorem Pair.x {w : World} {P P' Q : Th} (hP : Thg w P) (hP' : Thg w P') (hQ : Thg w Q) {R : Nat → Prop} {V : World} (h : Pair w P Q R V) {f : Nat} {vs : Array Value} {α : Type} {G : Ending → α → World → Prop}
  (hc : ∀ T, P T V → Calls Tryz.prog f vs V fun e w' => ∃ u T', G e u w' ∧ P' T' w' ∧ Mw T T' V w') : Calls Tryz.prog f vs V fun e w' => ∃ u, G e u w' ∧ Pair w P' Q R w' ∧ Fr (fun b => ¬ R b) V w' := by
 obtain ⟨Tx, Ty, h1, h2, h3, h4⟩ := h
 refine (hc Tx h1).mono fun e w' ⟨u, T', hg, g1, hm⟩ => ⟨u, hg, ⟨T', Ty, g1, hQ.keep h2 hm.fr (fun k a b => h3 k b a) (hP.lo h1), fun b a c => ?_, fun b r => ?_⟩, hm.fr.wide fun b a r => (h4 b r).2.2.1 a⟩
 ·exact h3 b (hm.new b (hQ.lt h2 b c) a) c
 ·obtain ⟨r1, r2, r3, r4⟩ := h4 b r
  exact ⟨r1, Nat.lt_of_lt_of_le r2 hm.fr.size, fun a => r3 (hm.new b r2 a), r4⟩
theorem Pair.swap {w : World} {P Q : Th} {R : Nat → Prop} {V : World} (h : Pair w P Q R V) : Pair w Q P R V := by
 obtain ⟨Tx, Ty, h1, h2, h3, h4⟩ := h
 exact ⟨Ty, Tx, h2, h1, fun b a c => h3 b c a, fun b r => ⟨(h4 b r).1, (h4 b r).2.1, (h4 b r).2.2.2, (h4 b r).2.2.1⟩⟩
theorem Pair.y {w : World} {P Q Q' : Th} (hP : Thg w P) (hQ : Thg w Q) (hQ' : Thg w Q') {R : Nat → Prop} {V : World} (h : Pair w P Q R V) {f : Nat} {vs : Array Value} {α : Type} {G : Ending → α → World → Prop}
  (hc : ∀ T, Q T V → Calls Tryz.prog f vs V fun e w' => ∃ u T', G e u w' ∧ Q' T' w' ∧ Mw T T' V w') : Calls Tryz.prog f vs V fun e w' => ∃ u, G e u w' ∧ Pair w P Q' R w' ∧ Fr (fun b => ¬ R b) V w' :=
 (h.swap.x hQ hQ' hP hc).mono fun e w' ⟨u, hg, hp, hf⟩ => ⟨u, hg, hp.swap, hf⟩
theorem Pair.other {w : World} {P Q : Th} (hP : Thg w P) (hQ : Thg w Q) {R R' S : Nat → Prop} {V V' : World} (h : Pair w P Q R V) (hf : Fr S V V') (hS : ∀ b, S b → R b) (hR : ∀ b, R' b → b < V'.heap.size ∧ (b < V.heap.size → R b)) : Pair w P Q R' V' := by
 obtain ⟨Tx, Ty, h1, h2, h3, h4⟩ := h
 have hw := (hP.bel h1).size
 refine ⟨Tx, Ty, hP.keep h1 hf (fun k a b => (h4 k (hS k b)).2.2.1 a) (fun k b => (h4 k (hS k b)).1), hQ.keep h2 hf (fun k a b => (h4 k (hS k b)).2.2.2 a) (fun k b => (h4 k (hS k b)).1), h3, fun b r => ?_⟩
 obtain ⟨q1, q2⟩ := hR b r
 rcases Nat.lt_or_ge b V.heap.size with g | g
 ·obtain ⟨r1, r2, r3, r4⟩ := h4 b (q2 g)
  exact ⟨r1, q1, r3, r4⟩
 ·exact ⟨by omega, q1, fun a => by have := hP.lt h1 b a; omega, fun a => by have := hQ.lt h2 b a; omega⟩
theorem Pair.on {w : World} {P Q : Th} (hP : Thg w P) (hQ : Thg w Q) {R : Nat → Prop} {V V' : World} (h : Pair w P Q R V) (hb : Below V.heap.size V V') : Pair w P Q R V' := by
 have h9 : ∀ b, R b → b < V.heap.size := fun b r => by
  obtain ⟨Tx, Ty, h1, h2, h3, h4⟩ := h
  exact (h4 b r).2.1
 exact h.other hP hQ (B.Fr.of_below (S := fun _ => False) hb) (fun _ g => g.elim) (fun b r => ⟨Nat.lt_of_lt_of_le (h9 b r) hb.size, fun _ => r⟩)
theorem Pair.imp {w : World} {P P' Q Q' : Th} {R : Nat → Prop} {V : World} (h : Pair w P Q R V) (h1 : ∀ T, P T V → P' T V) (h2 : ∀ T, Q T V → Q' T V) : Pair w P' Q' R V := by
 obtain ⟨Tx, Ty, g1, g2, g3⟩ := h
 exact ⟨Tx, Ty, h1 _ g1, h2 _ g2, g3⟩
theorem Pair.lt {w : World} {P Q : Th} {R : Nat → Prop} {V : World} (h : Pair w P Q R V) : ∀ b, R b → b < V.heap.size := by
 obtain ⟨Tx, Ty, h1, h2, h3, h4⟩ := h
 exact fun b r => (h4 b r).2.1
def Non (w : World) : Th := fun T V => (∀ b, ¬ T b) ∧ Below w.heap.size w V
theorem Non.th (w : World) : Thg w (Non w) := ⟨fun h hf hS h0 => ⟨h.1, h.2.trans (hf.below h.2.size h0)⟩, fun h k g => absurd g (h.1 k), fun h k g => absurd g (h.1 k), fun h => h.2⟩
def N1 (w : World) (Z : Ad) (M : Nat) (al : List Mg) (k : Nat) : Th := fun T V => ∃ n, Nd1 w n M Z al k T V
theorem N1.th (w : World) (Z : Ad) (M : Nat) (al : List Mg) (k : Nat) : Thg w (N1 w Z M al k) := ⟨fun ⟨n, h⟩ hf hS h0 => ⟨n, h.keep hf hS h0⟩, fun ⟨n, h⟩ => h.lt, fun ⟨n, h⟩ => h.lo, fun ⟨n, h⟩ => h.bel⟩
def N2 (w : World) (Z : Ad) (M : Nat) (al : List Mg) : Th := fun T V => ∃ n, Ne w n M Z al T V
theorem N2.th (w : World) (Z : Ad) (M : Nat) (al : List Mg) : Thg w (N2 w Z M al) := ⟨fun ⟨n, h⟩ hf hS h0 => ⟨n, h.keep hf hS h0⟩, fun ⟨n, x, h, _⟩ => h.lt, fun ⟨n, x, h, _⟩ => h.lo, fun ⟨n, x, h, _⟩ => h.bel⟩
def N3 (w : World) (Z : Ad) (M : Nat) (al : List Mg) (t : Int) : Th := fun T V => ∃ n, Nl w n M Z al t T V
theorem N3.th (w : World) (Z : Ad) (M : Nat) (al : List Mg) (t : Int) : Thg w (N3 w Z M al t) := ⟨fun ⟨n, x, h, g⟩ hf hS h0 => ⟨n, x, h.keep hf hS h0, g⟩, fun ⟨n, x, h, _⟩ => h.lt, fun ⟨n, x, h, _⟩ => h.lo, fun ⟨n, x, h, _⟩ => h.bel⟩
def N4 (w : World) (Z : Ad) (M : Nat) (al : List Mg) (t : Int) : Th := fun T V => ∃ n, Nf w n M Z al t T V
theorem N4.th (w : World) (Z : Ad) (M : Nat) (al : List Mg) (t : Int) : Thg w (N4 w Z M al t) := ⟨fun ⟨n, h⟩ hf hS h0 => ⟨n, h.keep hf hS h0⟩, fun ⟨n, x, h, _⟩ => h.lt, fun ⟨n, x, h, _⟩ => h.lo, fun ⟨n, x, h, _⟩ => h.bel⟩
theorem row_keep {α : Type} {C : B.Cd α} {e : TypeId} {R : Nat → Prop} {V V' : World} {v : Value} {l : List α} (h : B.OwR C e V v l) (hf : Fr (fun b => ¬ R b) V V') (hR : ∀ b, v.ownBlock = some b → R b) : B.OwR C e V' v l := h.keep hf (fun g a b => b (hR g a))
end Go.Proofs.YtiaopafkfadmkaaGreat.V
