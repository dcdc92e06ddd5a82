/- Joined: the texts that follow, each with its own sentence. -/
import Derived.Test.YtiaopafkfadmkaaGreatZVm
import Derived.Test.YtiaopafkfadmkaaGreatZVp
import Derived.Test.YtiaopafkfadmkaaGreatZOb
import Derived.Test.YtiaopafkfadmkaaGreatZQe
/- Proved: what WarpPromise's walk goes by: what is opened is not below what was promised, and goes to 2; what is settled rises. -/
namespace Go.Proofs.YtiaopafkfadmkaaGreat.V
open Go.RowKit Go.Shelf
set_option linter.unusedVariables false
set_option maxRecDepth 100000

theorem cnt_mono {a b : Int} (h : a ≤ b) : cnt a ≤ cnt b := by
  unfold cnt
  split <;> split <;> (try split) <;> (try split) <;> omega
theorem vadd_mono {a b : Int} (h : a ≤ b) (d : Int) : vadd a d ≤ vadd b d := cnt_mono (by have := cnt_mono h; omega)
theorem bo_rules (n : Nat) : ((nthF (boD n).fs 0).rs.all fun r => r.os.all fun o => decide (2 ≤ o.2.1)) = true := by kernel_rfl
theorem bo_delay (n : Nat) (s c : Int) : ∀ o ∈ (stp (nthF (boD n).fs 0).rs s c).2, 2 ≤ o.2.1 := by
  intro o ho
  rcases stp_os (nthF (boD n).fs 0).rs s c with e | ⟨r, hr, e⟩
  · rw [e] at ho
    cases ho
  · rw [e] at ho
    have h1 := List.all_eq_true.1 (bo_rules n) r hr
    have h2 := List.all_eq_true.1 h1 o ho
    exact of_decide_eq_true h2
/-- What is sent comes two later at least. -/
theorem bo_out (n : Nat) {s k : Int} {m : Mg} (h0 : 0 ≤ m.1.1) (h1 : m.1.1 < 200) : ∀ o ∈ ((Bo n).F.tk s k m).2.2, m.1.1 + 2 ≤ o.1.1 := by
  intro o ho
  obtain ⟨y, hy, rfl⟩ := List.mem_map.1 (show o ∈ (spr (boD n) 0 k m.1.1 m.2.2.2 (stp (nthF (boD n).fs 0).rs s m.2.2.1).2).map m6 from ho)
  obtain ⟨i, hi, _, _, _, ht, _⟩ := Go.Proofs.YtiaopafkfadmkaaGreat.spr_mem hy
  have hd := bo_delay n s m.2.2.1 (nthO (stp (nthF (boD n).fs 0).rs s m.2.2.1).2 i) (by unfold nthO; simp [hi])
  show m.1.1 + 2 ≤ y.t
  rw [ht]
  have e1 : cnt m.1.1 = m.1.1 := cnt_mid h0 (by omega)
  have e2 := cnt_mono hd
  rw [cnt_mid (by omega : (0 : Int) ≤ 2) (by omega)] at e2
  have e3 := cnt_mono (show m.1.1 + 2 ≤ cnt m.1.1 + cnt (nthO (stp (nthF (boD n).fs 0).rs s m.2.2.1).2 i).2.1 by omega)
  rw [cnt_mid (by omega : 0 ≤ m.1.1 + 2) (by omega)] at e3
  exact e3
/-- What is opened of what is held by entries that stand in order. -/
theorem open_gt {F : W.Fe} {p : List En} (hs : p.Pairwise (fun a b => klt a.m.1 b.m.1 = true)) (t : Int) : G.openG t (W.gt F p) = (W.gt F (p.filter (A.low t))).map (fun y => y.2) := by
  unfold G.openG G.msgs
  have e : (W.gt F p).filter (G.low t) = W.gt F (p.filter (A.low t)) := W.gt_filter F p (fun k => decide (k.1 < t))
  rw [e, W.gt_open F (List.Pairwise.sublist List.filter_sublist hs)]
theorem Inv.ps {C : Cf} {N : Nat} {x : X} (h : Inv C N x) : x.nd.p.Pairwise (fun a b => klt a.m.1 b.m.1 = true) := List.pairwise_map.1 (List.pairwise_append.1 h.srt).1
/-- What is opened. -/
theorem comm_out {n N : Nat} {x : X} (hI : Inv (Bo n) N x) (t : Int) : ∀ o ∈ commM (Bo n) x t, proT (Bo n) x ≤ o.1.1 ∧ o.2.1 = 2 := by
  intro o ho
  unfold commM at ho
  split at ho
  case isFalse => cases ho
  obtain ⟨s0, n0, al, c, h1, h2, h3, h4, h5, h6⟩ := hI.rp
  rw [h1.g, open_gt hI.ps] at ho
  obtain ⟨y, hy, rfl⟩ := List.mem_map.1 ho
  obtain ⟨e, he0, hz⟩ := List.mem_flatMap.1 hy
  have he := mem_fil he0
  obtain ⟨z, hz2, rfl⟩ := List.mem_map.1 hz
  obtain ⟨hz3, hop⟩ := List.mem_filter.1 hz2
  have hpm := hI.pm (bo_ok n) e he
  have hpe : e.m.1.1 < 200 := hI.pe e he
  have he2 := he
  rw [h1.p] at he2
  obtain ⟨_, s', n', _, _, _, g5⟩ := tr_mem _ _ _ he2
  rw [g5] at hz3
  have hf0 := hI.f0.1
  have ho2 := bo_out n (s := s') (k := n') (m := e.m) (by omega) hpe z hz3
  refine ⟨?_, ?_⟩
  · show vadd x.fl 2 ≤ z.1.1
    have e1 := vadd_mono hpm.2.1 2
    have e2 : vadd e.m.1.1 2 = e.m.1.1 + 2 := by
      unfold vadd
      rw [cnt_mid (t := e.m.1.1) (by omega) (by omega), cnt_mid (by omega : (0 : Int) ≤ 2) (by omega), cnt_mid (by omega) (by omega)]
    omega
  · have hd := (bo_ok n).td s' n' e.m z hz3
    have hn : ((Bo n).n : Int) = 3 := rfl
    rw [hn] at hd
    have hk := bo_kd n
    have hop2 : ¬ (Bo n).kd z.2.1 = 1 := by
      have : (!decide ((Bo n).kd z.2.1 = 1)) = true := hop
      simpa using this
    show z.2.1 = 2
    rcases (by omega : z.2.1 = 0 ∨ z.2.1 = 1 ∨ z.2.1 = 2) with g | g | g
    · rw [g] at hop2
      exact absurd hk.1 hop2
    · rw [g] at hop2
      exact absurd hk.2.1 hop2
    · exact g
theorem gt_len {F : W.Fe} : ∀ {p : List En}, (∀ e ∈ p, e.os.length ≤ 24) → (W.gt F p).length ≤ 24 * p.length
  | [], _ => Nat.zero_le _
  | e :: r, h => by
    have e1 : W.gt F (e :: r) = (e.os.filter (fun o => !F.op o)).map (fun o => (e.m.1, o)) ++ W.gt F r := rfl
    have h1 := gt_len (F := F) (p := r) (fun y hy => h y (List.mem_cons_of_mem _ hy))
    have h2 := h e (List.mem_cons_self ..)
    have h3 := List.length_filter_le (fun o => !F.op o) e.os
    rw [e1, List.length_append, List.length_map, List.length_cons]
    omega
theorem comm_len {C : Cf} (hC : CfOk C) {N : Nat} {x : X} (hI : Inv C N x) (t : Int) : (commM C x t).length ≤ 24 * N := by
  unfold commM
  split
  case isFalse => exact Nat.zero_le _
  obtain ⟨s0, n0, al, c, h1, h2, h3, h4, h5, h6⟩ := hI.rp
  rw [h1.g, open_gt hI.ps, List.length_map]
  have hl := hI.nl
  have hf := List.length_filter_le (A.low t) x.nd.p
  have := gt_len (F := C.F) (p := x.nd.p.filter (A.low t)) (fun e he => (hI.pm hC e (mem_fil he)).2.2.1)
  omega
/-- What was settled rises, and lies below the floor. -/
structure Lg (x : X) : Prop where
  ks : x.lg.Pairwise (fun a b => klt (m6 a.m).1 (m6 b.m).1 = true)
  lo : ∀ d ∈ x.lg, d.m.t < x.fl
theorem hear_same (C : Cf) (x : X) (fr k : Int) (m : Mg) : (hearX C x fr k m).lg = x.lg ∧ (hearX C x fr k m).fl = x.fl := by
  unfold hearX
  split
  · split
    · exact ⟨rfl, rfl⟩
    · split <;> exact ⟨rfl, rfl⟩
  · exact ⟨rfl, rfl⟩
theorem step_same (C : Cf) (x : X) : (stepX C x).lg = x.lg ∧ (stepX C x).fl = x.fl := by
  unfold stepX
  split <;> exact ⟨rfl, rfl⟩
theorem comm_more (C : Cf) (x : X) (t : Int) : x.fl ≤ (commX C x t).fl ∧ x.lg.length ≤ (commX C x t).lg.length ∧ (commE C x t = 0 → (commX C x t).fl = t) := by
  unfold commX
  by_cases hE : commE C x t = 0
  · rw [if_pos hE]
    have ht : x.fl ≤ t := by
      unfold commE at hE
      split at hE
      · cases hE
      · omega
    exact ⟨ht, by show _ ≤ (x.lg ++ _).length; simp, fun _ => rfl⟩
  · rw [if_neg hE]
    exact ⟨Int.le_refl _, Nat.le_refl _, fun h => absurd h hE⟩
theorem Lg.hear {x : X} (h : Lg x) (C : Cf) (fr k : Int) (m : Mg) : Lg (hearX C x fr k m) := by
  obtain ⟨e1, e2⟩ := hear_same C x fr k m
  exact ⟨by rw [e1]; exact h.ks, by rw [e1, e2]; exact h.lo⟩
theorem Lg.step {x : X} (h : Lg x) (C : Cf) : Lg (stepX C x) := by
  obtain ⟨e1, e2⟩ := step_same C x
  exact ⟨by rw [e1]; exact h.ks, by rw [e1, e2]; exact h.lo⟩
theorem Lg.comm {C : Cf} (hC : CfOk C) {N : Nat} {x : X} (hI : Inv C N x) (h : Lg x) (t : Int) : Lg (commX C x t) := by
  have hm := comm_more C x t
  unfold commX at hm ⊢
  by_cases hE : commE C x t = 0
  · rw [if_pos hE] at hm ⊢
    have hfl : x.fl ≤ t := hm.1
    have hD : commD C x t = (x.nd.p.filter (A.low t)).map dn := by unfold commD; rw [if_pos hE]
    have hin : ∀ d ∈ commD C x t, x.fl ≤ d.m.t ∧ d.m.t < t := fun d hd => by
      rw [hD] at hd
      obtain ⟨e, he, rfl⟩ := List.mem_map.1 hd
      obtain ⟨g1, g2⟩ := List.mem_filter.1 he
      exact ⟨(hI.pm hC e g1).2.1, of_decide_eq_true g2⟩
    refine ⟨?_, ?_⟩
    · show (x.lg ++ commD C x t).Pairwise _
      refine List.pairwise_append.2 ⟨h.ks, ?_, fun a ha b hb => ?_⟩
      · rw [hD, List.pairwise_map]
        have hs : (x.nd.p.map A.P.m).Pairwise (fun a b => klt a.1 b.1 = true) := (List.pairwise_append.1 hI.srt).1
        exact List.Pairwise.sublist List.filter_sublist (List.pairwise_map.1 hs)
      · have h1 := h.lo a ha
        have h2 := (hin b hb).1
        exact (B.klt_iff _ _).2 (Or.inl (by show a.m.t < b.m.t; omega))
    · intro d hd
      rcases List.mem_append.1 (show d ∈ x.lg ++ commD C x t from hd) with g | g
      · have := h.lo d g
        show d.m.t < t
        omega
      · exact (hin d g).2
  · rw [if_neg hE]
    exact h
theorem hear_late {C : Cf} {x : X} {fr k : Int} {m : Mg} (h : hearE C x fr k m = 0) (hk : k ≠ 2) : x.fl ≤ m.1.1 := by
  have key : hrL C x fr m.1.1 = false → x.fl ≤ m.1.1 := fun g => by
    unfold hrL at g
    have := of_decide_eq_false g
    omega
  unfold hearE at h
  split at h
  · cases h
  · try rw [if_neg hk] at h
    split at h
    · split at h
      · cases h
      · split at h
        · cases h
        · rename_i g
          exact key (by simpa using g)
    · split at h
      · split at h
        · cases h
        · rename_i g
          exact key (by simpa using g)
      · cases h
/-- A node in use, its log in order: what it promises, how much is settled. -/
structure Pr (w0 : World) (n i : Nat) (x : X) (Z : Ad) (T : Nat → Prop) (W : World) : Prop where
  pn : PN w0 (Bo n) (i + 2) x Z T W
  lg : Lg x
theorem PN.inv {w0 : World} {C : Cf} {N : Nat} {x : X} {Z : Ad} {T : Nat → Prop} {W : World} (h : PN w0 C N x Z T W) : CfOk C ∧ Inv C N x := by
  obtain ⟨D, f, F, v, rfl, h2, h3, _⟩ := h
  exact ⟨h2, h3⟩
end Go.Proofs.YtiaopafkfadmkaaGreat.V
/- Proved: the calls that WarpPromise makes, as its walk goes by them. -/
namespace Go.Proofs.YtiaopafkfadmkaaGreat.V
open Go.RowKit Go.Shelf
set_option linter.unusedVariables false
set_option maxRecDepth 100000

theorem Pr.on {w0 : World} {n i : Nat} {x : X} {Z : Ad} {T : Nat → Prop} {W W' : World} (h : Pr w0 n i x Z T W) (hb : Below W.heap.size W W') : Pr w0 n i x Z T W' := ⟨h.pn.below hb, h.lg⟩
theorem Pr.more {w0 : World} {n i : Nat} {x : X} {Z : Ad} {T : Nat → Prop} {W : World} (h : Pr w0 n i x Z T W) : Pr w0 n (i + 1) x Z T W := ⟨h.pn.mono (by omega), h.lg⟩
theorem Pr.start {w0 : World} {n : Nat} {Z : Ad} {T : Nat → Prop} {W : World} (h : PN w0 (Bo n) 2 (x0 0 0) Z T W) : Pr w0 n 0 (x0 0 0) Z T W := ⟨h, List.Pairwise.nil, fun d hd => (by cases hd)⟩
theorem Pr.pos {w0 : World} {n i : Nat} {x : X} {Z : Ad} {T : Nat → Prop} {W : World} (h : Pr w0 n i x Z T W) : 0 ≤ proT (Bo n) x := vadd_lo _ _
theorem Pr.hear {w0 : World} {n i : Nat} {x : X} {Z : Ad} {T : Nat → Prop} {W : World} (h : Pr w0 n i x Z T W) (fr k co t b c d e g : Int) (h1 : wfI fr) (h2 : Q.mwf ((t, b, c), d, e, g)) :
    Calls Tryz.prog 13 #[.pointer (some ⟨Z.nb, 0, none⟩), .int .i64 fr, .agg #[.int .i64 k, .int .i64 t, .int .i64 b, .int .i64 c, .int .i64 d, .int .i64 e, .int .i64 g, .int .i64 co]] W fun en w' => ∃ u E x2 T2, en = .returned (.tuple #[u, .int .i64 E]) ∧ (E = 0 → k ≠ 2 → x2.fl ≤ t) ∧ proT (Bo n) x ≤ proT (Bo n) x2 ∧ x.lg.length ≤ x2.lg.length ∧ Mw T T2 W w' ∧ Pr w0 n (i + 1) x2 Z T2 w' := by
  refine (op_hear h.pn fr k co ((t, b, c), d, e, g) h1 h2).mono ?_
  rintro en w' ⟨T', a, n', cc, he, g1, g2, g3, g4⟩
  obtain ⟨e1, e2⟩ := hear_same (Bo n) x fr k ((t, b, c), d, e, g)
  refine ⟨_, _, _, T', he, fun hE hk => ?_, ?_, ?_, g2, g1, h.lg.hear _ _ _ _⟩
  · rw [e2]
    exact hear_late hE hk
  · unfold proT
    rw [e2]
    exact Int.le_refl _
  · rw [e1]
    exact Nat.le_refl _
theorem Pr.step {w0 : World} {n i : Nat} {x : X} {Z : Ad} {T : Nat → Prop} {W : World} (h : Pr w0 n i x Z T W) (hi : i ≤ 200) :
    Calls Tryz.prog 16 #[.pointer (some ⟨Z.nb, 0, none⟩)] W fun en w' => ∃ x2 T2, (∃ u, en = .returned u) ∧ proT (Bo n) x ≤ proT (Bo n) x2 ∧ x.lg.length ≤ x2.lg.length ∧ Mw T T2 W w' ∧ Pr w0 n (i + 1) x2 Z T2 w' := by
  refine (op_step h.pn (by omega)).mono ?_
  rintro en w' ⟨T', a, n', cc, he, g1, g2, g3, g4⟩
  obtain ⟨e1, e2⟩ := step_same (Bo n) x
  refine ⟨_, T', ⟨_, he⟩, ?_, ?_, g2, g1.mono (by omega), h.lg.step _⟩
  · unfold proT
    rw [e2]
    exact Int.le_refl _
  · rw [e1]
    exact Nat.le_refl _
/-- What Open tells, to be read. -/
def RdP (p : Int) (n : Nat) (W : World) (a : Option Addr) : Prop := ∀ k, k < n → ∃ b off t, a = some ⟨b, off, none⟩ ∧ b < W.heap.size ∧ p ≤ t ∧ W.cell? ⟨b, off + k * 6, none⟩ = some (.int .i64 t) ∧ W.cell? ⟨b, off + k * 6 + 3, none⟩ = some (.int .i64 2)
theorem RdP.below {p : Int} {n : Nat} {W W' : World} {a : Option Addr} (h : RdP p n W a) (hb : Below W.heap.size W W') : RdP p n W' a := fun k hk => by
  obtain ⟨b, off, t, e, hB, hp, c0, c3⟩ := h k hk
  exact ⟨b, off, t, e, Nat.lt_of_lt_of_le hB hb.size, hp, (hb.cell (p := ⟨b, off + k * 6, none⟩) hB).trans c0, (hb.cell (p := ⟨b, off + k * 6 + 3, none⟩) hB).trans c3⟩
theorem Pr.commit {w0 : World} {n i : Nat} {x : X} {Z : Ad} {T : Nat → Prop} {W : World} (h : Pr w0 n i x Z T W) (t : Int) (hi : i ≤ 200) :
    Calls Tryz.prog 18 #[.pointer (some ⟨Z.nb, 0, none⟩), .int .i64 t] W fun en w' => ∃ u a2 n2 c2 E x2 T2, en = .returned (.tuple #[u, .slice a2 n2 c2, .int .i64 E]) ∧ n2 ≤ 10000 ∧ (E = 0 → x2.fl = t) ∧ RdP (proT (Bo n) x) n2 w' a2 ∧ proT (Bo n) x ≤ proT (Bo n) x2 ∧ x.lg.length ≤ x2.lg.length ∧ Mw T T2 W w' ∧ Pr w0 n (i + 1) x2 Z T2 w' := by
  have hI := h.pn.inv.2
  refine (op_commit h.pn t (by omega)).mono ?_
  rintro en w' ⟨T', a, n', cc, a2, n2, c2, he, g1, g2, g3, g5, g6⟩
  obtain ⟨e1, e2, e3⟩ := comm_more (Bo n) x t
  obtain ⟨a3, c3, e, hr⟩ := g5.rd (N := fun _ => True) (fun _ _ => trivial)
  simp at e
  obtain ⟨rfl, hn2, rfl⟩ := e
  refine ⟨_, a2, n2, c2, _, _, T', he, ?_, e3, fun k hk => ?_, vadd_mono e1 _, e2, g2, g1.mono (by omega), h.lg.comm (bo_ok n) hI t⟩
  · have := comm_len (bo_ok n) hI t
    omega
  · rw [hn2] at hk
    obtain ⟨b, off, e, hB, _, c0, _, _, c3, _, _⟩ := hr.msg hk rfl
    have hm := comm_out hI t _ (B.nth_mem (C := B.cM) hk)
    rw [hm.2] at c3
    exact ⟨b, off, _, e, hB, hm.1, c0, c3⟩
theorem Pr.floor {w0 : World} {n i : Nat} {x : X} {Z : Ad} {T : Nat → Prop} {W : World} (h : Pr w0 n i x Z T W) :
    Calls Tryz.prog 23 #[.pointer (some ⟨Z.nb, 0, none⟩)] W fun e w' => e = .returned (.int .i64 x.fl) ∧ W = w' := op_floor h.pn
theorem Pr.promise {w0 : World} {n i : Nat} {x : X} {Z : Ad} {T : Nat → Prop} {W : World} (h : Pr w0 n i x Z T W) :
    Calls Tryz.prog 29 #[.pointer (some ⟨Z.nb, 0, none⟩)] W fun e w' => e = .returned (.int .i64 (proT (Bo n) x)) ∧ Pr w0 n i x Z T w' :=
  (op_promise h.pn).mono fun e w' ⟨he, hb⟩ => ⟨he, h.on hb⟩
/-- What was settled, to be read: each key stands behind the one ahead of it. -/
def RdL (n : Nat) (W : World) (a : Option Addr) : Prop := ∀ k, k + 1 < n → ∃ b off t1 f1 s1 t2 f2 s2 v, a = some ⟨b, off, none⟩ ∧ b < W.heap.size ∧ Q.kcmp (t1, f1, s1) (t2, f2, s2) = v ∧ v < 0 ∧ (W.cell? ⟨b, off + k * 7, none⟩ = some (.int .i64 t1) ∧ W.cell? ⟨b, off + k * 7 + 1, none⟩ = some (.int .i64 f1) ∧ W.cell? ⟨b, off + k * 7 + 2, none⟩ = some (.int .i64 s1)) ∧ W.cell? ⟨b, off + (k + 1) * 7, none⟩ = some (.int .i64 t2) ∧ W.cell? ⟨b, off + (k + 1) * 7 + 1, none⟩ = some (.int .i64 f2) ∧ W.cell? ⟨b, off + (k + 1) * 7 + 2, none⟩ = some (.int .i64 s2)
theorem RdL.below {n : Nat} {W W' : World} {a : Option Addr} (h : RdL n W a) (hb : Below W.heap.size W W') : RdL n W' a := fun k hk => by
  obtain ⟨b, off, t1, f1, s1, t2, f2, s2, v, e, hB, hp, hv, ⟨c0, c1, c2⟩, d0, d1, d2⟩ := h k hk
  have f : ∀ o, W'.cell? ⟨b, o, none⟩ = W.cell? ⟨b, o, none⟩ := fun o => hb.cell (p := ⟨b, o, none⟩) hB
  exact ⟨b, off, t1, f1, s1, t2, f2, s2, v, e, Nat.lt_of_lt_of_le hB hb.size, hp, hv, ⟨(f _).trans c0, (f _).trans c1, (f _).trans c2⟩, (f _).trans d0, (f _).trans d1, (f _).trans d2⟩
theorem Pr.log {w0 : World} {n i : Nat} {x : X} {Z : Ad} {T : Nat → Prop} {W : World} (h : Pr w0 n i x Z T W) (hi : i ≤ 200) :
    Calls Tryz.prog 33 #[.pointer (some ⟨Z.nb, 0, none⟩)] W fun e w' => ∃ a c, e = .returned (.slice a x.lg.length c) ∧ RdL x.lg.length w' a ∧ Pr w0 n i x Z T w' := by
  refine (op_log h.pn (by omega)).mono ?_
  rintro e w' ⟨a, c, he, ho, hn, hb⟩
  refine ⟨a, c, he, fun k hk => ?_, h.on hb⟩
  obtain ⟨a2, c2, e2, hr⟩ := ho.rd (N := fun _ => True) (fun _ _ => trivial)
  simp at e2
  obtain ⟨rfl, rfl⟩ := e2
  obtain ⟨b, off, e3, hB, _, hc⟩ := hr (by intro g; rw [g] at hk; simp at hk)
  have hk0 : k < x.lg.length := by omega
  have hks := List.pairwise_iff_getElem.1 h.lg.ks k (k + 1) hk0 hk (by omega)
  have q1 := hc k hk0
  have q2 := hc (k + 1) hk
  rw [B.nth_get hk0] at q1
  rw [B.nth_get hk] at q2
  exact ⟨b, off, (x.lg[k]).m.t, (x.lg[k]).m.fr, (x.lg[k]).m.sq, (x.lg[k + 1]).m.t, (x.lg[k + 1]).m.fr, (x.lg[k + 1]).m.sq, B.kcmp ((x.lg[k]).m.t, (x.lg[k]).m.fr, (x.lg[k]).m.sq) ((x.lg[k + 1]).m.t, (x.lg[k + 1]).m.fr, (x.lg[k + 1]).m.sq), e3, hB, rfl, (B.kcmp_neg _ _).2 hks, ⟨q1 0 (by decide), q1 1 (by decide), q1 2 (by decide)⟩, q2 0 (by decide), q2 1 (by decide), q2 2 (by decide)⟩
theorem Pr.len {w0 : World} {n i : Nat} {x : X} {Z : Ad} {T : Nat → Prop} {W : World} (h : Pr w0 n i x Z T W) : x.lg.length ≤ i + 2 := h.pn.inv.2.lg
theorem rdQ_cells {w : World} {a : Option Addr} {l : List Oq} (h : RdQ w a l) {i : Nat} (hi : i < l.length) : ∃ k fr ti ik T b c d e g co xb off, a = some ⟨xb, off, none⟩ ∧ wfI fr ∧ Q.mwf ((T, b, c), d, e, g) ∧ ∀ W, Below w.heap.size w W →
    W.cell? ⟨xb, off + i * 11, none⟩ = some (.int .i64 k) ∧ W.cell? ⟨xb, off + i * 11 + 1, none⟩ = some (.int .i64 fr) ∧ W.cell? ⟨xb, off + i * 11 + 2, none⟩ = some (.int .i64 ti) ∧ W.cell? ⟨xb, off + i * 11 + 3, none⟩ = some (.int .i64 ik) ∧ W.cell? ⟨xb, off + i * 11 + 4, none⟩ = some (.int .i64 T) ∧ W.cell? ⟨xb, off + i * 11 + 5, none⟩ = some (.int .i64 b) ∧ W.cell? ⟨xb, off + i * 11 + 6, none⟩ = some (.int .i64 c) ∧ W.cell? ⟨xb, off + i * 11 + 7, none⟩ = some (.int .i64 d) ∧ W.cell? ⟨xb, off + i * 11 + 8, none⟩ = some (.int .i64 e) ∧ W.cell? ⟨xb, off + i * 11 + 9, none⟩ = some (.int .i64 g) ∧ W.cell? ⟨xb, off + i * 11 + 10, none⟩ = some (.int .i64 co) := by
  obtain ⟨xb, off, rfl, hb, hc⟩ := h.2 (by intro e; rw [e] at hi; simp at hi)
  have hw := h.1 i hi
  obtain ⟨o, ho⟩ : ∃ o, nthQ l i = o := ⟨_, rfl⟩
  obtain ⟨k, fr, ti, ik, ⟨⟨T, b, c⟩, d, e, g⟩, co⟩ := o
  rw [ho] at hw
  refine ⟨k, fr, ti, ik, T, b, c, d, e, g, co, xb, off, rfl, hw.1, hw.2.2, fun W hW => ?_⟩
  have q : ∀ j, j < 11 → W.cell? ⟨xb, off + i * 11 + j, none⟩ = (encQ (nthQ l i))[j]? := fun j hj => (hW.cell (p := ⟨xb, off + i * 11 + j, none⟩) hb).trans (hc i hi j hj)
  rw [ho] at q
  exact ⟨q 0 (by omega), q 1 (by omega), q 2 (by omega), q 3 (by omega), q 4 (by omega), q 5 (by omega), q 6 (by omega), q 7 (by omega), q 8 (by omega), q 9 (by omega), q 10 (by omega)⟩

/-! ### With what is not the node's -/
def Ps (w0 : World) (n i : Nat) (Z : Ad) (fl P : Int) (L : Nat) (W : World) : Prop := ∃ x T, Pr w0 n i x Z T W ∧ x.fl = fl ∧ proT (Bo n) x = P ∧ x.lg.length = L
def Pa (w0 : World) (n i : Nat) (Z : Ad) (fl P : Int) (L A : Nat) (W : World) : Prop := ∃ x T, Pr w0 n i x Z T W ∧ x.fl = fl ∧ proT (Bo n) x = P ∧ x.lg.length = L ∧ ¬ T A ∧ A < W.heap.size
theorem Ps.start {w0 : World} {n : Nat} {Z : Ad} {T : Nat → Prop} {W : World} (h : PN w0 (Bo n) 2 (x0 0 0) Z T W) : Ps w0 n 0 Z 0 2 0 W := ⟨_, T, Pr.start h, rfl, rfl, rfl⟩
theorem Ps.bel {w0 : World} {n i : Nat} {Z : Ad} {fl P : Int} {L : Nat} {W : World} (h : Ps w0 n i Z fl P L W) : Below w0.heap.size w0 W := by
  obtain ⟨x, T, h, _⟩ := h
  exact h.pn.bel
theorem Ps.len {w0 : World} {n i : Nat} {Z : Ad} {fl P : Int} {L : Nat} {W : World} (h : Ps w0 n i Z fl P L W) : L ≤ i + 2 := by
  obtain ⟨x, T, h, _, _, rfl⟩ := h
  exact h.len
theorem Ps.on {w0 : World} {n i : Nat} {Z : Ad} {fl P : Int} {L : Nat} {W W' : World} (h : Ps w0 n i Z fl P L W) (hb : Below W.heap.size W W') : Ps w0 n i Z fl P L W' := by
  obtain ⟨x, T, h, g⟩ := h
  exact ⟨x, T, h.on hb, g⟩
theorem Ps.at {w0 : World} {n i : Nat} {Z : Ad} {fl P : Int} {L : Nat} {W W' : World} (h : Ps w0 n i Z fl P L W) (hb : Below W.heap.size W W') (hs : W.heap.size < W'.heap.size) : Pa w0 n i Z fl P L W.heap.size W' := by
  obtain ⟨x, T, h, g1, g2, g3⟩ := h
  exact ⟨x, T, h.on hb, g1, g2, g3, fun g => by have := h.pn.lt _ g; omega, hs⟩
theorem Pa.ps {w0 : World} {n i : Nat} {Z : Ad} {fl P : Int} {L A : Nat} {W : World} (h : Pa w0 n i Z fl P L A W) : Ps w0 n i Z fl P L W := by
  obtain ⟨x, T, h, g1, g2, g3, _⟩ := h
  exact ⟨x, T, h, g1, g2, g3⟩
theorem Pa.next {w0 : World} {n i : Nat} {Z : Ad} {fl P : Int} {L A : Nat} {W : World} (h : Pa w0 n i Z fl P L A W) : Ps w0 n (i + 1) Z fl P L W := by
  obtain ⟨x, T, h, g1, g2, g3, _⟩ := h
  exact ⟨x, T, h.more, g1, g2, g3⟩
theorem Pa.after {w0 : World} {n i : Nat} {x : X} {Z : Ad} {T T2 : Nat → Prop} {A : Nat} {W W2 : World} (hA : ¬ T A) (hl : A < W.heap.size) (hm : Mw T T2 W W2) (h : Pr w0 n i x Z T2 W2) : Pa w0 n i Z x.fl (proT (Bo n) x) x.lg.length A W2 ∧ ∀ o, W2.cell? ⟨A, o, none⟩ = W.cell? ⟨A, o, none⟩ :=
  ⟨⟨x, T2, h, rfl, rfl, rfl, fun g => hA (hm.new A hl g), Nat.lt_of_lt_of_le hl hm.fr.size⟩, fun o => hm.fr.cell (p := ⟨A, o, none⟩) hl hA⟩
theorem Pa.hear {w0 : World} {n i : Nat} {Z : Ad} {fl P : Int} {L A : Nat} {W : World} (h : Pa w0 n i Z fl P L A W) (fr k co t b c d e g : Int) (h1 : wfI fr) (h2 : Q.mwf ((t, b, c), d, e, g)) :
    Calls Tryz.prog 13 #[.pointer (some ⟨Z.nb, 0, none⟩), .int .i64 fr, .agg #[.int .i64 k, .int .i64 t, .int .i64 b, .int .i64 c, .int .i64 d, .int .i64 e, .int .i64 g, .int .i64 co]] W fun en w' => ∃ u E fl2 P2 L2, en = .returned (.tuple #[u, .int .i64 E]) ∧ (E = 0 → k ≠ 2 → ¬ t < fl2) ∧ P ≤ P2 ∧ L ≤ L2 ∧ Pa w0 n (i + 1) Z fl2 P2 L2 A w' ∧ ∀ o, w'.cell? ⟨A, o, none⟩ = W.cell? ⟨A, o, none⟩ := by
  obtain ⟨x, T, h, rfl, rfl, rfl, hA, hl⟩ := h
  refine (h.hear fr k co t b c d e g h1 h2).mono ?_
  rintro en w' ⟨u, E, x2, T2, he, q1, q2, q3, q4, q5⟩
  obtain ⟨r1, r2⟩ := Pa.after hA hl q4 q5
  exact ⟨u, E, _, _, _, he, fun a b => by have := q1 a b; omega, q2, q3, r1, r2⟩
theorem Pa.step {w0 : World} {n i : Nat} {Z : Ad} {fl P : Int} {L A : Nat} {W : World} (h : Pa w0 n i Z fl P L A W) (hi : i ≤ 200) :
    Calls Tryz.prog 16 #[.pointer (some ⟨Z.nb, 0, none⟩)] W fun en w' => ∃ u fl2 P2 L2, en = .returned u ∧ P ≤ P2 ∧ L ≤ L2 ∧ Ps w0 n (i + 1) Z fl2 P2 L2 w' := by
  obtain ⟨x, T, h, rfl, rfl, rfl, hA, hl⟩ := h
  refine (h.step hi).mono ?_
  rintro en w' ⟨x2, T2, ⟨u, he⟩, q2, q3, q4, q5⟩
  exact ⟨u, _, _, _, he, q2, q3, x2, T2, q5, rfl, rfl, rfl⟩
theorem Pa.commit {w0 : World} {n i : Nat} {Z : Ad} {fl P : Int} {L A : Nat} {W : World} (h : Pa w0 n i Z fl P L A W) (t : Int) (hi : i ≤ 200) :
    Calls Tryz.prog 18 #[.pointer (some ⟨Z.nb, 0, none⟩), .int .i64 t] W fun en w' => ∃ u a2 n2 c2 E fl2 P2 L2, en = .returned (.tuple #[u, .slice a2 n2 c2, .int .i64 E]) ∧ n2 ≤ 10000 ∧ (E = 0 → fl2 = t) ∧ RdP P n2 w' a2 ∧ P ≤ P2 ∧ L ≤ L2 ∧ Pa w0 n (i + 1) Z fl2 P2 L2 A w' ∧ ∀ o, w'.cell? ⟨A, o, none⟩ = W.cell? ⟨A, o, none⟩ := by
  obtain ⟨x, T, h, rfl, rfl, rfl, hA, hl⟩ := h
  refine (h.commit t hi).mono ?_
  rintro en w' ⟨u, a2, n2, c2, E, x2, T2, he, hn, q0, q1, q2, q3, q4, q5⟩
  obtain ⟨r1, r2⟩ := Pa.after hA hl q4 q5
  exact ⟨u, a2, n2, c2, E, _, _, _, he, hn, q0, q1, q2, q3, r1, r2⟩
theorem Pa.floor {w0 : World} {n i : Nat} {Z : Ad} {fl P : Int} {L A : Nat} {W : World} (h : Pa w0 n i Z fl P L A W) :
    Calls Tryz.prog 23 #[.pointer (some ⟨Z.nb, 0, none⟩)] W fun e w' => e = .returned (.int .i64 fl) ∧ W = w' := by
  obtain ⟨x, T, h, rfl, _⟩ := h
  exact h.floor
theorem Pa.on {w0 : World} {n i : Nat} {Z : Ad} {fl P : Int} {L A : Nat} {W W' : World} (h : Pa w0 n i Z fl P L A W) (hb : Below W.heap.size W W') : Pa w0 n i Z fl P L A W' := by
  obtain ⟨x, T, h, g1, g2, g3, g4, g5⟩ := h
  exact ⟨x, T, h.on hb, g1, g2, g3, g4, Nat.lt_of_lt_of_le g5 hb.size⟩
theorem Ps.promise {w0 : World} {n i : Nat} {Z : Ad} {fl P : Int} {L : Nat} {W : World} (h : Ps w0 n i Z fl P L W) :
    Calls Tryz.prog 29 #[.pointer (some ⟨Z.nb, 0, none⟩)] W fun e w' => e = .returned (.int .i64 P) ∧ Ps w0 n i Z fl P L w' := by
  obtain ⟨x, T, h, rfl, rfl, rfl⟩ := h
  exact h.promise.mono fun e w' ⟨he, g⟩ => ⟨he, x, T, g, rfl, rfl, rfl⟩
theorem Ps.log {w0 : World} {n i : Nat} {Z : Ad} {fl P : Int} {L : Nat} {W : World} (h : Ps w0 n i Z fl P L W) (hi : i ≤ 200) :
    Calls Tryz.prog 33 #[.pointer (some ⟨Z.nb, 0, none⟩)] W fun e w' => ∃ a c, e = .returned (.slice a L c) ∧ RdL L w' a ∧ Ps w0 n i Z fl P L w' := by
  obtain ⟨x, T, h, rfl, rfl, rfl⟩ := h
  exact (h.log hi).mono fun e w' ⟨a, c, he, hr, g⟩ => ⟨a, c, he, hr, x, T, g, rfl, rfl, rfl⟩
end Go.Proofs.YtiaopafkfadmkaaGreat.V
