/- Joined: the texts that follow, each with its own sentence. -/
import Derived.Test.YtiaopafkfadmkaaGreatZVd
import Derived.Test.YtiaopafkfadmkaaGreatZAd
set_option linter.unusedVariables false
set_option maxRecDepth 100000
namespace Go.Proofs.YtiaopafkfadmkaaGreat.V
open Go.RowKit Go.Shelf
abbrev sX (x : X) (s n : Int) : X := { x with nd := { x.nd with s := s, n := n } }
abbrev qX (x : X) (q : List Mg) : X := { x with nd := { x.nd with q := q } }
set_option maxHeartbeats 4000000 in
theorem nundone {w0 : World} {D : Wd} {f : Nat} {x : X} {gf : Int} {Z : Ad} {F : Nat → Nat → Prop} {v : Value} {w : World} (h : WM w0 D f x gf Z F v w) {N : Nat → Prop} (e : En) (oa : Option Addr) (oc : Nat) (hr : B.RdN B.cM N w oa e.os) (hN : ∀ b, N b → ¬ b = Z.nb) (hl : e.os.length ≤ 64) (hd : ∀ o ∈ e.os, 0 ≤ o.2.1 ∧ o.2.1 < (D.fs.length : Int)) :
  Calls Tryz.prog 204 #[.pointer (some ⟨Z.nb, 0, none⟩), A.ev ⟨e, oa, oc⟩] w fun en w' => ∃ a' n' c', en = .returned (.slice a' n' c') ∧ WM w0 D f (sX x e.ah e.se) gf Z F v w' ∧ B.OwR G.cI 41 w' (.slice a' n' c') (itm 1 (e.os.filter (fe D f).op)) ∧ (∀ k, (Value.slice a' n' c').ownBlock = some k → w.heap.size ≤ k) ∧ Fr (fun k => k = Z.nb) w w' := by
 obtain ⟨⟨⟨m1, m2, m3⟩, m4, m5, m6⟩, ah, se, st, os⟩ := e
 dsimp only [A.ev] at hr hl hd ⊢
 obtain ⟨n, hn⟩ : ∃ n, os.length = n := ⟨_, rfl⟩
 obtain ⟨W0, hW0⟩ : ∃ W0, W0 = w.alloc (.cells #[.int .i64 m1, .int .i64 m2, .int .i64 m3, .int .i64 m4, .int .i64 m5, .int .i64 m6, .int .i64 ah, .int .i64 se, .int .i64 st, .slice oa n oc] 126) := ⟨_, rfl⟩
 have hb0 : Below w.heap.size w W0 := by rw [hW0]; exact B.al _ _
 have bx : W0.heap[w.heap.size]? = some (.cells #[.int .i64 m1, .int .i64 m2, .int .i64 m3, .int .i64 m4, .int .i64 m5, .int .i64 m6, .int .i64 ah, .int .i64 se, .int .i64 st, .slice oa n oc] 126 (0, 0)) := by rw [hW0]; exact G.newB _ _
 obtain ⟨q, hq⟩ : ∃ q, w.heap.size = q := ⟨_, rfl⟩
 have hnl := h.nlt
 have nq : ¬ q = Z.nb := by omega
 have nq2 : ¬ Z.nb = q := by omega
 rw [hq] at bx
 have lq : q < W0.heap.size := (Array.getElem?_eq_some_iff.1 bx).1
 have hwm0 := h.below hb0
 have n4 := hwm0.cells.2.2.2.2.1
 have n5 := hwm0.cells.2.2.2.2.2.1
 have f4 := hwm0.froz 4
 have f5 := hwm0.froz 5
 have lnb := hwm0.nlt
 have c6 : W0.cell? ⟨q, 6, none⟩ = some (.int .i64 ah) := cellB bx 6
 have c7 : W0.cell? ⟨q, 7, none⟩ = some (.int .i64 se) := cellB bx 7
 have c9 : W0.cell? ⟨q, 9, none⟩ = some (.slice oa n oc) := cellB bx 9
 have HIT : Hid (∀ W, Below W0.heap.size W0 W → Calls Tryz.prog 68 #[.pointer (some ⟨Z.nb, 0, none⟩), .int .i64 1, .slice oa n oc] ((W.setCell ⟨Z.nb, 4, none⟩ (.int .i64 ah)).setCell ⟨Z.nb, 5, none⟩ (.int .i64 se)) fun en w' => ∃ a' n' c', en = .returned (.slice a' n' c') ∧ WM w0 D f (sX x ah se) gf Z F v w' ∧ B.OwR G.cI 41 w' (.slice a' n' c') (itm 1 (os.filter (fe D f).op)) ∧ (∀ k, (Value.slice a' n' c').ownBlock = some k → w.heap.size ≤ k) ∧ Fr (fun k => k = Z.nb) w w') := fun W hW => by
  have hw1 := hwm0.below hW
  obtain ⟨g1, _⟩ := hw1.own (i := 4) (u := .int .i64 ah) (s := ah) (n := x.nd.n) rfl
  obtain ⟨g2, _⟩ := g1.own (i := 5) (u := .int .i64 se) (s := ah) (n := se) rfl
  have hf1 : Fr (fun k => k = Z.nb) W ((W.setCell ⟨Z.nb, 4, none⟩ (.int .i64 ah)).setCell ⟨Z.nb, 5, none⟩ (.int .i64 se)) := (frB W Z.nb 4 (.int .i64 ah)).then (frB _ Z.nb 5 (.int .i64 se))
  have hbw := hb0.trans (hW.mono hb0.size)
  have hr2 := ((hr.below hbw).keep hf1 (fun b _ g => ⟨hN b g, g⟩) : B.RdN B.cM N _ oa os)
  refine (nitems (c := oc) g2 1 hr2 hn (by omega) hd).mono fun en w' ⟨a', n', c', h1, h2⟩ => ⟨a', n', c', h1, g2.below h2.2.2, h2.1, fun k e => ?_, ?_⟩
  ·exact Nat.le_trans (Nat.le_trans hbw.size hf1.size) (h2.2.1 k e)
  ·exact ((B.Fr.of_below hbw).then hf1).then (B.Fr.of_below h2.2.2)
 rw [hn]
 have hfz : W0.frozen? ⟨q, 0, none⟩ = false := by simp [World.frozen?, bx]
 clear h hr hN hl hd hb0 hwm0 hn
 go_enter Tryz.func204, Tryz.ntmps204
 go_wp2_with fail
 rw [← hW0]
 try simp only [hq]
 clear hW0 hq bx
 go_region_held3 (fun w' => w'.cell? ⟨q, 6, none⟩ = some (.int .i64 ah) ∧ w'.cell? ⟨q, 7, none⟩ = some (.int .i64 se)) (first | (go_keep; done)) (fail)
 have HE : Hid (Below W0.heap.size W0 W0.drew) := below_drew W0
 go_wp2_with (go_at_call 68; refine (HIT.out W0.drew HE.out).mono ?_; rintro en w3 ⟨a', n', c', rfl, h3⟩; have H3 : Hid _ := h3; clear h3)
 go_ret
 exact ⟨a', n', c', rfl, H3.out⟩
structure Un (w0 : World) (D : Wd) (f : Nat) (gf : Int) (Z : Ad) (F0 : Nat → Nat → Prop) (v : Value) (W0 : World) (a : Option Addr) (b : List En) (x : X) (L : List G.It) (F : Nat → Nat → Prop) (sv : Value) (W : World) : Prop where
 wm : WM w0 D f x gf Z F v W
 mw : Mw (tot F0) (tot F) W0 W
 gon : A.Gon (F 2) W a b
 row : B.OwR G.cI 41 W sv L
 rn : ∀ k, sv.ownBlock = some k → W0.heap.size ≤ k ∧ ¬ tot F k
theorem Un.move {w0 : World} {D : Wd} {f : Nat} {gf : Int} {Z : Ad} {F0 : Nat → Nat → Prop} {v : Value} {W0 : World} {a : Option Addr} {b : List En} {x x' : X} {L : List G.It} {F F2 : Nat → Nat → Prop} {S : Nat → Prop} {sv : Value} {W W' : World} (h : Un w0 D f gf Z F0 v W0 a b x L F sv W) (hw : WM w0 D f x' gf Z F2 v W') (h2 : F2 2 = F 2) (hm : Mw (tot F) (tot F2) W W') (hf : Fr S W W') (hS : ∀ k, S k → tot F k ∧ ¬ F 2 k) : Un w0 D f gf Z F0 v W0 a b x' L F2 sv W' := by
 refine ⟨hw, h.mw.trans hm, ?_, h.row.keep hf (fun k e s => (h.rn k e).2 (hS k s).1), fun k e => ⟨(h.rn k e).1, fun g => (h.rn k e).2 (hm.new k (h.row.lt e) g)⟩⟩
 rw [h2]
 exact h.gon.keep hf (fun k _ g => ⟨fun s => (hS k s).2 g, g⟩)
theorem Un.on {w0 : World} {D : Wd} {f : Nat} {gf : Int} {Z : Ad} {F0 : Nat → Nat → Prop} {v : Value} {W0 : World} {a : Option Addr} {b : List En} {x : X} {L : List G.It} {F : Nat → Nat → Prop} {sv : Value} {W W' : World} (h : Un w0 D f gf Z F0 v W0 a b x L F sv W) (hb : Below W.heap.size W W') : Un w0 D f gf Z F0 v W0 a b x L F sv W' :=
 h.move (h.wm.below hb) rfl (B.Mw.below hb) (B.Fr.of_below (S := fun _ => False) hb) (fun _ g => g.elim)
theorem Un.app {w0 : World} {D : Wd} {f : Nat} {gf : Int} {Z : Ad} {F0 : Nat → Nat → Prop} {v : Value} {W0 : World} {a : Option Addr} {b : List En} {x : X} {L L' : List G.It} {F : Nat → Nat → Prop} {sv sv' : Value} {W W' : World} (h : Un w0 D f gf Z F0 v W0 a b x L F sv W) (h00 : w0.heap.size ≤ W0.heap.size) (ho : B.OwR G.cI 41 W' sv' L') (hm : Mw (fun k => sv.ownBlock = some k) (fun k => sv'.ownBlock = some k) W W') : Un w0 D f gf Z F0 v W0 a b x L' F sv' W' := by
 have hs := h.mw.fr.size
 have hlt := h.wm.lt
 refine ⟨h.wm.keep hm.fr (fun k g e => (h.rn k e).2 g) (fun k e => Nat.le_trans h00 (h.rn k e).1), ⟨h.mw.fr.trans hm.fr (fun k hk e => by have := (h.rn k e).1; omega), h.mw.new⟩, h.gon.keep hm.fr (fun k _ g => ⟨fun e => (h.rn k e).2 ⟨2, g⟩, g⟩), ho, fun k e => ?_⟩
 rcases Nat.lt_or_ge k W.heap.size with g | g
 ·exact h.rn k (hm.new k g e)
 ·exact ⟨by omega, fun t => by have := hlt k t; omega⟩
theorem WM.back {w0 : World} {D : Wd} {f : Nat} {x : X} {gf : Int} {Z : Ad} {F : Nat → Nat → Prop} {v : Value} {W : World} (h : WM w0 D f x gf Z F v W) (k : Kg) :
  Calls Tryz.prog 203 #[.pointer (some ⟨Z.pb, 0, none⟩), B.kv k] W fun e w' => ∃ a c F', e = .returned (.slice a (gonK k x.nd.p).length c) ∧ A.Gon (F' 2) w' a (gonK k x.nd.p) ∧ WM w0 D f { x with nd := { x.nd with p := x.nd.p.filter (A.bef k) } } gf Z F' v w' ∧ Mw (tot F) (tot F') W w' := by
 obtain ⟨h1, v0, hpp⟩ := h.pa
 refine (A.back_any hpp k).mono fun e w' ⟨a, c, v', he, hg, hp, hm⟩ => ?_
 obtain ⟨g1, g2⟩ := PT.after h1 hpp hp hm
 obtain ⟨F', r1, r2, r3, _⟩ := h.past g1 g2
 refine ⟨a, c, F', he, ?_, r1, r2⟩
 rw [r3]
 refine hg.keep (B.Fr.refl (fun _ => False) w') (fun b hb g => ⟨fun e => e, hb, ?_⟩)
 rcases Nat.lt_or_ge b W.heap.size with e | e
 ·exact .inl (Classical.byContradiction fun hn => g.1 ⟨e, hn⟩)
 ·exact .inr e
theorem WM.push {w0 : World} {D : Wd} {f : Nat} {x : X} {gf : Int} {Z : Ad} {F : Nat → Nat → Prop} {v : Value} {W : World} (h : WM w0 D f x gf Z F v W) (m : Mg) (hm : Q.mwf m) (hk : Q.hasK x.nd.q m.1 = false) (hl : x.nd.q.length < 64) :
  Calls Tryz.prog 185 #[.pointer (some ⟨Z.qb, 0, none⟩), B.mv m] W fun e w' => ∃ F', e = .returned (.int .i64 0) ∧ WM w0 D f (qX x (Q.ins x.nd.q m)) gf Z F' v w' ∧ Mw (tot F) (tot F') W w' ∧ Fr (F 1) W w' ∧ ∀ j, j ≠ 1 → F' j = F j := by
 refine (Q.qpush_any h.qu m hm).mono fun e w' ⟨he, G2, hq, hs⟩ => ?_
 rw [hk] at he hq
 simp only [Bool.false_eq_true, if_false] at he hq
 rw [if_neg (by omega)] at he hq
 obtain ⟨F', r1, r2, r3⟩ := h.queue hq hs
 exact ⟨F', he, r1, r2, ofQ hs.1, r3⟩
theorem WM.drop {w0 : World} {D : Wd} {f : Nat} {x : X} {gf : Int} {Z : Ad} {F : Nat → Nat → Prop} {v : Value} {W : World} (h : WM w0 D f x gf Z F v W) (k : Kg) :
  Calls Tryz.prog 205 #[.pointer (some ⟨Z.gb, 0, none⟩), B.kv k] W fun e w' => ∃ a n c F', e = .returned (.slice a n c) ∧ WM w0 D f (gX x (x.nd.g.filter (G.befK k))) gf Z F' v w' ∧ Mw (tot F) (tot F') W w' ∧ Fr (F 3) W w' ∧ ∀ j, j ≠ 3 → F' j = F j := by
 obtain ⟨h1, vg, h2, h3⟩ := h.ga
 refine (G.drop_any h2 k).mono fun e w' ⟨a, n, c, v', he, _, _, hq, hm⟩ => ?_
 obtain ⟨g1, g2⟩ := GT.after h1 h3 hq hm
 obtain ⟨F', r1, r2, _, r4⟩ := h.gate g1 g2
 exact ⟨a, n, c, F', he, r1, r2, g2.fr, r4⟩
def undS (b : List En) (s n : Int) (j : Nat) : Int × Int := (b.take j).foldl (fun (_ : Int × Int) e => (e.ah, e.se)) (s, n)
def uX (k : Kg) (b : List En) (x : X) (j : Nat) : X := { x with nd := ⟨(undS b x.nd.s x.nd.n j).1, (undS b x.nd.s x.nd.n j).2, undQ k b x.nd.q j, x.nd.p.filter (A.bef k), x.nd.g⟩ }
theorem undS_succ {b : List En} {s n : Int} {j : Nat} (hj : j < b.length) : undS b s n (j + 1) = ((b[j]).ah, (b[j]).se) := by
 unfold undS
 rw [List.take_succ_eq_append_getElem hj, List.foldl_append]
 rfl
def undN (k : Kg) (x : W.Nd) : W.Nd := { W.undo k x with q := undQ k (gonK k x.p) x.q (gonK k x.p).length }
def oua (p : Mg → Bool) (b : List En) (j : Nat) : List Mg := (b.take j).flatMap (fun e => e.os.filter p)
theorem oua_succ {p : Mg → Bool} {b : List En} {j : Nat} (hj : j < b.length) : itm 1 (oua p b j) ++ itm 1 ((b[j]).os.filter p) = itm 1 (oua p b (j + 1)) := by
 unfold oua
 rw [List.take_succ_eq_append_getElem hj, List.flatMap_append]
 simp [itm]
theorem flatMap_le {b : List En} {p : Mg → Bool} {m : Nat} (h : ∀ e ∈ b, e.os.length ≤ m) : ∀ j, (oua p b j).length ≤ b.length * m := by
 intro j
 unfold oua
 have hs : ∀ e ∈ b.take j, e.os.length ≤ m := fun e he => h e (List.mem_of_mem_take he)
 have hl : (b.take j).length ≤ b.length := by rw [List.length_take]; omega
 refine Nat.le_trans ?_ (Nat.mul_le_mul_right m hl)
 revert hs
 generalize b.take j = c
 intro hs
 induction c with
 | nil => simp
 | cons e r ih =>
  have h1 := hs e (List.mem_cons_self ..)
  have h2 := ih (fun e he => hs e (List.mem_cons_of_mem _ he))
  have h3 := List.length_filter_le p e.os
  rw [List.flatMap_cons, List.length_append, List.length_cons, Nat.succ_mul]
  omega
theorem gonK_sub {k : Kg} {p : List En} : ∀ e ∈ gonK k p, e ∈ p := fun e he => mem_fil (List.mem_reverse.1 he)
set_option maxHeartbeats 2000000 in
theorem nundo {w0 : World} {D : Wd} {f : Nat} {x : X} {gf : Int} {Z : Ad} {F : Nat → Nat → Prop} {v : Value} {w : World} (h : WM w0 D f x gf Z F v w) (k : Kg) (hsrt : W.SrtM (x.nd.p.map A.P.m ++ x.nd.q)) (hpm : ∀ e ∈ x.nd.p, B.mwf e.m ∧ e.os.length ≤ 64 ∧ ∀ o ∈ e.os, 0 ≤ o.2.1 ∧ o.2.1 < (D.fs.length : Int)) (hpl : x.nd.p.length ≤ 64) (hlen : beh x.nd.p k + x.nd.q.length ≤ 64) :
  Calls Tryz.prog 183 #[.pointer (some ⟨Z.nb, 0, none⟩), B.kv k] w fun e w' => ∃ F' a' n' c', e = .returned (.slice a' n' c') ∧ WM w0 D f { x with nd := undN k x.nd } gf Z F' v w' ∧ Mw (tot F) (tot F') w w' ∧ B.OwR G.cI 41 w' (.slice a' n' c') (itm 1 (W.antis (fe D f) k x.nd)) ∧ ∀ b, (Value.slice a' n' c').ownBlock = some b → w.heap.size ≤ b ∧ ¬ tot F' b := by
 have mixed : Tryz.prog.follows .mixedOrders = true := by kernel_rfl
 obtain ⟨p, hp⟩ : ∃ p, (fe D f).op = p := ⟨_, rfl⟩
 have hanti : W.antis (fe D f) k x.nd = oua p (gonK k x.nd.p) (gonK k x.nd.p).length := by
  unfold W.antis oua
  rw [List.take_length, hp]
  rfl
 have hund : ({ x with nd := undN k x.nd } : X) = gX (uX k (gonK k x.nd.p) x (gonK k x.nd.p).length) (x.nd.g.filter (G.befK k)) := by
  unfold undN uX undS gX
  rw [List.take_length]
  rfl
 rw [hanti, hund]
 obtain ⟨b, hb⟩ : ∃ b, gonK k x.nd.p = b := ⟨_, rfl⟩
 have hbl : b.length ≤ 64 := by
  rw [← hb]
  unfold gonK
  rw [List.length_reverse]
  exact Nat.le_trans (List.length_filter_le _ _) hpl
 have hbm : ∀ e ∈ b, B.mwf e.m ∧ e.os.length ≤ 64 ∧ ∀ o ∈ e.os, 0 ≤ o.2.1 ∧ o.2.1 < (D.fs.length : Int) := fun e he => hpm e (gonK_sub e (by rw [hb]; exact he))
 have hql : ∀ j, (undQ k b x.nd.q j).length ≤ 64 := fun j => by
  rw [← hb]
  exact Nat.le_trans (undQ_len j) hlen
 have hpush : ∀ j (hj : j < b.length), (b[j]).m.1 ≠ k → Q.hasK (undQ k b x.nd.q j) (b[j]).m.1 = false ∧ Q.ins (undQ k b x.nd.q j) (b[j]).m = undQ k b x.nd.q (j + 1) := fun j hj hne => undQ_push hsrt hb.symm hj hne
 obtain ⟨k1, k2, k3⟩ := k
 obtain ⟨W0, hW0⟩ : ∃ W0, W0 = w.alloc (.cells #[.int .i64 k1, .int .i64 k2, .int .i64 k3] 37) := ⟨_, rfl⟩
 have hb0 : Below w.heap.size w W0 := by rw [hW0]; exact B.al _ _
 have bx : W0.heap[w.heap.size]? = some (.cells #[.int .i64 k1, .int .i64 k2, .int .i64 k3] 37 (0, 0)) := by rw [hW0]; exact G.newB _ _
 obtain ⟨q, hq⟩ : ∃ q, w.heap.size = q := ⟨_, rfl⟩
 have nq : ¬ tot F q := fun g => by have := h.lt _ g; omega
 rw [hq] at bx
 have lq : q < W0.heap.size := (Array.getElem?_eq_some_iff.1 bx).1
 have HQ : Hid (∀ W F', Mw (tot F) (tot F') W0 W → q < W.heap.size ∧ ¬ tot F' q ∧ W.heap[q]? = some (.cells #[.int .i64 k1, .int .i64 k2, .int .i64 k3] 37 (0, 0))) := fun W F' hm => by
  obtain ⟨g1, g2, g3⟩ := hm.stay lq nq
  exact ⟨g3, g2, g1.trans bx⟩
 have HM0 : Hid (Mw (tot F) (tot F) w W0) := B.Mw.below hb0
 have h00 : w0.heap.size ≤ W0.heap.size := Nat.le_trans h.sep.bel.size hb0.size
 have hwm0 := h.below hb0
 have n7 := hwm0.cells.2.2.2.2.2.2.2.1
 have hux0 : ({ x with nd := { x.nd with p := x.nd.p.filter (A.bef (k1, k2, k3)) } } : X) = uX (k1, k2, k3) b x 0 := by
  unfold uX undS undQ noK
  simp
 have HBK : Hid (Calls Tryz.prog 203 #[.pointer (some ⟨Z.pb, 0, none⟩), .agg #[.int .i64 k1, .int .i64 k2, .int .i64 k3]] W0.drew fun e w' => ∃ a c F', e = .returned (.slice a b.length c) ∧ Un w0 D f gf Z F v W0 a b (uX (k1, k2, k3) b x 0) [] F' (.slice none 0 0) w') := by
  have := (hwm0.below (below_drew W0)).back (k1, k2, k3)
  rw [hb] at this
  refine this.mono fun e w' ⟨a, c, F', h1, h2, h3, h4⟩ => ⟨a, c, F', h1, ?_⟩
  rw [hux0] at h3
  exact ⟨h3, (B.Mw.below (below_drew W0)).trans h4, h2, B.OwR.nil _ _ _, fun k e => by simp [Value.ownBlock] at e⟩
 have HKP : Hid (∀ w' F' a x' L sv, Un w0 D f gf Z F v W0 a b x' L F' sv w' → w'.cell? ⟨Z.nb, 7, none⟩ = some (.pointer (some ⟨Z.pb, 0, none⟩)) ∧ w'.cell? ⟨q, 0, none⟩ = some (.int .i64 k1) ∧ w'.cell? ⟨q, 1, none⟩ = some (.int .i64 k2) ∧ w'.cell? ⟨q, 2, none⟩ = some (.int .i64 k3)) := fun w' F' a x' L sv hU => by
  obtain ⟨_, _, g⟩ := HQ.out w' F' hU.mw
  exact ⟨hU.wm.cells.2.2.2.2.2.2.2.1, cellB g 0, cellB g 1, cellB g 2⟩
 have q0 : W0.cell? ⟨q, 0, none⟩ = some (.int .i64 k1) := cellB bx 0
 have q1 : W0.cell? ⟨q, 1, none⟩ = some (.int .i64 k2) := cellB bx 1
 have q2 : W0.cell? ⟨q, 2, none⟩ = some (.int .i64 k3) := cellB bx 2
 obtain ⟨n, hn⟩ : ∃ n, b.length = n := ⟨_, rfl⟩
 have HN : Hid (b.length = n) := hn
 rw [hn] at HBK hbl
 have HBM : Hid (∀ e ∈ b, B.mwf e.m ∧ e.os.length ≤ 64 ∧ ∀ o ∈ e.os, 0 ≤ o.2.1 ∧ o.2.1 < (D.fs.length : Int)) := hbm
 have HQL : Hid (∀ j, (undQ (k1, k2, k3) b x.nd.q j).length ≤ 64) := hql
 have HPU : Hid (∀ j (hj : j < b.length), (b[j]).m.1 ≠ (k1, k2, k3) → Q.hasK (undQ (k1, k2, k3) b x.nd.q j) (b[j]).m.1 = false ∧ Q.ins (undQ (k1, k2, k3) b x.nd.q j) (b[j]).m = undQ (k1, k2, k3) b x.nd.q (j + 1)) := hpush
 have HP : Hid ((fe D f).op = p) := hp
 have HOL : Hid (∀ j, (itm 1 (oua p b j)).length ≤ 5000) := fun j => by
  have := flatMap_le (p := p) (fun e he => (hbm e he).2.1) j
  rw [itm_len]
  have h2 : b.length * 64 ≤ 64 * 64 := Nat.mul_le_mul_right 64 (by omega)
  omega
 obtain ⟨gg, hgg⟩ : ∃ gg, x.nd.g.filter (G.befK (k1, k2, k3)) = gg := ⟨_, rfl⟩
 have HGG : Hid (x.nd.g.filter (G.befK (k1, k2, k3)) = gg) := hgg
 rw [hb, hgg]
 rw [hn]
 clear h hsrt hpm hpl hlen hanti hund hb hbm hql hpush hb0 bx nq lq hwm0 hux0 hn hp hgg
 go_enter Tryz.func183, Tryz.ntmps183
 go_wp2_with fail
 rw [← hW0]
 try simp only [hq]
 clear hW0 hq
 go_region_held3 (fun w' => w'.cell? ⟨Z.nb, 7, none⟩ = some (.pointer (some ⟨Z.pb, 0, none⟩)) ∧ w'.cell? ⟨q, 0, none⟩ = some (.int .i64 k1) ∧ w'.cell? ⟨q, 1, none⟩ = some (.int .i64 k2) ∧ w'.cell? ⟨q, 2, none⟩ = some (.int .i64 k3)) (first | (go_keep; done) | exact Hid.out KEEP) (first
  | (go_at_call 203; refine (Hid.out HBK).mono ?_; rintro e w1 ⟨a, c, F1, rfl, hU⟩; have KEEP : Hid _ := Hid.out HKP _ _ _ _ _ _ hU; have HU : Hid _ := hU; clear hU HBK))
 go_wp2_with fail
 clear KEEP n7 q0 q1 q2
 go_loopw [5, 15] (fun s5 s15 wr => ∃ (j : Nat) (F2 : Nat → Nat → Prop) (sa : Option Addr) (sn sc : Nat), s15 = .int .i64 j ∧ j ≤ n ∧ s5 = .slice sa sn sc ∧ Hid (Un w0 D f gf Z F v W0 a b (uX (k1, k2, k3) b x j) (itm 1 (oua p b j)) F2 (.slice sa sn sc) wr)) (fun _ s15 _ => n - (intOf s15).toNat)
 case atStart =>
  have e : itm 1 (oua p b 0) = [] := by simp [itm, oua]
  refine ⟨0, F1, none, 0, 0, rfl, Nat.zero_le _, rfl, ?_⟩
  rw [e]
  exact HU
 case round =>
  clear HU
  obtain ⟨j, F2, sa, sn, sc, rfl, hj, rfl, HU⟩ := hrel
  by_cases hlt : j < n
  ·have hlt' : (j : Int) < (n : Int) := by omega
   have hjl : j < b.length := by rw [HN.out]; exact hlt
   obtain ⟨l, hl, hrd, hout⟩ := HU.out.gon
   have hjl2 : j < l.length := by rw [← List.length_map (f := A.E.p), hl]; exact hjl
   obtain ⟨y, hy⟩ : ∃ y : A.E, B.nth A.cE l j = y := ⟨_, rfl⟩
   have hyp : b[j] = y.p := by
    rw [← hy, B.nth_get hjl2]
    subst hl
    simp
   have hyo := hout y (hy ▸ B.nth_mem hjl2)
   have hem := HBM.out _ (List.getElem_mem hjl)
   have hou := oua_succ (p := p) hjl
   have hus := undS_succ (s := x.nd.s) (n := x.nd.n) hjl
   have huq := undQ_succ (k := (k1, k2, k3)) (q := x.nd.q) hjl
   have hpu := HPU.out j hjl
   rw [hyp] at hem hou hus huq hpu
   obtain ⟨g1, off, rfl, lg1, _, u0, u1, u2, u3, u4, u5, u6, u7, u8, u9⟩ := hrd.entry hjl2 hy
   clear hl hrd hout hy hjl2 hyp
   obtain ⟨⟨⟨⟨m1, m2, m3⟩, m4, m5, m6⟩, ah, se, st, os⟩, oa, oc⟩ := y
   dsimp only at u0 u1 u2 u3 u4 u5 u6 u7 u8 u9 hem hou hus huq hpu hyo
   obtain ⟨on, hon⟩ : ∃ on, os.length = on := ⟨_, rfl⟩
   rw [hon] at u9
   obtain ⟨W1, hW1⟩ : ∃ W1, W1 = wr.alloc (.cells #[.int .i64 m1, .int .i64 m2, .int .i64 m3, .int .i64 m4, .int .i64 m5, .int .i64 m6, .int .i64 ah, .int .i64 se, .int .i64 st, .slice oa on oc] 126) := ⟨_, rfl⟩
   have hb1 : Below wr.heap.size wr W1 := by rw [hW1]; exact B.al _ _
   have bm : W1.heap[wr.heap.size]? = some (.cells #[.int .i64 m1, .int .i64 m2, .int .i64 m3, .int .i64 m4, .int .i64 m5, .int .i64 m6, .int .i64 ah, .int .i64 se, .int .i64 st, .slice oa on oc] 126 (0, 0)) := by rw [hW1]; exact G.newB _ _
   have nB : ¬ tot F2 wr.heap.size := fun g => by have := HU.out.wm.lt _ g; omega
   have nS : (Value.slice sa sn sc).ownBlock ≠ some wr.heap.size := fun g => by have := HU.out.row.lt g; omega
   have hU1 := HU.out.on hb1
   have hn0 : ∀ k, k = Z.nb → tot F2 k ∧ ¬ F2 2 k := fun k e => by
    subst e
    exact ⟨⟨0, hU1.wm.rc.1⟩, hU1.wm.sep.ne (by decide) hU1.wm.rc.1⟩
   have CU := nundone hU1.wm (N := F2 2) ⟨((m1, m2, m3), m4, m5, m6), ah, se, st, os⟩ oa oc (hyo.1.below hb1) (fun b g e => (hn0 b e).2 g) hyo.2 hem.2.2
   rw [HP.out] at CU
   obtain ⟨I, hI⟩ : ∃ I, itm 1 (os.filter p) = I := ⟨_, rfl⟩
   dsimp only at CU hou
   rw [hI] at CU hou
   have hIl : I.length ≤ 64 := by rw [← hI, itm_len]; exact Nat.le_trans (List.length_filter_le _ _) hem.2.1
   obtain ⟨L, hL⟩ : ∃ L, itm 1 (oua p b j) = L := ⟨_, rfl⟩
   obtain ⟨Y, hY⟩ : ∃ Y, itm 1 (oua p b (j + 1)) = Y := ⟨_, rfl⟩
   have hLl := HOL.out j
   rw [hL] at hLl hou hU1
   rw [hY] at hou
   have HX : Hid (L ++ I = Y) := hou
   have HY : Hid (itm 1 (oua p b (j + 1)) = Y) := hY
   have HLl : Hid (L.length ≤ 5000 ∧ I.length ≤ 64) := ⟨hLl, hIl⟩
   obtain ⟨t, ht⟩ : ∃ t, wr.heap.size = t := ⟨_, rfl⟩
   rw [ht] at bm nB nS
   have lt1 : t < W1.heap.size := (Array.getElem?_eq_some_iff.1 bm).1
   have HUD : Hid (Calls Tryz.prog 204 #[.pointer (some ⟨Z.nb, 0, none⟩), .agg #[.int .i64 m1, .int .i64 m2, .int .i64 m3, .int .i64 m4, .int .i64 m5, .int .i64 m6, .int .i64 ah, .int .i64 se, .int .i64 st, .slice oa on oc]] W1 fun en w2 => ∃ a' c', en = .returned (.slice a' I.length c') ∧ Un w0 D f gf Z F v W0 (some ⟨g1, off, none⟩) b (sX (uX (k1, k2, k3) b x j) ah se) L F2 (.slice sa sn sc) w2 ∧ B.OwR G.cI 41 w2 (.slice a' I.length c') I ∧ w2.heap[t]? = some (.cells #[.int .i64 m1, .int .i64 m2, .int .i64 m3, .int .i64 m4, .int .i64 m5, .int .i64 m6, .int .i64 ah, .int .i64 se, .int .i64 st, .slice oa on oc] 126 (0, 0)) ∧ t < w2.heap.size) := by
    rw [← hon]
    refine CU.mono fun en w2 ⟨a', n', c', h1, h2, h3, h4, h5⟩ => ?_
    have hn' := h3.look.1
    subst hn'
    have hne : ¬ t = Z.nb := fun e => nB (e ▸ (hn0 _ rfl).1)
    refine ⟨a', c', h1, hU1.move h2 rfl ⟨h5.wide (fun k e => (hn0 k e).1), fun _ _ g => g⟩ h5 hn0, h3, ?_, Nat.lt_of_lt_of_le lt1 h5.size⟩
    rw [h5.block t lt1 hne, hon]
    exact bm
   have HPM : Hid (B.mwf ((m1, m2, m3), m4, m5, m6)) := hem.1
   have HNB : Hid (¬ tot F2 t ∧ (Value.slice sa sn sc).ownBlock ≠ some t) := ⟨nB, nS⟩
   have HUS : Hid (undS b x.nd.s x.nd.n (j + 1) = (ah, se)) := hus
   have HQJ : Hid ((undQ (k1, k2, k3) b x.nd.q (j + 1)).length ≤ 64 ∧ (undQ (k1, k2, k3) b x.nd.q j).length ≤ 64) := ⟨HQL.out _, HQL.out _⟩
   by_cases hne : (m1, m2, m3) = (k1, k2, k3)
   ·have HUX : Hid (sX (uX (k1, k2, k3) b x j) ah se = uX (k1, k2, k3) b x (j + 1)) := by
     rw [if_neg (fun g => g hne)] at huq
     show ({ uX (k1, k2, k3) b x j with nd := _ } : X) = _
     unfold uX
     rw [hus, huq]
    have nk : ∀ W : World, (binOp .neq 37 (.agg #[.int .i64 m1, .int .i64 m2, .int .i64 m3]) (.agg #[.int .i64 k1, .int .i64 k2, .int .i64 k3])).run Tryz.prog W = .ok (.bool false) W := fun W => by
     have := G.neqK (m1, m2, m3) (k1, k2, k3) W
     rw [sameK_eq, decide_eq_true hne] at this
     exact this
    clear hem hou hus huq hpu hyo hU1 CU hI hIl hL hY hLl bm nB nS hn0 hb1 hon hne lt1
    rw [hW1] at HUD
    go_wp2_with (first
     | (go_at_call 204; refine (Hid.out HUD).mono ?_; rintro en w2 ⟨a', c', rfl, hU2, hI2, bt2, lt2⟩; have HU2 : Hid _ := hU2; have HI2 : Hid (B.OwR G.cI 41 w2 (.slice a' I.length c') I) := hI2; have HBT2 : Hid _ := And.intro bt2 lt2; clear hU2 hI2 bt2 lt2)
     | (at_builtin; refine B.wpList_append_R G.tyI (fun k => (Value.slice a' I.length c').ownBlock = some k) _ rfl (.tmp 19) (.tmp 22) rfl (.slice sa sn sc) _ _ L I rfl rfl (Hid.out HU2).row (Hid.out HI2).look.2 (by have := HLl.out; omega) (by have := HLl.out; omega) Y HX.out ?_; intro a3 c3 w3 ho hm; have HU3 : Hid (Un w0 D f gf Z F v W0 (some ⟨g1, off, none⟩) b (sX (uX (k1, k2, k3) b x j) ah se) Y F2 (.slice a3 Y.length c3) w3) := (Hid.out HU2).app h00 ho hm; have bt3 := (hm.fr.block t (Hid.out HBT2).2 (Hid.out HNB).2).trans (Hid.out HBT2).1; have lt3 := Nat.lt_of_lt_of_le (Hid.out HBT2).2 hm.fr.size; have e0 := cellB bt3 0; have e1 := cellB bt3 1; have e2 := cellB bt3 2; obtain ⟨lq3, _, bq3⟩ := Hid.out HQ w3 F2 (Hid.out HU3).mw; have q0 := cellB bq3 0; have q1 := cellB bq3 1; have q2 := cellB bq3 2; simp only [List.getElem?_toArray, List.getElem?_cons_zero, List.getElem?_cons_succ] at e0 e1 e2 q0 q1 q2; clear ho hm bt3 bq3))
    go_roundw
    case rel => exact ⟨j + 1, F2, a3, Y.length, c3, by go_num, by omega, rfl, by rw [HY.out, ← HUX.out]; exact HU3⟩
    case measure => simp [intOf]; omega
   ·have nk : ∀ W : World, (binOp .neq 37 (.agg #[.int .i64 m1, .int .i64 m2, .int .i64 m3]) (.agg #[.int .i64 k1, .int .i64 k2, .int .i64 k3])).run Tryz.prog W = .ok (.bool true) W := fun W => by
     have := G.neqK (m1, m2, m3) (k1, k2, k3) W
     rw [sameK_eq, decide_eq_false hne] at this
     exact this
    have HPJ : Hid (Q.hasK (undQ (k1, k2, k3) b x.nd.q j) (m1, m2, m3) = false ∧ Q.ins (undQ (k1, k2, k3) b x.nd.q j) ((m1, m2, m3), m4, m5, m6) = undQ (k1, k2, k3) b x.nd.q (j + 1)) := hpu hne
    have HLJ : Hid ((undQ (k1, k2, k3) b x.nd.q j).length < 64) := by
     show _ < 64
     have h1 := HQL.out (j + 1)
     rw [if_pos hne] at huq
     rw [huq, List.length_cons] at h1
     omega
    clear hem hou hus huq hpu hyo hU1 CU hI hIl hL hY hLl bm nB nS hn0 hb1 hon hne lt1
    rw [hW1] at HUD
    go_wp2_with (first
     | (go_at_call 204; refine (Hid.out HUD).mono ?_; rintro en w2 ⟨a', c', rfl, hU2, hI2, bt2, lt2⟩; have HU2 : Hid _ := hU2; have HI2 : Hid (B.OwR G.cI 41 w2 (.slice a' I.length c') I) := hI2; have HBT2 : Hid _ := And.intro bt2 lt2; clear hU2 hI2 bt2 lt2)
     | (at_builtin; refine B.wpList_append_R G.tyI (fun k => (Value.slice a' I.length c').ownBlock = some k) _ rfl (.tmp 19) (.tmp 22) rfl (.slice sa sn sc) _ _ L I rfl rfl (Hid.out HU2).row (Hid.out HI2).look.2 (by have := HLl.out; omega) (by have := HLl.out; omega) Y HX.out ?_; intro a3 c3 w3 ho hm; have HU3 : Hid (Un w0 D f gf Z F v W0 (some ⟨g1, off, none⟩) b (sX (uX (k1, k2, k3) b x j) ah se) Y F2 (.slice a3 Y.length c3) w3) := (Hid.out HU2).app h00 ho hm; have bt3 := (hm.fr.block t (Hid.out HBT2).2 (Hid.out HNB).2).trans (Hid.out HBT2).1; have lt3 := Nat.lt_of_lt_of_le (Hid.out HBT2).2 hm.fr.size; have HBT3 : Hid _ := bt3; have e0 := cellB bt3 0; have e1 := cellB bt3 1; have e2 := cellB bt3 2; have e3 := cellB bt3 3; have e4 := cellB bt3 4; have e5 := cellB bt3 5; obtain ⟨lq3, _, bq3⟩ := Hid.out HQ w3 F2 (Hid.out HU3).mw; have q0 := cellB bq3 0; have q1 := cellB bq3 1; have q2 := cellB bq3 2; have n6 := (Hid.out HU3).wm.cells.2.2.2.2.2.2.1; simp only [List.getElem?_toArray, List.getElem?_cons_zero, List.getElem?_cons_succ] at e0 e1 e2 e3 e4 e5 q0 q1 q2; clear ho hm bt3 bq3))
    have HPS : Hid (Calls Tryz.prog 185 #[.pointer (some ⟨Z.qb, 0, none⟩), .agg #[.int .i64 m1, .int .i64 m2, .int .i64 m3, .int .i64 m4, .int .i64 m5, .int .i64 m6]] w3.drew fun e w4 => ∃ F4, e = .returned (.int .i64 0) ∧ Un w0 D f gf Z F v W0 (some ⟨g1, off, none⟩) b (uX (k1, k2, k3) b x (j + 1)) Y F4 (.slice a3 Y.length c3) w4 ∧ w4.cell? ⟨Z.nb, 6, none⟩ = some (.pointer (some ⟨Z.qb, 0, none⟩)) ∧ w4.cell? ⟨t, 0, none⟩ = some (.int .i64 m1) ∧ w4.cell? ⟨t, 1, none⟩ = some (.int .i64 m2) ∧ w4.cell? ⟨t, 2, none⟩ = some (.int .i64 m3) ∧ w4.cell? ⟨t, 3, none⟩ = some (.int .i64 m4) ∧ w4.cell? ⟨t, 4, none⟩ = some (.int .i64 m5) ∧ w4.cell? ⟨t, 5, none⟩ = some (.int .i64 m6)) := by
     have hU3 := HU3.out.on (below_drew w3)
     refine (hU3.wm.push ((m1, m2, m3), m4, m5, m6) HPM.out HPJ.out.1 HLJ.out).mono fun e w4 ⟨F4, h1, h2, h3, h4, h5⟩ => ?_
     have hux : qX (sX (uX (k1, k2, k3) b x j) ah se) (Q.ins (sX (uX (k1, k2, k3) b x j) ah se).nd.q ((m1, m2, m3), m4, m5, m6)) = uX (k1, k2, k3) b x (j + 1) := by
      have e1 : (sX (uX (k1, k2, k3) b x j) ah se).nd.q = undQ (k1, k2, k3) b x.nd.q j := rfl
      rw [e1, HPJ.out.2]
      show ({ uX (k1, k2, k3) b x j with nd := _ } : X) = _
      unfold uX
      rw [HUS.out]
     rw [hux] at h2
     have hU4 := hU3.move h2 (h5 2 (by decide)) h3 h4 (fun k g => ⟨⟨1, g⟩, hU3.wm.sep.ne (by decide) g⟩)
     have bt4 := (h3.stay (show t < w3.drew.heap.size from lt3) HNB.out.1).1.trans HBT3.out
     exact ⟨F4, h1, hU4, h2.cells.2.2.2.2.2.2.1, cellB bt4 0, cellB bt4 1, cellB bt4 2, cellB bt4 3, cellB bt4 4, cellB bt4 5⟩
    go_region_held3 (fun w' => w'.cell? ⟨Z.nb, 6, none⟩ = some (.pointer (some ⟨Z.qb, 0, none⟩)) ∧ w'.cell? ⟨t, 0, none⟩ = some (.int .i64 m1) ∧ w'.cell? ⟨t, 1, none⟩ = some (.int .i64 m2) ∧ w'.cell? ⟨t, 2, none⟩ = some (.int .i64 m3) ∧ w'.cell? ⟨t, 3, none⟩ = some (.int .i64 m4) ∧ w'.cell? ⟨t, 4, none⟩ = some (.int .i64 m5) ∧ w'.cell? ⟨t, 5, none⟩ = some (.int .i64 m6)) (first | (go_keep; done) | exact Hid.out KEEP) (first
     | (go_at_call 185; refine (Hid.out HPS).mono ?_; rintro e w4 ⟨F4, rfl, hU4, hk4⟩; have KEEP : Hid _ := hk4; have HU4 : Hid _ := hU4; clear hU4 hk4 HPS))
    go_wp2
    go_roundw
    case rel => exact ⟨j + 1, F4, a3, Y.length, c3, by go_num, by omega, rfl, by rw [HY.out]; exact HU4⟩
    case measure => simp [intOf]; omega
  ·obtain rfl : j = n := by omega
   have hU := HU.out
   have n8 := hU.wm.cells.2.2.2.2.2.2.2.2.1
   obtain ⟨lq3, nq3, bq3⟩ := HQ.out wr F2 hU.mw
   have q0 : wr.cell? ⟨q, 0, none⟩ = some (.int .i64 k1) := cellB bq3 0
   have q1 : wr.cell? ⟨q, 1, none⟩ = some (.int .i64 k2) := cellB bq3 1
   have q2 : wr.cell? ⟨q, 2, none⟩ = some (.int .i64 k3) := cellB bq3 2
   have HDR : Hid (Calls Tryz.prog 205 #[.pointer (some ⟨Z.gb, 0, none⟩), .agg #[.int .i64 k1, .int .i64 k2, .int .i64 k3]] wr.drew fun e w4 => ∃ ra rn rc F4, e = .returned (.slice ra rn rc) ∧ Un w0 D f gf Z F v W0 a b (gX (uX (k1, k2, k3) b x j) gg) (itm 1 (oua p b j)) F4 (.slice sa sn sc) w4 ∧ w4.cell? ⟨Z.nb, 8, none⟩ = some (.pointer (some ⟨Z.gb, 0, none⟩)) ∧ w4.cell? ⟨q, 0, none⟩ = some (.int .i64 k1) ∧ w4.cell? ⟨q, 1, none⟩ = some (.int .i64 k2) ∧ w4.cell? ⟨q, 2, none⟩ = some (.int .i64 k3)) := by
    have hU3 := hU.on (below_drew wr)
    refine (hU3.wm.drop (k1, k2, k3)).mono fun e w4 ⟨ra, rn, rc, F4, h1, h2, h3, h4, h5⟩ => ?_
    have e1 : (uX (k1, k2, k3) b x j).nd.g.filter (G.befK (k1, k2, k3)) = gg := HGG.out
    rw [e1] at h2
    have hU4 := hU3.move h2 (h5 2 (by decide)) h3 h4 (fun k g => ⟨⟨3, g⟩, hU3.wm.sep.ne (by decide) g⟩)
    obtain ⟨_, _, bq4⟩ := HQ.out w4 F4 hU4.mw
    exact ⟨ra, rn, rc, F4, h1, hU4, h2.cells.2.2.2.2.2.2.2.2.1, cellB bq4 0, cellB bq4 1, cellB bq4 2⟩
   clear hU bq3 nq3
   go_wp2_with fail
   go_region_held3 (fun w' => w'.cell? ⟨Z.nb, 8, none⟩ = some (.pointer (some ⟨Z.gb, 0, none⟩)) ∧ w'.cell? ⟨q, 0, none⟩ = some (.int .i64 k1) ∧ w'.cell? ⟨q, 1, none⟩ = some (.int .i64 k2) ∧ w'.cell? ⟨q, 2, none⟩ = some (.int .i64 k3)) (first | (go_keep; done) | exact Hid.out KEEP) (first
    | (go_at_call 205; refine (Hid.out HDR).mono ?_; rintro e w4 ⟨ra, rn, rc, F4, rfl, hU4, hk4⟩; have KEEP : Hid _ := hk4; have HU4 : Hid _ := hU4; clear hU4 hk4 HDR))
   go_wp2
   go_ret
   refine ⟨F4, sa, sn, sc, rfl, HU4.out.wm, HM0.out.trans HU4.out.mw, HU4.out.row, fun b g => ?_⟩
   have h1 := HU4.out.rn b g
   exact ⟨Nat.le_trans HM0.out.fr.size h1.1, h1.2⟩
end Go.Proofs.YtiaopafkfadmkaaGreat.V
namespace Go.Proofs.YtiaopafkfadmkaaGreat.V
open Go.RowKit Go.Shelf
theorem PT.cap {Fp : Nat → Prop} {W : World} {fl : Int} {L : List En} {b : Nat} (h : PT Fp W fl L b) : L.length ≤ 64 := by
 obtain ⟨_, v, l, e, hq, _⟩ := h
 rw [← e, List.length_map]
 exact hq.cap
def HPo (w0 : World) (D : Wd) (f : Nat) (Z : Ad) (F : Nat → Nat → Prop) (v : Value) (w : World) (x : X) (L : List G.It) (ev : Value) (e : Ending) (w' : World) : Prop :=
 ∃ F' a' n' c', e = .returned (.tuple #[.slice a' n' c', ev]) ∧ WM w0 D f x x.fl Z F' v w' ∧ Mw (tot F) (tot F') w w' ∧ B.OwR G.cI 41 w' (.slice a' n' c') L ∧ ∀ b, (Value.slice a' n' c').ownBlock = some b → w.heap.size ≤ b ∧ ¬ tot F' b
theorem HPo.no {w0 : World} {D : Wd} {f : Nat} {Z : Ad} {F : Nat → Nat → Prop} {v : Value} {w w' : World} {x : X} {ev : Value} (h : WM w0 D f x x.fl Z F v w) (hb : Below w.heap.size w w') : HPo w0 D f Z F v w x [] ev (.returned (.tuple #[.slice none 0 0, ev])) w' :=
 ⟨F, none, 0, 0, rfl, h.below hb, B.Mw.below hb, B.OwR.nil _ _ _, fun b e => by simp [Value.ownBlock] at e⟩
abbrev eV (E : Int) : Value := .iface 30 (.int .i64 E)
theorem inv_undo {C : Cf} (hC : CfOk C) {N : Nat} {x : X} (h : Inv C N x) : ∀ e ∈ x.nd.p, B.mwf e.m ∧ e.os.length ≤ 64 ∧ ∀ o ∈ e.os, 0 ≤ o.2.1 ∧ o.2.1 < (C.n : Int) := fun e he => by
 obtain ⟨g1, _, g3, g4⟩ := h.pm hC e he
 exact ⟨g1, by omega, g4⟩
theorem plain_und {x : W.Nd} (h : W.SrtM (x.p.map A.P.m ++ x.q)) {m : Mg} (hp : hasP x.p m.1 = false) (hq : Q.hasK x.q m.1 = false) :
  Q.hasK (undN m.1 x).q m.1 = false ∧ ({ undN m.1 x with q := Q.ins (undN m.1 x).q m } : W.Nd) = W.plain m x := by
 have e1 : (undN m.1 x).q = (W.undo m.1 x).q := undQ_plain h hp
 have e2 := undo_q h m.1
 have hn : ∀ y ∈ (undN m.1 x).q, y.1 ≠ m.1 := fun y hy => by
  rw [e1, e2] at hy
  rcases List.mem_append.1 hy with g | g
  ·obtain ⟨e, he, rfl⟩ := List.mem_map.1 g
   exact hasP_no hp e (mem_fil he)
  ·exact hasK_no hq y g
 have hs : W.SrtM (undN m.1 x).q := by
  rw [e1, e2]
  exact List.Pairwise.sublist (List.Sublist.append (List.Sublist.map _ List.filter_sublist) (List.Sublist.refl _)) h
 refine ⟨?_, ?_⟩
 ·cases g : Q.hasK (undN m.1 x).q m.1
  ·rfl
  ·obtain ⟨y, hy, e⟩ := hasK_iff.1 g
   exact absurd e (hn y hy)
 ·rw [srt_ins hs hn]
  show ({ undN m.1 x with q := W.insM m (undN m.1 x).q } : W.Nd) = { W.undo m.1 x with q := W.insM m (W.undo m.1 x).q }
  rw [e1]
  rfl
theorem und_len {x : W.Nd} {k : Kg} : (undN k x).q.length = beh x.p k + x.q.length := undQ_all_len
set_option maxHeartbeats 2000000 in
theorem nletWait {w0 : World} {D : Wd} {f : Nat} {x : X} {Z : Ad} {F : Nat → Nat → Prop} {v : Value} {w : World} {N : Nat} (h : WM w0 D f x x.fl Z F v w) (hC : CfOk (cf D f)) (hI : Inv (cf D f) N x) (m : Mg) (hm : B.mwf m) :
  Calls Tryz.prog 150 #[.pointer (some ⟨Z.nb, 0, none⟩), B.mv m] w (if Q.hasK x.nd.q m.1 = true ∨ hasP x.nd.p m.1 = true then HPo w0 D f Z F v w x [] (eV 3) else if 64 < x.nd.q.length + beh x.nd.p m.1 + 1 then HPo w0 D f Z F v w x [] (eV 2) else HPo w0 D f Z F v w { x with nd := W.plain m x.nd } (itm 1 (W.antis (fe D f) m.1 x.nd)) .nilIface) := by
 have mixed : Tryz.prog.follows .mixedOrders = true := by kernel_rfl
 have hpl := h.pa.cap
 have hql := hI.ql
 obtain ⟨⟨k1, k2, k3⟩, m4, m5, m6⟩ := m
 obtain ⟨W0, hW0⟩ : ∃ W0, W0 = w.alloc (.cells #[.int .i64 k1, .int .i64 k2, .int .i64 k3, .int .i64 m4, .int .i64 m5, .int .i64 m6] 39) := ⟨_, rfl⟩
 have hb0 : Below w.heap.size w W0 := by rw [hW0]; exact B.al _ _
 have bx : W0.heap[w.heap.size]? = some (.cells #[.int .i64 k1, .int .i64 k2, .int .i64 k3, .int .i64 m4, .int .i64 m5, .int .i64 m6] 39 (0, 0)) := by rw [hW0]; exact G.newB _ _
 obtain ⟨q, hq⟩ : ∃ q, w.heap.size = q := ⟨_, rfl⟩
 have nq : ¬ tot F q := fun g => by have := h.lt _ g; omega
 rw [hq] at bx
 have lq : q < W0.heap.size := (Array.getElem?_eq_some_iff.1 bx).1
 have HB0 : Hid (Below w.heap.size w W0) := hb0
 have HH : Hid (WM w0 D f x x.fl Z F v w) := h
 have hwm0 := h.below hb0
 have HC : Hid (∀ W, Below W0.heap.size W0 W → Calls Tryz.prog 184 #[.pointer (some ⟨Z.nb, 0, none⟩), .agg #[.int .i64 k1, .int .i64 k2, .int .i64 k3]] W fun e w' => e = .returned (.bool (Q.hasK x.nd.q (k1, k2, k3))) ∧ Below W.heap.size W w') := fun W hW => nwaits (hwm0.below hW) hql (k1, k2, k3)
 have HT : Hid (∀ W, Below W0.heap.size W0 W → Calls Tryz.prog 181 #[.pointer (some ⟨Z.nb, 0, none⟩), .agg #[.int .i64 k1, .int .i64 k2, .int .i64 k3]] W fun e w' => e = .returned (.bool (hasP x.nd.p (k1, k2, k3))) ∧ Below W.heap.size W w') := fun W hW => nwasTaken (hwm0.below hW) hpl (k1, k2, k3)
 have HCL : Hid (∀ W, Below W0.heap.size W0 W → q < W.heap.size ∧ W.cell? ⟨q, 0, none⟩ = some (.int .i64 k1) ∧ W.cell? ⟨q, 1, none⟩ = some (.int .i64 k2) ∧ W.cell? ⟨q, 2, none⟩ = some (.int .i64 k3) ∧ W.cell? ⟨Z.nb, 6, none⟩ = some (.pointer (some ⟨Z.qb, 0, none⟩))) := fun W hW => by
  have g := (hW.block q lq).trans bx
  exact ⟨Nat.lt_of_lt_of_le lq hW.size, cellB g 0, cellB g 1, cellB g 2, (hwm0.below hW).cells.2.2.2.2.2.2.1⟩
 have c0 := HCL.out W0 (Below.refl _ _)
 obtain ⟨_, c0, c1, c2, _⟩ := c0
 rw [hW0] at c0 c1 c2
 dsimp only [B.mv]
 cases hhq : Q.hasK x.nd.q (k1, k2, k3)
 case true =>
  rw [if_pos (Or.inl rfl)]
  have C1 := HC.out W0 (Below.refl _ _)
  rw [hhq, hW0] at C1
  clear h hwm0 bx hhq
  go_enter Tryz.func150, Tryz.ntmps150
  go_wp2_with (go_at_call 184; refine C1.mono ?_; rintro e w1 ⟨rfl, hb1⟩; rw [← hW0] at hb1; have HB1 : Hid _ := hb1; clear hb1 C1)
  go_ret2
  exact HPo.no HH.out (HB0.out.trans (HB1.out.mono HB0.out.size))
 case false =>
  have C1 := HC.out W0 (Below.refl _ _)
  rw [hhq] at C1
  rw [hW0] at C1
  cases hhp : hasP x.nd.p (k1, k2, k3)
  case true =>
   rw [if_pos (Or.inr rfl)]
   rw [hhp] at HT
   clear h hwm0 bx hhp
   go_enter Tryz.func150, Tryz.ntmps150
   go_wp2_with (first
    | (go_at_call 184; refine C1.mono ?_; rintro e w1 ⟨rfl, hb1⟩; rw [← hW0] at hb1; obtain ⟨lq1, d0, d1, d2, d6⟩ := Hid.out HCL _ hb1; have HB1 : Hid _ := hb1; clear hb1 C1)
    | (go_at_call 181; refine (Hid.out HT _ (Hid.out HB1)).mono ?_; rintro e w2 ⟨rfl, hb2⟩; have HB2 : Hid _ := (Hid.out HB1).trans (hb2.mono (Hid.out HB1).size); clear hb2))
   go_ret2
   exact HPo.no HH.out (HB0.out.trans (HB2.out.mono HB0.out.size))
  case false =>
   rw [if_neg (by simp)]
   rw [hhp] at HT
   have HLN : Hid (∀ W, Below W0.heap.size W0 W → Calls Tryz.prog 109 #[.pointer (some ⟨Z.qb, 0, none⟩)] W.drew fun e w' => e = .returned (.int .i64 x.nd.q.length) ∧ Below W.heap.size W w') := fun W hW => (Q.qlen_any ((hwm0.below hW).below (below_drew W)).qu).mono fun e w' ⟨h1, h2⟩ => ⟨h1, by rw [h2]; exact below_drew W⟩
   have HBE : Hid (∀ W, Below W0.heap.size W0 W → Calls Tryz.prog 182 #[.pointer (some ⟨Z.nb, 0, none⟩), .agg #[.int .i64 k1, .int .i64 k2, .int .i64 k3]] W fun e w' => e = .returned (.int .i64 (beh x.nd.p (k1, k2, k3))) ∧ Below W.heap.size W w') := fun W hW => nbehind (hwm0.below hW) hpl (k1, k2, k3)
   have hbl := beh_le x.nd.p (k1, k2, k3)
   obtain ⟨nb', hnb'⟩ : ∃ t, beh x.nd.p (k1, k2, k3) = t := ⟨_, rfl⟩
   obtain ⟨nq', hnq'⟩ : ∃ t, x.nd.q.length = t := ⟨_, rfl⟩
   rw [hnb'] at HBE hbl
   rw [hnq'] at HLN hql
   rw [hnq', hnb']
   have hb64 : nb' ≤ 64 := by omega
   have HKB : Hid (∀ W, Below W0.heap.size W0 W → W.cell? ⟨Z.nb, 6, none⟩ = some (.pointer (some ⟨Z.qb, 0, none⟩)) ∧ W.cell? ⟨q, 0, none⟩ = some (.int .i64 k1) ∧ W.cell? ⟨q, 1, none⟩ = some (.int .i64 k2) ∧ W.cell? ⟨q, 2, none⟩ = some (.int .i64 k3)) := fun W hW => by
    obtain ⟨_, g0, g1, g2, g6⟩ := HCL.out W hW
    exact ⟨g6, g0, g1, g2⟩
   obtain ⟨s0, hs0⟩ : ∃ s0 : Int, (nq' : Int) + (nb' : Int) = s0 := ⟨_, rfl⟩
   obtain ⟨s1, hs1⟩ : ∃ s1 : Int, s0 + 1 = s1 := ⟨_, rfl⟩
   have ws0 : IntKind.i64.wrap s0 = s0 := by rw [IntKind.wrap_i64]; omega
   have ws1 : IntKind.i64.wrap s1 = s1 := by rw [IntKind.wrap_i64]; omega
   by_cases hfull : 64 < nq' + nb' + 1
   ·rw [if_pos hfull]
    have hfull' : (64 : Int) < s1 := by omega
    clear h hwm0 bx hhp hhq
    go_enter Tryz.func150, Tryz.ntmps150
    go_wp2_with (first
     | (go_at_call 184; refine C1.mono ?_; rintro e w1 ⟨rfl, hb1⟩; rw [← hW0] at hb1; obtain ⟨lq1, d0, d1, d2, d6⟩ := Hid.out HCL _ hb1; have HB1 : Hid _ := hb1; clear hb1 C1)
     | (go_at_call 181; refine (Hid.out HT _ (Hid.out HB1)).mono ?_; rintro e w2 ⟨rfl, hb2⟩; have hb2' := (Hid.out HB1).trans (hb2.mono (Hid.out HB1).size); obtain ⟨lq2, x0, x1, x2, x6⟩ := Hid.out HCL _ hb2'; have HB2 : Hid _ := hb2'; clear hb2 hb2'))
    try simp only [hq]
    clear d0 d1 d2 d6 c0 c1 c2
    go_region_held3 (fun w' => w'.cell? ⟨Z.nb, 6, none⟩ = some (.pointer (some ⟨Z.qb, 0, none⟩)) ∧ w'.cell? ⟨q, 0, none⟩ = some (.int .i64 k1) ∧ w'.cell? ⟨q, 1, none⟩ = some (.int .i64 k2) ∧ w'.cell? ⟨q, 2, none⟩ = some (.int .i64 k3)) (first | (go_keep; done) | exact Hid.out KEEP2 | exact Hid.out KEEP) (first
     | (go_at_call 109; refine (Hid.out HLN _ (Hid.out HB2)).mono ?_; rintro e w3 ⟨rfl, hb3⟩; have hb3' := (Hid.out HB2).trans (hb3.mono (Hid.out HB2).size); have KEEP : Hid _ := Hid.out HKB _ hb3'; have HB3 : Hid _ := hb3'; clear hb3 hb3')
     | (go_at_call 182; refine (Hid.out HBE _ (Hid.out HB3)).mono ?_; rintro e w4 ⟨rfl, hb4⟩; have hb4' := (Hid.out HB3).trans (hb4.mono (Hid.out HB3).size); have KEEP2 : Hid _ := Hid.out HKB _ hb4'; have HB4 : Hid _ := hb4'; clear hb4 hb4'))
    go_wp2
    go_ret2
    exact HPo.no HH.out (HB0.out.trans (HB4.out.mono HB0.out.size))
   ·rw [if_neg hfull]
    have hfull' : ¬ (64 : Int) < s1 := by omega
    have hund := plain_und hI.srt (m := ((k1, k2, k3), m4, m5, m6)) hhp hhq
    obtain ⟨L, hL⟩ : ∃ L, itm 1 (W.antis (fe D f) (k1, k2, k3) x.nd) = L := ⟨_, rfl⟩
    have HUN : Hid (∀ W, Below W0.heap.size W0 W → Calls Tryz.prog 183 #[.pointer (some ⟨Z.nb, 0, none⟩), .agg #[.int .i64 k1, .int .i64 k2, .int .i64 k3]] W fun e w' => ∃ F' a' n' c', e = .returned (.slice a' n' c') ∧ WM w0 D f { x with nd := undN (k1, k2, k3) x.nd } x.fl Z F' v w' ∧ Mw (tot F) (tot F') W0 w' ∧ B.OwR G.cI 41 w' (.slice a' n' c') L ∧ ∀ b, (Value.slice a' n' c').ownBlock = some b → w.heap.size ≤ b ∧ ¬ tot F' b) := fun W hW => by
     rw [← hL]
     refine (nundo (hwm0.below hW) (k1, k2, k3) hI.srt (inv_undo hC hI) hpl (by omega)).mono fun e w' ⟨F', a', n', c', h1, h2, h3, h4, h5⟩ => ⟨F', a', n', c', h1, h2, (B.Mw.below hW).trans h3, h4, fun b g => ⟨?_, (h5 b g).2⟩⟩
     exact Nat.le_trans (Nat.le_trans HB0.out.size hW.size) (h5 b g).1
    have HQX : Hid (∀ W F', Mw (tot F) (tot F') W0 W → q < W.heap.size ∧ ¬ tot F' q ∧ W.heap[q]? = some (.cells #[.int .i64 k1, .int .i64 k2, .int .i64 k3, .int .i64 m4, .int .i64 m5, .int .i64 m6] 39 (0, 0))) := fun W F' hm => by
     obtain ⟨g1, g2, g3⟩ := hm.stay lq nq
     exact ⟨g3, g2, g1.trans bx⟩
    have HUL : Hid ((undN (k1, k2, k3) x.nd).q.length < 64) := by
     show _ < 64
     rw [und_len, hnb', hnq']
     omega
    have HUD : Hid (Q.hasK (undN (k1, k2, k3) x.nd).q (k1, k2, k3) = false ∧ ({ undN (k1, k2, k3) x.nd with q := Q.ins (undN (k1, k2, k3) x.nd).q ((k1, k2, k3), m4, m5, m6) } : W.Nd) = W.plain ((k1, k2, k3), m4, m5, m6) x.nd) := hund
    have HMW : Hid (B.mwf ((k1, k2, k3), m4, m5, m6)) := hm
    rw [hL]
    clear h hwm0 bx hhp hhq hund hL hm
    go_enter Tryz.func150, Tryz.ntmps150
    go_wp2_with (first
     | (go_at_call 184; refine C1.mono ?_; rintro e w1 ⟨rfl, hb1⟩; rw [← hW0] at hb1; obtain ⟨lq1, d0, d1, d2, d6⟩ := Hid.out HCL _ hb1; have HB1 : Hid _ := hb1; clear hb1 C1)
     | (go_at_call 181; refine (Hid.out HT _ (Hid.out HB1)).mono ?_; rintro e w2 ⟨rfl, hb2⟩; have hb2' := (Hid.out HB1).trans (hb2.mono (Hid.out HB1).size); obtain ⟨lq2, x0, x1, x2, x6⟩ := Hid.out HCL _ hb2'; have HB2 : Hid _ := hb2'; clear hb2 hb2'))
    try simp only [hq]
    clear d0 d1 d2 d6 c0 c1 c2
    go_region_held3 (fun w' => w'.cell? ⟨Z.nb, 6, none⟩ = some (.pointer (some ⟨Z.qb, 0, none⟩)) ∧ w'.cell? ⟨q, 0, none⟩ = some (.int .i64 k1) ∧ w'.cell? ⟨q, 1, none⟩ = some (.int .i64 k2) ∧ w'.cell? ⟨q, 2, none⟩ = some (.int .i64 k3)) (first | (go_keep; done) | exact Hid.out KEEP2 | exact Hid.out KEEP) (first
     | (go_at_call 109; refine (Hid.out HLN _ (Hid.out HB2)).mono ?_; rintro e w3 ⟨rfl, hb3⟩; have hb3' := (Hid.out HB2).trans (hb3.mono (Hid.out HB2).size); have KEEP : Hid _ := Hid.out HKB _ hb3'; have HB3 : Hid _ := hb3'; clear hb3 hb3')
     | (go_at_call 182; refine (Hid.out HBE _ (Hid.out HB3)).mono ?_; rintro e w4 ⟨rfl, hb4⟩; have hb4' := (Hid.out HB3).trans (hb4.mono (Hid.out HB3).size); have KEEP2 : Hid _ := Hid.out HKB _ hb4'; have HB4 : Hid _ := hb4'; clear hb4 hb4'))
    obtain ⟨y6, y0, y1, y2⟩ := KEEP2.out
    have lq4 := (HCL.out _ HB4.out).1
    clear x0 x1 x2 x6 KEEP
    go_wp2_with (go_at_call 183; refine (Hid.out HUN _ (Hid.out HB4)).mono ?_; rintro e w5 ⟨F5, a5, n5, c5, rfl, h5, m5', o5, r5⟩; have HW5 : Hid _ := h5; have HM5 : Hid _ := m5'; have HO5 : Hid (B.OwR G.cI 41 w5 (.slice a5 n5 c5) L) := o5; have HR5 : Hid _ := r5; obtain ⟨lq5, _, bq5⟩ := Hid.out HQX w5 F5 m5'; have z6 := h5.cells.2.2.2.2.2.2.1; have z0 := cellB bq5 0; have z1 := cellB bq5 1; have z2 := cellB bq5 2; have z3 := cellB bq5 3; have z4 := cellB bq5 4; have z5 := cellB bq5 5; simp only [List.getElem?_toArray, List.getElem?_cons_zero, List.getElem?_cons_succ] at z0 z1 z2 z3 z4 z5; clear h5 m5' o5 r5 bq5 HUN)
    have HPS : Hid (Calls Tryz.prog 185 #[.pointer (some ⟨Z.qb, 0, none⟩), .agg #[.int .i64 k1, .int .i64 k2, .int .i64 k3, .int .i64 m4, .int .i64 m5, .int .i64 m6]] w5.drew fun e w6 => ∃ F6, e = .returned (.int .i64 0) ∧ (WM w0 D f { x with nd := W.plain ((k1, k2, k3), m4, m5, m6) x.nd } x.fl Z F6 v w6 ∧ Mw (tot F5) (tot F6) w5 w6) ∧ w6.cell? ⟨Z.nb, 6, none⟩ = some (.pointer (some ⟨Z.qb, 0, none⟩)) ∧ w6.cell? ⟨q, 0, none⟩ = some (.int .i64 k1) ∧ w6.cell? ⟨q, 1, none⟩ = some (.int .i64 k2) ∧ w6.cell? ⟨q, 2, none⟩ = some (.int .i64 k3) ∧ w6.cell? ⟨q, 3, none⟩ = some (.int .i64 m4) ∧ w6.cell? ⟨q, 4, none⟩ = some (.int .i64 m5) ∧ w6.cell? ⟨q, 5, none⟩ = some (.int .i64 m6)) := by
     refine ((HW5.out.below (below_drew w5)).push ((k1, k2, k3), m4, m5, m6) HMW.out HUD.out.1 HUL.out).mono fun e w6 ⟨F6, h1, h2, h3, h4, h5⟩ => ?_
     have hx : qX { x with nd := undN (k1, k2, k3) x.nd } (Q.ins ({ x with nd := undN (k1, k2, k3) x.nd } : X).nd.q ((k1, k2, k3), m4, m5, m6)) = { x with nd := W.plain ((k1, k2, k3), m4, m5, m6) x.nd } := by
      rw [← HUD.out.2]
     rw [hx] at h2
     have h3' : Mw (tot F5) (tot F6) w5 w6 := (B.Mw.below (below_drew w5)).trans h3
     obtain ⟨_, _, bq6⟩ := HQX.out w6 F6 (HM5.out.trans h3')
     exact ⟨F6, h1, ⟨h2, h3'⟩, h2.cells.2.2.2.2.2.2.1, cellB bq6 0, cellB bq6 1, cellB bq6 2, cellB bq6 3, cellB bq6 4, cellB bq6 5⟩
    go_region_held3 (fun w' => w'.cell? ⟨Z.nb, 6, none⟩ = some (.pointer (some ⟨Z.qb, 0, none⟩)) ∧ w'.cell? ⟨q, 0, none⟩ = some (.int .i64 k1) ∧ w'.cell? ⟨q, 1, none⟩ = some (.int .i64 k2) ∧ w'.cell? ⟨q, 2, none⟩ = some (.int .i64 k3) ∧ w'.cell? ⟨q, 3, none⟩ = some (.int .i64 m4) ∧ w'.cell? ⟨q, 4, none⟩ = some (.int .i64 m5) ∧ w'.cell? ⟨q, 5, none⟩ = some (.int .i64 m6)) (first | (go_keep; done) | exact Hid.out KEEP6) (first
     | (go_at_call 185; refine (Hid.out HPS).mono ?_; rintro e w6 ⟨F6, rfl, hw6, hk6⟩; have KEEP6 : Hid _ := hk6; have HW6 : Hid _ := hw6; clear hw6 hk6 HPS))
    go_wp2
    go_ret2
    refine ⟨F6, a5, n5, c5, rfl, HW6.out.1, ((B.Mw.below HB0.out).trans HM5.out).trans HW6.out.2, ?_, fun b g => ?_⟩
    ·exact HO5.out.keep HW6.out.2.fr (fun b g => (HR5.out b g).2)
    ·exact ⟨(HR5.out b g).1, fun t => (HR5.out b g).2 (HW6.out.2.new b (HO5.out.lt g) t)⟩
end Go.Proofs.YtiaopafkfadmkaaGreat.V
