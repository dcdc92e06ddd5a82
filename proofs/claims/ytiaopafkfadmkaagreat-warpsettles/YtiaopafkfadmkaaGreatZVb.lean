/- Joined: the texts that follow, each with its own sentence. -/
import Derived.Test.YtiaopafkfadmkaaGreatZVa
import Derived.Test.YtiaopafkfadmkaaGreatZJg
import Derived.Test.YtiaopafkfadmkaaGreatZQc
import Derived.Test.YtiaopafkfadmkaaGreatZTm
import Derived.Test.YtiaopafkfadmkaaGreatZAb
import Derived.Test.YtiaopafkfadmkaaGreatZGf
import Derived.Deep.RegionHeld3
set_option linter.unusedVariables false
set_option maxRecDepth 100000
namespace Go.Proofs.YtiaopafkfadmkaaGreat.V
open Go.RowKit Go.Shelf
abbrev Fr := @Go.Proofs.YtiaopafkfadmkaaGreat.B.Fr
abbrev Mw := @Go.Proofs.YtiaopafkfadmkaaGreat.B.Mw
def tot (F : Nat → Nat → Prop) (k : Nat) : Prop := ∃ i, F i k
def upF (F : Nat → Nat → Prop) (i : Nat) (P : Nat → Prop) : Nat → Nat → Prop := fun j => if j = i then P else F j
theorem upF_at (F : Nat → Nat → Prop) (i : Nat) (P : Nat → Prop) : upF F i P i = P := by simp [upF]
theorem upF_out (F : Nat → Nat → Prop) {i j : Nat} (P : Nat → Prop) (h : j ≠ i) : upF F i P j = F j := by simp [upF, h]
theorem upF_self (F : Nat → Nat → Prop) (i : Nat) : upF F i (F i) = F := by
 funext j
 by_cases h : j = i
 ·subst h; simp [upF]
 ·simp [upF, h]
structure Sep (w0 : World) (F : Nat → Nat → Prop) (W : World) : Prop where
 dj : ∀ i j k, F i k → F j k → i = j
 lt : ∀ i k, F i k → k < W.heap.size
 lo : ∀ i k, F i k → w0.heap.size ≤ k
 bel : Below w0.heap.size w0 W
theorem Sep.upd {w0 : World} {F : Nat → Nat → Prop} {W W' : World} (h : Sep w0 F W) {i : Nat} {P : Nat → Prop} (hm : Mw (F i) P W W') (hP : ∀ k, P k → k < W'.heap.size) : Sep w0 (upF F i P) W' ∧ Mw (tot F) (tot (upF F i P)) W W' := by
 have hs := hm.fr.size
 have key : ∀ k j, P k → F j k → j = i := fun k j p f => h.dj j i k f (hm.new k (h.lt j k f) p)
 refine ⟨⟨fun a b k ha hb => ?_, fun a k ha => ?_, fun a k ha => ?_, h.bel.trans (hm.fr.below h.bel.size (fun k g => h.lo i k g))⟩, ⟨hm.fr.wide (fun k g => ⟨i, g⟩), fun k hk ⟨a, ha⟩ => ?_⟩⟩
 ·by_cases ea : a = i
  ·by_cases eb : b = i
   ·rw [ea, eb]
   ·rw [ea, upF_at] at ha
    rw [upF_out F P eb] at hb
    exact absurd (key k b ha hb) eb
  ·rw [upF_out F P ea] at ha
   by_cases eb : b = i
   ·rw [eb, upF_at] at hb
    exact absurd (key k a hb ha) ea
   ·rw [upF_out F P eb] at hb
    exact h.dj a b k ha hb
 ·by_cases ea : a = i
  ·rw [ea, upF_at] at ha
   exact hP k ha
  ·rw [upF_out F P ea] at ha
   exact Nat.lt_of_lt_of_le (h.lt a k ha) hs
 ·by_cases ea : a = i
  ·rw [ea, upF_at] at ha
   rcases Nat.lt_or_ge k W.heap.size with g | g
   ·exact h.lo i k (hm.new k g ha)
   ·exact Nat.le_trans h.bel.size g
  ·rw [upF_out F P ea] at ha
   exact h.lo a k ha
 ·by_cases ea : a = i
  ·rw [ea, upF_at] at ha
   exact ⟨i, hm.new k hk ha⟩
  ·rw [upF_out F P ea] at ha
   exact ⟨a, ha⟩
theorem Sep.keep {w0 : World} {F : Nat → Nat → Prop} {S : Nat → Prop} {W W' : World} (h : Sep w0 F W) (hf : Fr S W W') (h0 : ∀ k, S k → w0.heap.size ≤ k) : Sep w0 F W' :=
 ⟨h.dj, fun i k g => Nat.lt_of_lt_of_le (h.lt i k g) hf.size, h.lo, h.bel.trans (hf.below h.bel.size h0)⟩
theorem Sep.ne {w0 : World} {F : Nat → Nat → Prop} {W : World} (h : Sep w0 F W) {i j : Nat} (hij : i ≠ j) {k : Nat} (hi : F i k) : ¬ F j k := fun hj => hij (h.dj i j k hi hj)
theorem toQ {S : Nat → Prop} {a b : World} (h : Fr S a b) : Q.Fr S a b := ⟨h.os, h.tape, h.output, h.size, h.block⟩
theorem ofQ {S : Nat → Prop} {a b : World} (h : Q.Fr S a b) : Fr S a b := ⟨h.os, h.tape, h.output, h.size, h.block⟩
theorem toC {S : Nat → Prop} {a b : World} (h : Fr S a b) : Go.Proofs.YtiaopafkfadmkaaGreat.C.Fr S a b := ⟨h.os, h.tape, h.output, h.size, h.block⟩
theorem ofC {S : Nat → Prop} {a b : World} (h : Go.Proofs.YtiaopafkfadmkaaGreat.C.Fr S a b) : Fr S a b := ⟨h.os, h.tape, h.output, h.size, h.block⟩
theorem frB (W : World) (b i : Nat) (u : Value) : Fr (fun k => k = b) W (W.setCell ⟨b, i, none⟩ u) := (B.Fr.refl _ W).setCell _ _ (Or.inl rfl)
theorem cellB {W : World} {b : Nat} {cs : Array Value} {T : TypeId} {fz : Nat × Nat} (h : W.heap[b]? = some (.cells cs T fz)) (i : Nat) : W.cell? ⟨b, i, none⟩ = cs[i]? := by simp [World.cell?, h]
theorem mask_on {K : Nat → Bool} {W W2 : World} {D : Wd} (h : Ww (mask (fun k => !K k) W) D) (hs : W.heap.size ≤ W2.heap.size) (hk : ∀ k, k < W.heap.size → K k = true → W2.heap[k]? = W.heap[k]?) : Ww (mask (fun k => !K k) W2) D :=
 h.sub (sub_mask hs (fun k hl hS => ⟨hS, hk k hl (by simpa using hS)⟩))
theorem below_drew (W : World) : Below W.heap.size W W.drew := ⟨rfl, rfl, rfl, Nat.le_refl _, fun _ _ => rfl⟩
def PT (Fp : Nat → Prop) (W : World) (fl : Int) (L : List En) (b : Nat) : Prop := (∀ k, Fp k → k < W.heap.size) ∧ ∃ v, A.PP (fun k => k < W.heap.size ∧ ¬ Fp k) W fl L b v
theorem PT.keep {S Fp : Nat → Prop} {W W' : World} {fl : Int} {L : List En} {b : Nat} (h : PT Fp W fl L b) (hf : Fr S W W') (hS : ∀ k, Fp k → ¬ S k) : PT Fp W' fl L b := by
 obtain ⟨h1, v, h2⟩ := h
 have hf2 : Fr (fun k => S k ∧ k < W.heap.size) W W' := ⟨hf.os, hf.tape, hf.output, hf.size, fun k hk hn => hf.block k hk (fun g => hn ⟨g, hk⟩)⟩
 exact ⟨fun k g => Nat.lt_of_lt_of_le (h1 k g) hf.size, v, h2.keep hf2 (fun k g => ⟨g.2, fun e => hS k e g.1⟩) (fun k hk g => ⟨hk, g.2⟩) (fun k g => g.1)⟩
theorem PT.after {Fp : Nat → Prop} {w w' : World} {fl fl' : Int} {L L' : List En} {b : Nat} {v v' : Value} (hF : ∀ k, Fp k → k < w.heap.size) (h : A.PP (fun k => k < w.heap.size ∧ ¬ Fp k) w fl L b v) (h' : A.PP (fun k => k < w.heap.size ∧ ¬ Fp k) w' fl' L' b v') (hm : Mw (A.D b v) (A.D b v') w w') :
  PT (fun k => k < w'.heap.size ∧ (Fp k ∨ w.heap.size ≤ k)) w' fl' L' b ∧ Mw Fp (fun k => k < w'.heap.size ∧ (Fp k ∨ w.heap.size ≤ k)) w w' := by
 have hs := hm.fr.size
 have e : (fun k => k < w.heap.size ∧ ¬ Fp k) = fun k => k < w'.heap.size ∧ ¬ (k < w'.heap.size ∧ (Fp k ∨ w.heap.size ≤ k)) := by
  funext k
  refine propext ⟨fun g => ⟨by omega, fun g2 => ?_⟩, fun g => ?_⟩
  ·rcases g2.2 with g3 | g3
   ·exact g.2 g3
   ·omega
  ·rcases Nat.lt_or_ge k w.heap.size with g3 | g3
   ·exact ⟨g3, fun g4 => g.2 ⟨g.1, .inl g4⟩⟩
   ·exact absurd ⟨g.1, .inr g3⟩ g.2
 obtain ⟨l, el, hq, hsrt⟩ := h
 have hD : ∀ k, A.D b v k → Fp k := fun k g => Classical.byContradiction fun hn => hq.dx g ⟨hq.dlt g, hn⟩
 refine ⟨⟨fun k g => g.1, v', by rw [← e]; exact h'⟩, ⟨hm.fr.wide hD, fun k hk g => ?_⟩⟩
 rcases g.2 with g3 | g3
 ·exact g3
 ·omega
def GT (Fp : Nat → Prop) (W : World) (fl : Int) (L : List Hg) (b : Nat) : Prop := (∀ k, Fp k → k < W.heap.size) ∧ ∃ v, G.GQ (fun _ => False) W fl L b v ∧ ∀ k, G.D b v k → Fp k
theorem GT.keep {S Fp : Nat → Prop} {W W' : World} {fl : Int} {L : List Hg} {b : Nat} (h : GT Fp W fl L b) (hf : Fr S W W') (hS : ∀ k, Fp k → ¬ S k) : GT Fp W' fl L b := by
 obtain ⟨h1, v, h2, h3⟩ := h
 exact ⟨fun k g => Nat.lt_of_lt_of_le (h1 k g) hf.size, v, h2.keep hf (fun k g d => hS k (h3 k d) g) (fun k _ g => g.elim) (fun k g => g.elim), h3⟩
theorem GT.after {Fp : Nat → Prop} {w w' : World} {fl' : Int} {L' : List Hg} {b : Nat} {v v' : Value} (hF : ∀ k, Fp k → k < w.heap.size) (hD : ∀ k, G.D b v k → Fp k) (h' : G.GQ (fun _ => False) w' fl' L' b v') (hm : Mw (G.D b v) (G.D b v') w w') :
  GT (fun k => Fp k ∨ G.D b v' k) w' fl' L' b ∧ Mw Fp (fun k => Fp k ∨ G.D b v' k) w w' := by
 have hs := hm.fr.size
 refine ⟨⟨fun k g => ?_, v', h', fun k g => .inr g⟩, ⟨hm.fr.wide hD, fun k hk g => ?_⟩⟩
 ·rcases g with g | g
  ·exact Nat.lt_of_lt_of_le (hF k g) hs
  ·exact h'.dlt g
 ·rcases g with g | g
  ·exact g
  ·exact hD k (hm.new k hk g)
end Go.Proofs.YtiaopafkfadmkaaGreat.V
namespace Go.Proofs.YtiaopafkfadmkaaGreat.V
theorem mem_fil {α : Type} {p : α → Bool} {l : List α} {a : α} (h : a ∈ l.filter p) : a ∈ l := (List.mem_filter.1 h).1
def noK (k : Kg) (l : List Mg) : List Mg := l.filter (fun m => decide (m.1 ≠ k))
def undQ (k : Kg) (b : List En) (q : List Mg) (j : Nat) : List Mg := noK k ((b.take j).reverse.map A.P.m) ++ q
def gonK (k : Kg) (p : List En) : List En := (p.filter (fun x => !A.bef k x)).reverse
theorem gonK_rev (k : Kg) (p : List En) : (gonK k p).reverse = p.filter (fun e => !klt e.m.1 k) := by
 unfold gonK
 rw [List.reverse_reverse]
 rfl
theorem ins_front {m : Mg} {l : List Mg} (hs : W.SrtM l) (h : ∀ y ∈ l, klt m.1 y.1 = true) : Q.ins l m = m :: l := by
 have hn : ∀ y ∈ l, y.1 ≠ m.1 := fun y hy e => by
  have := h y hy
  rw [e] at this
  exact absurd this (by simp [klt, B.klt_irrefl])
 rw [srt_ins hs hn, W.insM_front h]
theorem undQ_succ {k : Kg} {b : List En} {q : List Mg} {j : Nat} (hj : j < b.length) : undQ k b q (j + 1) = if (b[j]).m.1 ≠ k then (b[j]).m :: undQ k b q j else undQ k b q j := by
 unfold undQ noK
 rw [List.take_succ_eq_append_getElem hj, List.reverse_append, List.reverse_singleton, List.map_append, List.filter_append]
 by_cases e : (b[j]).m.1 = k
 ·simp [e]
 ·simp [e]
theorem undQ_srt {k : Kg} {p : List En} {q : List Mg} (h : W.SrtM (p.map A.P.m ++ q)) {b : List En} (hb : b = gonK k p) (j : Nat) : W.SrtM (((b.take j).reverse.map A.P.m) ++ q) := by
 have e1 : (b.take j).reverse = b.reverse.drop (b.length - j) := by
  rw [List.drop_reverse]
  congr 1
  by_cases g : j ≤ b.length
  ·rw [show b.length - (b.length - j) = j by omega]
  ·rw [show b.length - (b.length - j) = b.length by omega, List.take_of_length_le (Nat.le_refl _), List.take_of_length_le (by omega)]
 have s1 : List.Sublist (((b.take j).reverse.map A.P.m) ++ q) (p.map A.P.m ++ q) := by
  refine List.Sublist.append (List.Sublist.map _ ?_) (List.Sublist.refl _)
  rw [e1, hb, gonK_rev]
  exact (List.drop_sublist _ _).trans List.filter_sublist
 exact List.Pairwise.sublist s1 h
theorem undQ_sub (k : Kg) (b : List En) (q : List Mg) (j : Nat) : List.Sublist (undQ k b q j) (((b.take j).reverse.map A.P.m) ++ q) := List.Sublist.append List.filter_sublist (List.Sublist.refl _)
theorem undQ_push {k : Kg} {p : List En} {q : List Mg} (h : W.SrtM (p.map A.P.m ++ q)) {b : List En} (hb : b = gonK k p) {j : Nat} (hj : j < b.length) (hne : (b[j]).m.1 ≠ k) :
  Q.hasK (undQ k b q j) (b[j]).m.1 = false ∧ Q.ins (undQ k b q j) (b[j]).m = undQ k b q (j + 1) := by
 have s1 := undQ_srt h hb (j + 1)
 have s0 : W.SrtM (undQ k b q j) := List.Pairwise.sublist (undQ_sub k b q j) (undQ_srt h hb j)
 rw [List.take_succ_eq_append_getElem hj, List.reverse_append, List.reverse_singleton, List.map_append, List.append_assoc] at s1
 have s2 := List.pairwise_cons.1 s1
 have hlt : ∀ y ∈ undQ k b q j, klt (b[j]).m.1 y.1 = true := fun y hy => s2.1 y ((undQ_sub k b q j).subset hy)
 refine ⟨?_, by rw [undQ_succ hj, if_pos hne, ins_front s0 hlt]⟩
 cases e : Q.hasK (undQ k b q j) (b[j]).m.1
 ·rfl
 ·obtain ⟨y, hy, e2⟩ := hasK_iff.1 e
  have := hlt y hy
  rw [e2] at this
  exact absurd this (by simp [klt, B.klt_irrefl])
theorem undo_q {x : W.Nd} (h : W.SrtM (x.p.map A.P.m ++ x.q)) (k : Kg) : (W.undo k x).q = (x.p.filter (fun e => !klt e.m.1 k)).map A.P.m ++ x.q := by
 show (x.p.filter (fun e => !klt e.m.1 k)).reverse.foldl (fun q e => W.insM e.m q) x.q = _
 rw [W.foldl_ms, List.map_reverse]
 exact W.again _ _ (List.Pairwise.sublist (List.Sublist.append (List.Sublist.map _ List.filter_sublist) (List.Sublist.refl _)) h)
theorem noK_all {k : Kg} {l : List Mg} (h : ∀ m ∈ l, m.1 ≠ k) : noK k l = l := List.filter_eq_self.2 fun m hm => by simpa using h m hm
theorem undQ_plain {x : W.Nd} (h : W.SrtM (x.p.map A.P.m ++ x.q)) {k : Kg} (hp : hasP x.p k = false) : undQ k (gonK k x.p) x.q (gonK k x.p).length = (W.undo k x).q := by
 unfold undQ
 rw [List.take_length, gonK_rev, undo_q h, noK_all]
 intro m hm
 obtain ⟨e, he, rfl⟩ := List.mem_map.1 hm
 exact hasP_no hp e (mem_fil he)
theorem undQ_anti {x : W.Nd} (h : W.SrtM (x.p.map A.P.m ++ x.q)) {k : Kg} (hq : Q.hasK x.q k = false) : undQ k (gonK k x.p) x.q (gonK k x.p).length = (W.antiP k x).q := by
 show _ = W.delM k (W.undo k x).q
 unfold undQ
 rw [List.take_length, gonK_rev, undo_q h, W.delM_app, W.delM_no (hasK_no hq)]
 rfl
theorem noK_len {k : Kg} {p : List En} : (noK k ((p.filter (fun e => !klt e.m.1 k)).map A.P.m)).length = beh p k := by
 unfold noK beh
 rw [List.filter_map, List.length_map, List.filter_filter]
 congr 2
 funext e
 show (decide (e.m.1 ≠ k) && !klt e.m.1 k) = klt k e.m.1
 by_cases h0 : e.m.1 = k
 ·rw [h0]
  simp [klt, B.klt_irrefl]
 ·rcases B.klt_or h0 with g | g
  ·have g2 : klt k e.m.1 = false := B.klt_asymm g
   have g3 : klt e.m.1 k = true := g
   simp [g2, g3]
  ·have g2 : klt e.m.1 k = false := B.klt_asymm g
   have g3 : klt k e.m.1 = true := g
   simp [g2, g3, h0]
theorem undQ_len {k : Kg} {p : List En} {q : List Mg} (j : Nat) : (undQ k (gonK k p) q j).length ≤ beh p k + q.length := by
 unfold undQ
 rw [List.length_append, ← noK_len (k := k) (p := p), ← gonK_rev]
 have : List.Sublist (((gonK k p).take j).reverse.map A.P.m) ((gonK k p).reverse.map A.P.m) := List.Sublist.map _ (List.Sublist.reverse (List.take_sublist _ _))
 have := (List.Sublist.filter (fun m : Mg => decide (m.1 ≠ k)) this).length_le
 unfold noK
 omega
theorem undQ_all_len {k : Kg} {p : List En} {q : List Mg} : (undQ k (gonK k p) q (gonK k p).length).length = beh p k + q.length := by
 unfold undQ
 rw [List.take_length, List.length_append, gonK_rev, noK_len]
theorem undo_p_sub {k : Kg} {x : W.Nd} : ∀ e ∈ (W.undo k x).p, e ∈ x.p := fun e he => mem_fil (show e ∈ x.p.filter (fun e => klt e.m.1 k) from he)
theorem hear_inv {C : Cf} (hC : CfOk C) {N : Nat} {x : X} (h : Inv C N x) (fr k : Int) {m : Mg} (hm : B.mwf m) : Inv C (N + 1) (hearX C x fr k m) := by
 unfold hearX
 split
 case isFalse => exact h.mono (Nat.le_succ _)
 case isTrue hE =>
  have hrp := h.rp
  unfold hearE at hE
  split at hE
  ·cases hE
  ·rename_i hA
   by_cases k2 : k = 2
   ·rw [if_pos k2] at hE ⊢
    split at hE
    ·rename_i g
     refine ⟨(h.mono (Nat.le_succ _)).rp, h.pe, fun j hj => ?_, h.f0, h.ql⟩
     show okT (upC x.c fr m.1.1 j) = true
     unfold upC
     split
     ·exact g.2
     ·exact h.ck j hj
    ·cases hE
   ·rw [if_neg k2] at hE ⊢
    obtain ⟨s0, n0, al, c, h1, h2, h3, h4, h5, h6⟩ := hrp
    by_cases k1 : k = 1
    ·rw [if_pos k1] at hE ⊢
     split at hE
     ·cases hE
     ·split at hE
      ·cases hE
      ·by_cases hq : Q.hasK x.nd.q m.1 = true
       ·rw [if_pos hq]
        obtain ⟨y, hy, e⟩ := hasK_iff.1 hq
        have r := W.antiQ_rp h1 hy
        rw [e] at r
        have hl : (W.delM m.1 al).length ≤ al.length := List.length_filter_le _ _
        refine ⟨⟨s0, n0, _, c, r, fun z hz => h2 z ((W.delM_mem _ _ _).1 hz).1, fun z hz => h3 z ((W.delM_mem _ _ _).1 hz).1, h4, by omega, by show x.lg.length + _ ≤ _; omega⟩, h.pe, h.ck, h.f0, ?_⟩
        exact Nat.le_trans (List.length_filter_le _ _) h.ql
       ·rw [if_neg hq] at hE ⊢
        have hq' : Q.hasK x.nd.q m.1 = false := by simpa using hq
        split at hE
        ·cases hE
        ·rename_i hp
         have hp' : hasP x.nd.p m.1 = true := by simpa using hp
         split at hE
         ·cases hE
         ·rename_i hl0
          obtain ⟨y, hy, e⟩ := hasP_iff.1 hp'
          have hy2 : y.m ∈ al.take c := by
           have : y.m ∈ x.nd.p.map A.P.m := List.mem_map_of_mem hy
           rw [h1.p, W.tr_ms] at this
           exact this
          have r := W.antiP_rp h1 hy2
          rw [e] at r
          have hl : (W.delM m.1 al).length ≤ al.length := List.length_filter_le _ _
          refine ⟨⟨s0, n0, _, _, r, fun z hz => h2 z ((W.delM_mem _ _ _).1 hz).1, fun z hz => h3 z ((W.delM_mem _ _ _).1 hz).1, h4, by omega, by show x.lg.length + _ ≤ _; omega⟩, fun e he => h.pe e (undo_p_sub e he), h.ck, h.f0, ?_⟩
          show (W.antiP m.1 x.nd).q.length ≤ 64
          rw [← undQ_anti h.srt hq', undQ_all_len]
          omega
    ·rw [if_neg k1] at hE ⊢
     split at hE
     ·split at hE
      ·cases hE
      ·split at hE
       ·cases hE
       ·rename_i hh
        split at hE
        ·cases hE
        ·rename_i hl0
         have hq' : Q.hasK x.nd.q m.1 = false := by
          cases e : Q.hasK x.nd.q m.1
          ·rfl
          ·exact absurd (Or.inl e) hh
         have hp' : hasP x.nd.p m.1 = false := by
          cases e : hasP x.nd.p m.1
          ·rfl
          ·exact absurd (Or.inr e) hh
         have hnew := rp_new h1 hq' hp'
         have hfl : x.fl ≤ m.1.1 := by
          have hL2 : ¬ hrL C x fr m.1.1 = true := by assumption
          unfold hrL at hL2
          simp only [decide_eq_true_iff, not_or] at hL2
          omega
         refine ⟨⟨s0, n0, _, _, W.plain_rp h1 m hnew, fun z hz => ?_, fun z hz => ?_, h4, ?_, ?_⟩, fun e he => h.pe e (undo_p_sub e he), h.ck, h.f0, ?_⟩
         ·rcases (W.insM_mem m al z).1 hz with rfl | g
          ·exact Or.inl hfl
          ·exact h2 z g
         ·rcases (W.insM_mem m al z).1 hz with rfl | g
          ·exact hm
          ·exact h3 z g
         ·rw [W.insM_len]; omega
         ·show x.lg.length + _ ≤ _
          rw [W.insM_len]; omega
         ·show (W.insM m (W.undo m.1 x.nd).q).length ≤ 64
          rw [W.insM_len, ← undQ_plain h.srt hp', undQ_all_len]
          omega
     ·cases hE
theorem hd_cons {x : X} (h : x.nd.q.isEmpty = false) : x.nd.q = hd x :: x.nd.q.tail := by
 unfold hd
 cases e : x.nd.q with
 | nil => rw [e] at h; cases h
 | cons a r => rfl
theorem stepE_0 {C : Cf} {x : X} (h : stepE C x = 0) : x.nd.q.isEmpty = false ∧ (hd x).1.1 < C.en ∧ x.nd.p.length < 64 ∧ x.nd.g.length ≤ 192 := by
 unfold stepE at h
 split at h
 ·cases h
 ·rename_i g
  split at h
  ·cases h
  ·rename_i g2
   refine ⟨?_, ?_, ?_, ?_⟩
   ·cases e : x.nd.q.isEmpty
    ·rfl
    ·exact absurd (Or.inl e) g
   ·exact Int.not_le.1 fun e => g (Or.inr e)
   ·exact Nat.not_le.1 fun e => g2 (Or.inl e)
   ·exact Nat.not_lt.1 fun e => g2 (Or.inr e)
theorem step_inv {C : Cf} (hC : CfOk C) {N : Nat} {x : X} (h : Inv C N x) : Inv C N (stepX C x) := by
 unfold stepX
 split
 case isFalse => exact h
 case isTrue hE =>
  obtain ⟨g1, g2, g3, g4⟩ := stepE_0 hE
  obtain ⟨s0, n0, al, c, h1, h2, h3, h4, h5, h6⟩ := h.rp
  refine ⟨⟨s0, n0, al, _, W.step_rp h1 (hd_cons g1), h2, h3, h4, h5, h6⟩, fun e he => ?_, h.ck, h.f0, ?_⟩
  ·rcases List.mem_append.1 (show e ∈ x.nd.p ++ [W.ent C.F (hd x) x.nd] from he) with g | g
   ·exact h.pe e g
   ·rw [List.mem_singleton.1 g]
    exact g2
  ·show x.nd.q.tail.length ≤ 64
   have := h.ql
   rw [List.length_tail]
   omega
theorem step_push {C : Cf} (hC : CfOk C) {N : Nat} {x : X} (h : Inv C N x) (hE : stepE C x = 0) : A.pushE x.fl x.nd.p (W.ent C.F (hd x) x.nd) = 0 ∧ x.fl ≤ (hd x).1.1 := by
 obtain ⟨g1, g2, g3, g4⟩ := stepE_0 hE
 have hq := hd_cons g1
 have hm : hd x ∈ x.nd.q := by rw [hq]; exact List.mem_cons_self ..
 have hfl : x.fl ≤ (hd x).1.1 := by
  have h7 := (h.qm _ hm).2
  have h8 := hC.en.2
  rcases h7 with g | g <;> omega
 refine ⟨?_, hfl⟩
 unfold A.pushE
 have e1 : (W.ent C.F (hd x) x.nd).m = hd x := rfl
 rw [e1, if_neg (by omega), if_neg, if_neg (by omega)]
 rintro ⟨hl, hk⟩
 have hs := (List.pairwise_append.1 h.srt).2.2
 have hlt : x.nd.p.length - 1 < x.nd.p.length := by omega
 have := hs (A.nthP x.nd.p (x.nd.p.length - 1)).m (List.mem_map_of_mem (A.nthP_mem hlt)) (hd x) hm
 rw [this] at hk
 cases hk
theorem gt_T {F : W.Fe} {p : List En} {t : Int} (h : ∀ e ∈ p, e.m.1.1 < t) : (W.gt F p).filter (fun y => !decide (y.1.1 < t)) = [] := by
 rw [W.gt_filter F p (fun y => !decide (y.1 < t))]
 have : p.filter (fun e => !decide (e.m.1.1 < t)) = [] := List.filter_eq_nil_iff.2 fun e he => by simpa using h e he
 rw [this]
 rfl
theorem cnt_le {t : Int} (h0 : 0 ≤ t) (h : t ≤ 1099511627776) : cnt t = t := by
 unfold cnt
 rw [if_neg (by omega), if_neg (by omega)]
theorem bndK_hi (C : Cf) (c : Int → Int) : ∀ k, bndK C c k ≤ 1125899906842624
 | 0 => Int.le_refl _
 | k + 1 => by
  have := bndK_hi C c k
  show (if C.kd k = 0 then min (bndK C c k) (c k) else bndK C c k) ≤ _
  split <;> omega
theorem locT_hi (C : Cf) (x : X) : locT C x ≤ 1125899906842624 := by
 have := bndK_hi C x.c C.n
 unfold locT
 split <;> omega
theorem comm_inv {C : Cf} (hC : CfOk C) {N : Nat} {x : X} (h : Inv C N x) (t : Int) : Inv C N (commX C x t) := by
 unfold commX
 split
 case isFalse => exact h
 case isTrue hE =>
  have hD : commD C x t = (x.nd.p.filter (A.low t)).map dn := by unfold commD; rw [if_pos hE]
  have ht : x.fl ≤ t ∧ t ≤ locT C x := by
   unfold commE at hE
   split at hE
   ·cases hE
   ·split at hE
    ·cases hE
    ·omega
  have hf0 := h.f0
  have hlo := locT_hi C x
  obtain ⟨s0, n0, al, c, h1, h2, h3, h4, h5, h6⟩ := h.rp
  have hpl : x.nd.p.length ≤ al.length := by
   rw [h1.p, W.tr_len, List.length_take]; omega
  have hfil : ∀ e ∈ (W.settle t x.nd).p, e ∈ x.nd.p := fun e he => mem_fil (show e ∈ x.nd.p.filter (fun e => !decide (e.m.1.1 < t)) from he)
  by_cases hall : ∀ y ∈ x.nd.q, t ≤ y.1.1
  ·obtain ⟨r1, r2⟩ := W.settle_rp h1 hall
   have hn := fin_n hC (al.filter (fun m => decide (m.1.1 < t))) s0 n0
   have hlen : (al.filter (fun m => decide (m.1.1 < t))).length + (al.filter (fun m => !decide (m.1.1 < t))).length = al.length := by
    have : ∀ (l : List Mg) (p : Mg → Bool), (l.filter p).length + (l.filter (fun m => !p m)).length = l.length := by
     intro l p
     induction l with
     | nil => rfl
     | cons a r ih => cases e : p a <;> simp [e] <;> omega
    exact this al _
   have hDl : (commD C x t).length = (al.filter (fun m => decide (m.1.1 < t))).length := by
    rw [hD, List.length_map]
    show (x.nd.p.filter (fun e => decide (e.m.1.1 < t))).length = _
    rw [r2, W.tr_len]
   refine ⟨⟨_, _, _, _, r1, fun y hy => Or.inl ?_, fun y hy => h3 y (mem_fil hy), ?_, ?_, ?_⟩, fun e he => h.pe e (hfil e he), h.ck, ⟨by show 0 ≤ t; omega, by show t ≤ _; omega⟩, h.ql⟩
   ·have := (List.mem_filter.1 hy).2
    simp at this
    exact this
   ·exact Int.le_trans h4 hn.1
   ·have hn2 : (W.fin C.F s0 n0 (al.filter (fun m => decide (m.1.1 < t)))).2 ≤ n0 + 3 * ((commD C x t).length : Int) := by
     rw [hDl]
     exact hn.2
    exact Int.le_trans (Int.add_le_add_right hn2 _) (by rw [hDl]; omega)
   ·show (x.lg ++ commD C x t).length + _ ≤ N
    rw [List.length_append, hDl]
    omega
  ·have hne : x.nd.q.isEmpty = false := by
    cases e : x.nd.q with
    | nil => exact absurd (fun y hy => by rw [e] at hy; cases hy) hall
    | cons a r => rfl
   have hq := hd_cons hne
   have hbig : 1099511627776 < (hd x).1.1 := by
    refine Int.not_le.1 fun hle => hall fun y hy => ?_
    have hm : hd x ∈ x.nd.q := by rw [hq]; exact List.mem_cons_self ..
    have h0 : 0 ≤ (hd x).1.1 := by
     rcases (h.qm _ hm).2 with g | g <;> omega
    have hloc : locT C x ≤ (hd x).1.1 := by
     unfold locT
     rw [hne, if_neg (by decide), cnt_le h0 hle]
     omega
    have hsq : (hd x).1.1 ≤ y.1.1 := by
     have hs := (List.pairwise_append.1 h.srt).2.1
     rw [hq] at hs hy
     rcases List.mem_cons.1 hy with rfl | g
     ·exact Int.le_refl _
     ·have := (B.klt_iff _ _).1 ((List.pairwise_cons.1 hs).1 y g)
      omega
    omega
   have htb : 1099511627776 < t := by
    refine Int.not_le.1 fun hle => hall fun y hy => ?_
    have hs := (List.pairwise_append.1 h.srt).2.1
    rw [hq] at hs hy
    rcases List.mem_cons.1 hy with rfl | g
    ·omega
    ·have := (B.klt_iff _ _).1 ((List.pairwise_cons.1 hs).1 y g)
     omega
   have hen := hC.en.2
   have hpt : ∀ e ∈ x.nd.p, e.m.1.1 < t := fun e he => by have := h.pe e he; omega
   have hp' : (W.settle t x.nd).p = [] := List.filter_eq_nil_iff.2 fun e he => by simpa using hpt e he
   have hg' : (W.settle t x.nd).g = [] := by
    show x.nd.g.filter (fun y => !decide (y.1.1 < t)) = []
    rw [h1.g]
    exact gt_T hpt
   have hqs : W.SrtM x.nd.q := (List.pairwise_append.1 h.srt).2.1
   have hql : x.nd.q.length + x.nd.p.length = al.length := by
    rw [h1.q, h1.p, W.tr_len, List.length_take, List.length_drop]
    have := h1.le
    omega
   have hsn := fin_n hC (al.take c) s0 n0
   have hsn2 : x.nd.n = (W.fin C.F s0 n0 (al.take c)).2 := congrArg Prod.snd h1.s
   have hpl2 : (al.take c).length = x.nd.p.length := by rw [h1.p, W.tr_len]
   have hDl : (commD C x t).length ≤ x.nd.p.length := by
    rw [hD, List.length_map]
    exact List.length_filter_le _ _
   refine ⟨⟨x.nd.s, x.nd.n, x.nd.q, 0, ⟨hqs, Nat.zero_le _, hp', rfl, rfl, by rw [hg', hp']; rfl⟩, fun y hy => Or.inr ?_, fun y hy => (h.qm y hy).1, by omega, by omega, ?_⟩, fun e he => h.pe e (hfil e he), h.ck, ⟨by show 0 ≤ t; omega, by show t ≤ _; omega⟩, h.ql⟩
   ·rw [hq] at hqs hy
    rcases List.mem_cons.1 hy with rfl | g
    ·exact hbig
    ·have := (B.klt_iff _ _).1 ((List.pairwise_cons.1 hqs).1 y g)
     omega
   ·show (x.lg ++ commD C x t).length + _ ≤ N
    rw [List.length_append]
    omega
end Go.Proofs.YtiaopafkfadmkaaGreat.V
namespace Go.Proofs.YtiaopafkfadmkaaGreat.V
open Go.RowKit Go.Shelf
open Go.Proofs.YtiaopafkfadmkaaGreat.C (MapC)
def cD : B.Cd Dn := ⟨encD, 7, zeroD, fun _ => rfl, fun x v hv => by simp [encD] at hv; rcases hv with rfl | rfl | rfl | rfl | rfl | rfl | rfl <;> rfl, by decide⟩
def tyD : B.Ty cD 52 49 := ⟨.agg #[.int .i64 0, .int .i64 0, .int .i64 0, .int .i64 0, .int .i64 0, .int .i64 0, .int .i64 0], 56, Tryz.underlying52, by kernel_rfl, rfl, by decide⟩
structure Ad where
 nb : Nat
 qb : Nat
 pb : Nat
 gb : Nat
 rb : Nat
abbrev ncs (D : Wd) (f : Nat) (s n : Int) (A : Ad) (v : Value) : Array Value := #[.slice D.pa D.ps.length D.pc, .slice D.fa D.fs.length D.fc, .int .i64 D.en, .int .i64 f, .int .i64 s, .int .i64 n, .pointer (some ⟨A.qb, 0, none⟩), .pointer (some ⟨A.pb, 0, none⟩), .pointer (some ⟨A.gb, 0, none⟩), .map (some A.rb), v]
structure WM (w0 : World) (D : Wd) (f : Nat) (x : X) (gf : Int) (A : Ad) (F : Nat → Nat → Prop) (v : Value) (W : World) : Prop where
 sep : Sep w0 F W
 rc : F 0 A.nb ∧ W.heap[A.nb]? = some (.cells (ncs D f x.nd.s x.nd.n A v) 99 (0, 0))
 qu : Q.IsQ W (F 1) A.qb 64 x.nd.q
 pa : PT (F 2) W x.fl x.nd.p A.pb
 ga : GT (F 3) W gf x.nd.g A.gb
 ck : F 4 A.rb ∧ ∃ M, MapC W A.rb 8 (isC (cf D f)) x.c M
 lg : B.OwR cD 49 W v x.lg ∧ ∀ k, v.ownBlock = some k → F 5 k
 kw : ∃ K : Nat → Bool, Ww (mask (fun k => !K k) W) D ∧ ∀ k, K k = true → F 6 k
structure WMx (i : Nat) (w0 : World) (D : Wd) (f : Nat) (x : X) (gf : Int) (A : Ad) (F : Nat → Nat → Prop) (v : Value) (W : World) : Prop where
 sep : Sep w0 F W
 rc : 0 ≠ i → F 0 A.nb ∧ W.heap[A.nb]? = some (.cells (ncs D f x.nd.s x.nd.n A v) 99 (0, 0))
 qu : 1 ≠ i → Q.IsQ W (F 1) A.qb 64 x.nd.q
 pa : 2 ≠ i → PT (F 2) W x.fl x.nd.p A.pb
 ga : 3 ≠ i → GT (F 3) W gf x.nd.g A.gb
 ck : 4 ≠ i → F 4 A.rb ∧ ∃ M, MapC W A.rb 8 (isC (cf D f)) x.c M
 lg : 5 ≠ i → B.OwR cD 49 W v x.lg ∧ ∀ k, v.ownBlock = some k → F 5 k
 kw : 6 ≠ i → ∃ K : Nat → Bool, Ww (mask (fun k => !K k) W) D ∧ ∀ k, K k = true → F 6 k
theorem WM.off {w0 : World} {D : Wd} {f : Nat} {x : X} {gf : Int} {A : Ad} {F : Nat → Nat → Prop} {v : Value} {W W' : World} (h : WM w0 D f x gf A F v W) (i : Nat) {P : Nat → Prop} (hm : Mw (F i) P W W') (hP : ∀ k, P k → k < W'.heap.size) : WMx i w0 D f x gf A (upF F i P) v W' ∧ Mw (tot F) (tot (upF F i P)) W W' := by
 obtain ⟨s1, s2⟩ := h.sep.upd hm hP
 have nS : ∀ j k, j ≠ i → F j k → ¬ F i k := fun j k hj g => h.sep.ne hj g
 refine ⟨⟨s1, fun hj => ?_, fun hj => ?_, fun hj => ?_, fun hj => ?_, fun hj => ?_, fun hj => ?_, fun hj => ?_⟩, s2⟩
 ·rw [upF_out F P hj]
  exact ⟨h.rc.1, (hm.fr.block _ (h.sep.lt 0 _ h.rc.1) (nS 0 _ hj h.rc.1)).trans h.rc.2⟩
 ·rw [upF_out F P hj]
  exact h.qu.keep (toQ hm.fr) (fun k g => nS 1 k hj g)
 ·rw [upF_out F P hj]
  exact h.pa.keep hm.fr (fun k g => nS 2 k hj g)
 ·rw [upF_out F P hj]
  exact h.ga.keep hm.fr (fun k g => nS 3 k hj g)
 ·rw [upF_out F P hj]
  obtain ⟨g1, M, g2⟩ := h.ck
  exact ⟨g1, M, g2.keep (toC hm.fr) (nS 4 _ hj g1)⟩
 ·rw [upF_out F P hj]
  exact ⟨h.lg.1.keep hm.fr (fun k e => nS 5 k hj (h.lg.2 k e)), h.lg.2⟩
 ·rw [upF_out F P hj]
  obtain ⟨K, g1, g2⟩ := h.kw
  exact ⟨K, mask_on g1 hm.fr.size (fun k hl g => hm.fr.block k hl (nS 6 k hj (g2 k g))), g2⟩
theorem WM.keep {w0 : World} {D : Wd} {f : Nat} {x : X} {gf : Int} {A : Ad} {F : Nat → Nat → Prop} {S : Nat → Prop} {v : Value} {W W' : World} (h : WM w0 D f x gf A F v W) (hf : Fr S W W') (hS : ∀ k, tot F k → ¬ S k) (h0 : ∀ k, S k → w0.heap.size ≤ k) : WM w0 D f x gf A F v W' := by
 obtain ⟨g1, M, g2⟩ := h.ck
 obtain ⟨K, k1, k2⟩ := h.kw
 exact ⟨h.sep.keep hf h0, ⟨h.rc.1, (hf.block _ (h.sep.lt 0 _ h.rc.1) (hS _ ⟨0, h.rc.1⟩)).trans h.rc.2⟩, h.qu.keep (toQ hf) (fun k g => hS k ⟨1, g⟩), h.pa.keep hf (fun k g => hS k ⟨2, g⟩), h.ga.keep hf (fun k g => hS k ⟨3, g⟩), ⟨g1, M, g2.keep (toC hf) (hS _ ⟨4, g1⟩)⟩, ⟨h.lg.1.keep hf (fun k e => hS k ⟨5, h.lg.2 k e⟩), h.lg.2⟩, ⟨K, mask_on k1 hf.size (fun k hl g => hf.block k hl (hS k ⟨6, k2 k g⟩)), k2⟩⟩
theorem WM.below {w0 : World} {D : Wd} {f : Nat} {x : X} {gf : Int} {A : Ad} {F : Nat → Nat → Prop} {v : Value} {W W' : World} (h : WM w0 D f x gf A F v W) (hb : Below W.heap.size W W') : WM w0 D f x gf A F v W' :=
 h.keep (B.Fr.of_below (S := fun _ => False) hb) (fun _ _ g => g) (fun _ g => g.elim)
theorem WM.wd {w0 : World} {D : Wd} {f : Nat} {x : X} {gf : Int} {A : Ad} {F : Nat → Nat → Prop} {v : Value} {W : World} (h : WM w0 D f x gf A F v W) : Ww W D := by
 obtain ⟨K, g1, g2⟩ := h.kw
 exact g1.sub (sub_of_mask (Nat.le_refl _) (fun _ _ _ => rfl))
theorem WM.cells {w0 : World} {D : Wd} {f : Nat} {x : X} {gf : Int} {A : Ad} {F : Nat → Nat → Prop} {v : Value} {W : World} (h : WM w0 D f x gf A F v W) :
  W.cell? ⟨A.nb, 0, none⟩ = some (.slice D.pa D.ps.length D.pc) ∧ W.cell? ⟨A.nb, 1, none⟩ = some (.slice D.fa D.fs.length D.fc) ∧ W.cell? ⟨A.nb, 2, none⟩ = some (.int .i64 D.en) ∧ W.cell? ⟨A.nb, 3, none⟩ = some (.int .i64 f) ∧ W.cell? ⟨A.nb, 4, none⟩ = some (.int .i64 x.nd.s) ∧ W.cell? ⟨A.nb, 5, none⟩ = some (.int .i64 x.nd.n) ∧ W.cell? ⟨A.nb, 6, none⟩ = some (.pointer (some ⟨A.qb, 0, none⟩)) ∧ W.cell? ⟨A.nb, 7, none⟩ = some (.pointer (some ⟨A.pb, 0, none⟩)) ∧ W.cell? ⟨A.nb, 8, none⟩ = some (.pointer (some ⟨A.gb, 0, none⟩)) ∧ W.cell? ⟨A.nb, 9, none⟩ = some (.map (some A.rb)) ∧ W.cell? ⟨A.nb, 10, none⟩ = some v :=
 ⟨cellB h.rc.2 0, cellB h.rc.2 1, cellB h.rc.2 2, cellB h.rc.2 3, cellB h.rc.2 4, cellB h.rc.2 5, cellB h.rc.2 6, cellB h.rc.2 7, cellB h.rc.2 8, cellB h.rc.2 9, cellB h.rc.2 10⟩
theorem WM.froz {w0 : World} {D : Wd} {f : Nat} {x : X} {gf : Int} {A : Ad} {F : Nat → Nat → Prop} {v : Value} {W : World} (h : WM w0 D f x gf A F v W) (i : Nat) : W.frozen? ⟨A.nb, i, none⟩ = false := by simp [World.frozen?, h.rc.2]
theorem WM.lt {w0 : World} {D : Wd} {f : Nat} {x : X} {gf : Int} {A : Ad} {F : Nat → Nat → Prop} {v : Value} {W : World} (h : WM w0 D f x gf A F v W) : ∀ k, tot F k → k < W.heap.size := fun k ⟨i, g⟩ => h.sep.lt i k g
theorem WM.nlt {w0 : World} {D : Wd} {f : Nat} {x : X} {gf : Int} {A : Ad} {F : Nat → Nat → Prop} {v : Value} {W : World} (h : WM w0 D f x gf A F v W) : A.nb < W.heap.size := h.sep.lt 0 _ h.rc.1
theorem Mw.stay {T T' : Nat → Prop} {W W' : World} (h : Mw T T' W W') {b : Nat} (hb : b < W.heap.size) (hn : ¬ T b) : W'.heap[b]? = W.heap[b]? ∧ ¬ T' b ∧ b < W'.heap.size :=
 ⟨h.fr.block b hb hn, fun g => hn (h.new b hb g), Nat.lt_of_lt_of_le hb h.fr.size⟩
theorem WM.queue {w0 : World} {D : Wd} {f : Nat} {x : X} {gf : Int} {A : Ad} {F : Nat → Nat → Prop} {v : Value} {W W' : World} (h : WM w0 D f x gf A F v W) {G2 : Nat → Prop} {q : List Mg} (hq : Q.IsQ W' G2 A.qb 64 q) (hs : Q.Step (F 1) G2 W W') :
  ∃ F', WM w0 D f { x with nd := { x.nd with q := q } } gf A F' v W' ∧ Mw (tot F) (tot F') W W' ∧ ∀ j, j ≠ 1 → F' j = F j := by
 have hm : Mw (F 1) G2 W W' := ⟨ofQ hs.1, fun k hk g => by rcases hs.2 k g with e | e; exact e; omega⟩
 obtain ⟨r, m⟩ := h.off 1 hm (fun k g => hq.lt k g)
 exact ⟨_, ⟨r.sep, r.rc (by decide), by rw [upF_at]; exact hq, r.pa (by decide), r.ga (by decide), r.ck (by decide), r.lg (by decide), r.kw (by decide)⟩, m, fun j hj => upF_out _ _ hj⟩
theorem WM.past {w0 : World} {D : Wd} {f : Nat} {x : X} {gf : Int} {A : Ad} {F : Nat → Nat → Prop} {v : Value} {W W' : World} (h : WM w0 D f x gf A F v W) {P : Nat → Prop} {fl : Int} {p : List En} (hp : PT P W' fl p A.pb) (hm : Mw (F 2) P W W') :
  ∃ F', WM w0 D f { x with nd := { x.nd with p := p }, fl := fl } gf A F' v W' ∧ Mw (tot F) (tot F') W W' ∧ F' 2 = P ∧ ∀ j, j ≠ 2 → F' j = F j := by
 obtain ⟨r, m⟩ := h.off 2 hm hp.1
 exact ⟨_, ⟨r.sep, r.rc (by decide), r.qu (by decide), by rw [upF_at]; exact hp, r.ga (by decide), r.ck (by decide), r.lg (by decide), r.kw (by decide)⟩, m, upF_at _ _ _, fun j hj => upF_out _ _ hj⟩
theorem WM.gate {w0 : World} {D : Wd} {f : Nat} {x : X} {gf : Int} {A : Ad} {F : Nat → Nat → Prop} {v : Value} {W W' : World} (h : WM w0 D f x gf A F v W) {P : Nat → Prop} {fl : Int} {g : List Hg} (hp : GT P W' fl g A.gb) (hm : Mw (F 3) P W W') :
  ∃ F', WM w0 D f { x with nd := { x.nd with g := g } } fl A F' v W' ∧ Mw (tot F) (tot F') W W' ∧ F' 3 = P ∧ ∀ j, j ≠ 3 → F' j = F j := by
 obtain ⟨r, m⟩ := h.off 3 hm hp.1
 exact ⟨_, ⟨r.sep, r.rc (by decide), r.qu (by decide), r.pa (by decide), by rw [upF_at]; exact hp, r.ck (by decide), r.lg (by decide), r.kw (by decide)⟩, m, upF_at _ _ _, fun j hj => upF_out _ _ hj⟩
theorem WM.clock {w0 : World} {D : Wd} {f : Nat} {x : X} {gf : Int} {A : Ad} {F : Nat → Nat → Prop} {v : Value} {W W' : World} (h : WM w0 D f x gf A F v W) {c : Int → Int} (hc : ∃ M, MapC W' A.rb 8 (isC (cf D f)) c M) (hf : Go.Proofs.YtiaopafkfadmkaaGreat.C.Fr (fun k => k = A.rb) W W') :
  WM w0 D f { x with c := c } gf A F v W' ∧ Mw (tot F) (tot F) W W' := by
 have hm : Mw (F 4) (F 4) W W' := ⟨(ofC hf).wide (fun k e => by subst e; exact h.ck.1), fun _ _ g => g⟩
 obtain ⟨r, m⟩ := h.off 4 hm (fun k g => Nat.lt_of_lt_of_le (h.sep.lt 4 k g) hf.size)
 rw [upF_self] at r m
 exact ⟨⟨r.sep, r.rc (by decide), r.qu (by decide), r.pa (by decide), r.ga (by decide), ⟨h.ck.1, hc⟩, r.lg (by decide), r.kw (by decide)⟩, m⟩
theorem WM.own {w0 : World} {D : Wd} {f : Nat} {x : X} {gf : Int} {A : Ad} {F : Nat → Nat → Prop} {v : Value} {W : World} (h : WM w0 D f x gf A F v W) {i : Nat} {u : Value} {s n : Int} (he : (ncs D f x.nd.s x.nd.n A v).setIfInBounds i u = ncs D f s n A v) :
  WM w0 D f { x with nd := { x.nd with s := s, n := n } } gf A F v (W.setCell ⟨A.nb, i, none⟩ u) ∧ Mw (tot F) (tot F) W (W.setCell ⟨A.nb, i, none⟩ u) := by
 have hf := frB W A.nb i u
 have hm : Mw (F 0) (F 0) W (W.setCell ⟨A.nb, i, none⟩ u) := ⟨hf.wide (fun k e => by subst e; exact h.rc.1), fun _ _ g => g⟩
 obtain ⟨r, m⟩ := h.off 0 hm (fun k g => Nat.lt_of_lt_of_le (h.sep.lt 0 k g) hf.size)
 rw [upF_self] at r m
 exact ⟨⟨r.sep, ⟨h.rc.1, by rw [heap_setCell_same W A.nb i _ _ _ h.rc.2, he]⟩, r.qu (by decide), r.pa (by decide), r.ga (by decide), r.ck (by decide), r.lg (by decide), r.kw (by decide)⟩, m⟩
theorem WM.log {w0 : World} {D : Wd} {f : Nat} {x : X} {gf : Int} {A : Ad} {F : Nat → Nat → Prop} {v v' : Value} {W w2 : World} (h : WM w0 D f x gf A F v W) {lg : List Dn} (hr : B.OwR cD 49 w2 v' lg) (hm : Mw (fun k => v.ownBlock = some k) (fun k => v'.ownBlock = some k) W w2) :
  ∃ F', WM w0 D f { x with lg := lg } gf A F' v' (w2.setCell ⟨A.nb, 10, none⟩ v') ∧ Mw (tot F) (tot F') W (w2.setCell ⟨A.nb, 10, none⟩ v') := by
 have hm5 : Mw (F 5) (fun k => (F 5 k ∧ k < W.heap.size) ∨ v'.ownBlock = some k) W w2 := ⟨hm.fr.wide h.lg.2, fun k hk g => by
  rcases g with g | g
  ·exact g.1
  ·exact h.lg.2 k (hm.new k hk g)⟩
 obtain ⟨r, m⟩ := h.off 5 hm5 (fun k g => by
  rcases g with g | g
  ·exact Nat.lt_of_lt_of_le g.2 hm.fr.size
  ·exact hr.lt g)
 obtain ⟨r1, r2⟩ := r.rc (by decide)
 have hf := frB w2 A.nb 10 v'
 have n0 : ∀ j k, j ≠ 0 → upF F 5 (fun k => (F 5 k ∧ k < W.heap.size) ∨ v'.ownBlock = some k) j k → ¬ k = A.nb := fun j k hj g e => by
  subst e
  exact hj (r.sep.dj j 0 _ g r1)
 obtain ⟨g1, M, g2⟩ := r.ck (by decide)
 obtain ⟨K, k1, k2⟩ := r.kw (by decide)
 have l5 : ∀ k, v'.ownBlock = some k → upF F 5 (fun k => (F 5 k ∧ k < W.heap.size) ∨ v'.ownBlock = some k) 5 k := fun k e => by rw [upF_at]; exact .inr e
 have hw0 : ∀ k, k = A.nb → w0.heap.size ≤ k := fun k e => by subst e; exact h.sep.lo 0 _ h.rc.1
 refine ⟨_, ⟨r.sep.keep hf hw0, ⟨r1, ?_⟩, (r.qu (by decide)).keep (toQ hf) (fun k g => n0 1 k (by decide) g), (r.pa (by decide)).keep hf (fun k g => n0 2 k (by decide) g), (r.ga (by decide)).keep hf (fun k g => n0 3 k (by decide) g), ⟨g1, M, g2.keep (toC hf) (n0 4 _ (by decide) g1)⟩, ⟨hr.keep hf (fun k e => n0 5 k (by decide) (l5 k e)), l5⟩, ⟨K, mask_on k1 hf.size (fun k hl g => hf.block k hl (n0 6 k (by decide) (k2 k g))), k2⟩⟩, ⟨(m.fr.trans hf (fun k hk e => ?_)), fun k hk g => m.new k hk g⟩⟩
 ·rw [heap_setCell_same w2 A.nb 10 _ _ _ r2]
  rfl
 ·subst e
  exact ⟨0, h.rc.1⟩
end Go.Proofs.YtiaopafkfadmkaaGreat.V
namespace Go.Proofs.YtiaopafkfadmkaaGreat.V
open Go.RowKit Go.Shelf
abbrev set7v (W : World) (A : Nat) (x0 x1 x2 x3 x4 x5 x6 : Value) : World := ((((((W.setCell ⟨A, 0, none⟩ x0).setCell ⟨A, 1, none⟩ x1).setCell ⟨A, 2, none⟩ x2).setCell ⟨A, 3, none⟩ x3).setCell ⟨A, 4, none⟩ x4).setCell ⟨A, 5, none⟩ x5).setCell ⟨A, 6, none⟩ x6
theorem set7v_heap {W : World} {A : Nat} {T : TypeId} {y0 y1 y2 y3 y4 y5 y6 : Value} (h : W.heap[A]? = some (.cells #[y0, y1, y2, y3, y4, y5, y6] T (0, 0))) (x0 x1 x2 x3 x4 x5 x6 : Value) : (set7v W A x0 x1 x2 x3 x4 x5 x6).heap[A]? = some (.cells #[x0, x1, x2, x3, x4, x5, x6] T (0, 0)) := by
 have e0 := heap_setCell_same W A 0 _ _ x0 h
 have e1 := heap_setCell_same _ A 1 _ _ x1 e0
 have e2 := heap_setCell_same _ A 2 _ _ x2 e1
 have e3 := heap_setCell_same _ A 3 _ _ x3 e2
 have e4 := heap_setCell_same _ A 4 _ _ x4 e3
 have e5 := heap_setCell_same _ A 5 _ _ x5 e4
 have e6 := heap_setCell_same _ A 6 _ _ x6 e5
 rw [e6]
 simp
theorem set7v_below {a W : World} {A n : Nat} (h : Below n a W) (hA : n ≤ A) (x0 x1 x2 x3 x4 x5 x6 : Value) : Below n a (set7v W A x0 x1 x2 x3 x4 x5 x6) :=
 ((((((h.setCell (p := ⟨A, 0, none⟩) hA _).setCell (p := ⟨A, 1, none⟩) hA _).setCell (p := ⟨A, 2, none⟩) hA _).setCell (p := ⟨A, 3, none⟩) hA _).setCell (p := ⟨A, 4, none⟩) hA _).setCell (p := ⟨A, 5, none⟩) hA _).setCell (p := ⟨A, 6, none⟩) hA _
set_option maxHeartbeats 2000000 in
theorem nfed {w0 : World} {D : Wd} {f : Nat} {x : X} {gf : Int} {AA : Ad} {F0 : Nat → Nat → Prop} {v : Value} {w : World} (h : WM w0 D f x gf AA F0 v w) (hfn : f < D.fs.length) :
  Calls Tryz.prog 64 #[.pointer (some ⟨AA.nb, 0, none⟩)] w fun e w' => e = .returned (fv (nthF D.fs f)) ∧ Below w.heap.size w w' := by
 have lnb := h.nlt
 obtain ⟨nb, hnb⟩ : ∃ nb, AA.nb = nb := ⟨_, rfl⟩
 obtain ⟨F, hF⟩ : ∃ F, nthF D.fs f = F := ⟨_, rfl⟩
 rw [hF]
 have hfI : (f : Int) < (D.fs.length : Int) := by omega
 obtain ⟨W1, hW1⟩ : ∃ W1, W1 = w.alloc (.cells #[.int .i64 0, .int .i64 0, .int .i64 0, .slice none 0 0, .slice none 0 0, .slice none 0 0, .slice none 0 0] 77) := ⟨_, rfl⟩
 have hb1 : Below w.heap.size w W1 := by rw [hW1]; exact B.al _ _
 have bx1 : W1.heap[w.heap.size]? = some (.cells #[.int .i64 0, .int .i64 0, .int .i64 0, .slice none 0 0, .slice none 0 0, .slice none 0 0, .slice none 0 0] 77 (0, 0)) := by rw [hW1]; exact World.alloc_heap_new w _
 obtain ⟨fb, off, hfa, lfb, _⟩ := h.wd.f.cells hfn hF
 obtain ⟨fb2, off2, hfa2, lfb2, z0, z1, z2, z3, z4, z5, z6⟩ := (h.wd.below hb1).f.cells hfn hF
 rw [hfa] at hfa2
 cases hfa2
 obtain ⟨n0, n3, n2, n5, n4, n6, n7, n8, n9, n10, n11⟩ := (h.below hb1).cells
 rw [hnb] at lnb n0 n3 n2 n5 n4 n6 n7 n8 n9 n10 n11
 rw [hnb]
 clear hnb
 rw [hfa] at n3
 obtain ⟨A, hA⟩ : ∃ A, w.heap.size = A := ⟨_, rfl⟩
 rw [hA] at bx1
 have lA : A < W1.heap.size := (Array.getElem?_eq_some_iff.1 bx1).1
 have t0 : W1.cell? ⟨A, 0, none⟩ = some (.int .i64 0) := cellB bx1 0
 have t1 : W1.cell? ⟨A, 1, none⟩ = some (.int .i64 0) := cellB bx1 1
 have t2 : W1.cell? ⟨A, 2, none⟩ = some (.int .i64 0) := cellB bx1 2
 have t3 : W1.cell? ⟨A, 3, none⟩ = some (.slice none 0 0) := cellB bx1 3
 have t4 : W1.cell? ⟨A, 4, none⟩ = some (.slice none 0 0) := cellB bx1 4
 have t5 : W1.cell? ⟨A, 5, none⟩ = some (.slice none 0 0) := cellB bx1 5
 have t6 : W1.cell? ⟨A, 6, none⟩ = some (.slice none 0 0) := cellB bx1 6
 have tf : ∀ j, W1.frozen? ⟨A, j, none⟩ = false := fun j => by simp [World.frozen?, bx1]
 have m1 : ¬ A = nb := by omega
 have m2 : ¬ nb = A := by omega
 have m3 : ¬ A = fb := by omega
 have m4 : ¬ fb = A := by omega
 have HB1 : Hid _ := hb1
 have BX1 : Hid _ := bx1
 have HA : Hid _ := hA
 clear h hF hb1 bx1
 go_enter Tryz.func64, Tryz.ntmps64
 go_wp2_with fail
 rw [← hW1]
 try simp only [hA]
 clear hW1 hA
 go_region_held3 (fun w' => w'.cell? ⟨nb, 1, none⟩ = some (.slice (some ⟨fb, off, none⟩) D.fs.length D.fc) ∧ w'.cell? ⟨nb, 3, none⟩ = some (.int .i64 f) ∧ w'.cell? ⟨fb, off + f * 7, none⟩ = some (.int .i64 F.kd) ∧ w'.cell? ⟨fb, off + f * 7 + 1, none⟩ = some (.int .i64 F.lk) ∧ w'.cell? ⟨fb, off + f * 7 + 2, none⟩ = some (.int .i64 F.st) ∧ w'.cell? ⟨fb, off + f * 7 + 3, none⟩ = some (.slice F.ra F.rs.length F.rc) ∧ w'.cell? ⟨fb, off + f * 7 + 4, none⟩ = some (.slice F.pa F.ps.length F.pc) ∧ w'.cell? ⟨fb, off + f * 7 + 5, none⟩ = some (.slice F.sa F.ss.length F.sc) ∧ w'.cell? ⟨fb, off + f * 7 + 6, none⟩ = some (.slice F.ia F.is.length F.ic)) (go_keep) (fail)
 go_wp2_with fail
 generalize hwf : World.setCell _ _ _ = WF
 have hWF : WF = set7v W1 A (.int .i64 F.kd) (.int .i64 F.lk) (.int .i64 F.st) (.slice F.ra F.rs.length F.rc) (.slice F.pa F.ps.length F.pc) (.slice F.sa F.ss.length F.sc) (.slice F.ia F.is.length F.ic) := by
  first | exact hwf.symm | (rw [← hwf]; rfl)
 have hFF := set7v_heap BX1.out (.int .i64 F.kd) (.int .i64 F.lk) (.int .i64 F.st) (.slice F.ra F.rs.length F.rc) (.slice F.pa F.ps.length F.pc) (.slice F.sa F.ss.length F.sc) (.slice F.ia F.is.length F.ic)
 have hbl := set7v_below HB1.out (A := A) (Nat.le_of_eq HA.out) (.int .i64 F.kd) (.int .i64 F.lk) (.int .i64 F.st) (.slice F.ra F.rs.length F.rc) (.slice F.pa F.ps.length F.pc) (.slice F.sa F.ss.length F.sc) (.slice F.ia F.is.length F.ic)
 rw [← hWF] at hFF hbl
 have q0 := cellB hFF 0
 have q1 := cellB hFF 1
 have q2 := cellB hFF 2
 have q3 := cellB hFF 3
 have q4 := cellB hFF 4
 have q5 := cellB hFF 5
 have q6 := cellB hFF 6
 exact bodyPost_ret (v := fv F) (by simp [results, Tryz.results64, go_sem, q0, q1, q2, q3, q4, q5, q6]) rfl ⟨rfl, hbl.drew⟩
set_option maxHeartbeats 1000000 in
theorem nkind {w0 : World} {D : Wd} {f : Nat} {x : X} {gf : Int} {Z : Ad} {F : Nat → Nat → Prop} {v : Value} {w : World} (h : WM w0 D f x gf Z F v w) (j : Int) (h0 : 0 ≤ j) (hj : j < (D.fs.length : Int)) :
  Calls Tryz.prog 102 #[.pointer (some ⟨Z.nb, 0, none⟩), .int .i64 j] w fun e w' => e = .returned (.int .i64 (kdD D j)) ∧ w = w' := by
 obtain ⟨J, rfl⟩ : ∃ J : Nat, j = (J : Int) := ⟨j.toNat, by omega⟩
 have hJ : J < D.fs.length := by omega
 obtain ⟨G, hG⟩ : ∃ G, nthF D.fs J = G := ⟨_, rfl⟩
 have hk : kdD D (J : Int) = G.kd := by unfold kdD; rw [Int.toNat_natCast, hG]
 rw [hk]
 obtain ⟨fb, off, hfa, lfb, z0, z1, z2, z3, z4, z5, z6⟩ := h.wd.f.cells hJ hG
 have n1 := h.cells.2.1
 rw [hfa] at n1
 clear h hk hG z1 z2 z3 z4 z5 z6
 go_enter Tryz.func102, Tryz.ntmps102
 go_wp2
 go_ret
 exact ⟨rfl, rfl⟩
theorem PT.call {Fp : Nat → Prop} {W : World} {fl : Int} {L : List En} {b : Nat} (h : PT Fp W fl L b) : ∃ X v, A.PP X W fl L b v := by
 obtain ⟨_, v, g⟩ := h
 exact ⟨_, v, g⟩
set_option maxHeartbeats 1000000 in
theorem nfloor {w0 : World} {D : Wd} {f : Nat} {x : X} {gf : Int} {Z : Ad} {F : Nat → Nat → Prop} {v : Value} {w : World} (h : WM w0 D f x gf Z F v w) :
  Calls Tryz.prog 23 #[.pointer (some ⟨Z.nb, 0, none⟩)] w fun e w' => e = .returned (.int .i64 x.fl) ∧ w = w' := by
 have n7 := h.cells.2.2.2.2.2.2.2.1
 obtain ⟨X0, v0, hp⟩ := h.pa.call
 have C := A.floor_any hp
 clear h hp
 go_enter Tryz.func23, Tryz.ntmps23
 go_wp2_with (go_at_call 77; refine C.mono ?_; rintro e w' ⟨rfl, rfl⟩)
 go_ret
 exact ⟨rfl, rfl⟩
set_option maxHeartbeats 1000000 in
theorem nstate {w0 : World} {D : Wd} {f : Nat} {x : X} {gf : Int} {Z : Ad} {F : Nat → Nat → Prop} {v : Value} {w : World} (h : WM w0 D f x gf Z F v w) :
  Calls Tryz.prog 22 #[.pointer (some ⟨Z.nb, 0, none⟩)] w fun e w' => e = .returned (.int .i64 x.nd.s) ∧ w = w' := by
 have n4 := h.cells.2.2.2.2.1
 clear h
 go_enter Tryz.func22, Tryz.ntmps22
 go_wp2
 go_ret
 exact ⟨rfl, rfl⟩
end Go.Proofs.YtiaopafkfadmkaaGreat.V
