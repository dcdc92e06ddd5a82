/- Proved: a past beside the document's, and their calls. -/
import Derived.Test.YtgifanioeeacdaaDc1
import Derived.Test.YtgifanioeeacdaaDc3
import Derived.Test.YtgifanioeeacdaaSam
import Derived.Test.YtgifanioeeacdaaOrd
namespace Go.Proofs.Ytgifanioeeacdaa
open Go.RowKit Go.Shelf Go.Sort
set_option linter.unusedVariables false

abbrev RowsG := List (Option Addr × List P)
/-- A past that was made since w, the document's beside it, rows of entries that are not written. -/
def Sb (w W : World) (fp : Int) (Lp : List P) (b1 : Nat) (fr : Int) (Lr : List P) (b2 : Nat) (rs : RowsE) (gs : RowsG) : Prop :=
  ∃ v, PP (fun k => k < w.heap.size ∨ k = b2) W fp Lp b1 v ∧ RP (D b1 v) W fr Lr b2 ∧ w.heap.size ≤ b2 ∧ Below w.heap.size w W ∧ (∀ r ∈ rs, RdN cE (fun k => k ≠ b2 ∧ ¬ D b1 v k) W r.1 r.2) ∧ ∀ g ∈ gs, Gon (fun k => k ≠ b2 ∧ ¬ D b1 v k) W g.1 g.2
theorem Sb.bel {w W : World} {fp fr : Int} {Lp Lr : List P} {b1 b2 : Nat} {rs : RowsE} {gs : RowsG} (h : Sb w W fp Lp b1 fr Lr b2 rs gs) : Below w.heap.size w W := by
  obtain ⟨v, _, _, _, hb, _⟩ := h
  exact hb
theorem Sb.on {w W W2 : World} {fp fr : Int} {Lp Lr : List P} {b1 b2 : Nat} {rs : RowsE} {gs : RowsG} (h : Sb w W fp Lp b1 fr Lr b2 rs gs) (hb : Below W.heap.size W W2) : Sb w W2 fp Lp b1 fr Lr b2 rs gs := by
  obtain ⟨v, h1, h2, h3, h4, h5, h6⟩ := h
  exact ⟨v, h1.below hb, h2.below hb, h3, Below.on h4 hb, fun r hr => (h5 r hr).below hb, fun g hg => (h6 g hg).below hb⟩
theorem Sb.less {w W : World} {fp fr : Int} {Lp Lr : List P} {b1 b2 : Nat} {rs rs' : RowsE} {gs gs' : RowsG} (h : Sb w W fp Lp b1 fr Lr b2 rs gs) (hs : ∀ r ∈ rs', r ∈ rs) (hg : ∀ r ∈ gs', r ∈ gs) : Sb w W fp Lp b1 fr Lr b2 rs' gs' := by
  obtain ⟨v, h1, h2, h3, h4, h5, h6⟩ := h
  exact ⟨v, h1, h2, h3, h4, fun r hr => h5 r (hs r hr), fun g hg' => h6 g (hg g hg')⟩
theorem Sb.row {w W : World} {fp fr : Int} {Lp Lr : List P} {b1 b2 : Nat} {rs : RowsE} {gs : RowsG} (h : Sb w W fp Lp b1 fr Lr b2 rs gs) {a : Option Addr} {l : List E} (hr : (a, l) ∈ rs) : RdN cE (fun _ => True) W a l := by
  obtain ⟨v, h1, h2, h3, h4, h5, h6⟩ := h
  exact (h5 _ hr).wide (fun _ _ _ => trivial)
theorem RP.lt {Y : Nat → Prop} {W : World} {fl : Int} {L : List P} {b : Nat} (h : RP Y W fl L b) : b < W.heap.size := by
  obtain ⟨l, ra, rc, _, hq, _⟩ := h
  exact hq.lt
theorem Sb.box {w W : World} {fp fr : Int} {Lp Lr : List P} {b1 b2 : Nat} {rs : RowsE} {gs : RowsG} (h : Sb w W fp Lp b1 fr Lr b2 rs gs) (x : E) (e : TypeId) : Sb w (W.alloc (.cells (ecs x) e)) fp Lp b1 fr Lr b2 ((some ⟨W.heap.size, 0, none⟩, [x]) :: rs) gs := by
  obtain ⟨v, h1, h2, h3, h4, h5, h6⟩ := h
  refine ⟨v, h1.below (al _ _), h2.below (al _ _), h3, Below.on h4 (al _ _), fun r hm => ?_, fun g hg => (h6 g hg).below (al _ _)⟩
  rcases List.mem_cons.1 hm with rfl | hm
  · exact RdN.new cE W x e _ rfl ⟨by have := h2.lt; omega, fun d => by have := h1.dlt d; omega⟩
  · exact (h5 r hm).below (al _ _)
theorem Sb.new {w W : World} {b1 : Nat} (h : One w W 0 [] b1) : Calls Try.prog 10 #[] W fun e w' => e = .returned (.pointer (some ⟨W.heap.size, 0, none⟩)) ∧ Sb w w' 0 [] b1 0 [] W.heap.size [] [] := by
  obtain ⟨⟨v, h⟩, hb⟩ := h
  refine (rnew_any W (Y := D b1 v) (fun k e => h.dlt e)).mono fun e w' ⟨he, hp, hb2⟩ => ⟨he, v, ?_, hp, hb.size, Below.on hb hb2, fun r hr => (by cases hr), fun g hg => (by cases hg)⟩
  refine h.keep (Fr.of_below (S := fun _ => False) hb2) (fun _ e => e.elim) (fun k hk e => ?_) (fun k e => ?_)
  · rcases e with e | e
    · exact e
    · omega
  · rcases e with e | e
    · exact Nat.lt_of_lt_of_le e (Nat.le_trans hb.size hb2.size)
    · have := hp.lt; omega
theorem sb_prog {w W w' : World} {fp fp' fr : Int} {Lp Lp' Lr : List P} {b1 b2 : Nat} {v v' : Value} {rs : RowsE} {gs : RowsG} (h1 : PP (fun k => k < w.heap.size ∨ k = b2) W fp Lp b1 v) (h2 : RP (D b1 v) W fr Lr b2) (h4 : Below w.heap.size w W) (h5 : ∀ r ∈ rs, RdN cE (fun k => k ≠ b2 ∧ ¬ D b1 v k) W r.1 r.2) (h6 : ∀ g ∈ gs, Gon (fun k => k ≠ b2 ∧ ¬ D b1 v k) W g.1 g.2) (hp : PP (fun k => k < w.heap.size ∨ k = b2) w' fp' Lp' b1 v') (hm : Mw (D b1 v) (D b1 v') W w') :
    RP (D b1 v') w' fr Lr b2 ∧ Below w.heap.size w w' ∧ (∀ r ∈ rs, RdN cE (fun k => k ≠ b2 ∧ ¬ D b1 v' k) w' r.1 r.2) ∧ ∀ g ∈ gs, Gon (fun k => k ≠ b2 ∧ ¬ D b1 v' k) w' g.1 g.2 :=
  ⟨h2.keep hm.fr (fun k e => e) (fun k hk e => hm.new k hk e) (fun k e => hp.dlt e), h4.trans (hm.bel h4.size (fun i d => by have := h1.dx d; omega)), fun r hr => (h5 r hr).keep hm.fr (fun k hk g => ⟨g.2, g.1, fun d => g.2 (hm.new k hk d)⟩), fun g hg => (h6 g hg).keep hm.fr (fun k hk g => ⟨g.2, g.1, fun d => g.2 (hm.new k hk d)⟩)⟩
theorem sb_doc {w W w' : World} {fp : Int} {Lp : List P} {b1 b2 : Nat} {v : Value} {rs : RowsE} {gs : RowsG} (h1 : PP (fun k => k < w.heap.size ∨ k = b2) W fp Lp b1 v) (h3 : w.heap.size ≤ b2) (h4 : Below w.heap.size w W) (h5 : ∀ r ∈ rs, RdN cE (fun k => k ≠ b2 ∧ ¬ D b1 v k) W r.1 r.2) (h6 : ∀ g ∈ gs, Gon (fun k => k ≠ b2 ∧ ¬ D b1 v k) W g.1 g.2) (hl : b2 < w'.heap.size) (hf : Fr (fun k => k = b2) W w') :
    PP (fun k => k < w.heap.size ∨ k = b2) w' fp Lp b1 v ∧ Below w.heap.size w w' ∧ (∀ r ∈ rs, RdN cE (fun k => k ≠ b2 ∧ ¬ D b1 v k) w' r.1 r.2) ∧ ∀ g ∈ gs, Gon (fun k => k ≠ b2 ∧ ¬ D b1 v k) w' g.1 g.2 :=
  ⟨h1.keep hf (fun k e => Or.inr e) (fun k _ e => e) (fun k e => by
      rcases e with e | e
      · exact Nat.lt_of_lt_of_le e (Nat.le_trans h4.size hf.size)
      · omega), h4.trans (hf.below h4.size (fun i e => by omega)), fun r hr => (h5 r hr).keep hf (fun k hk g => ⟨g.1, g⟩), fun g hg => (h6 g hg).keep hf (fun k hk g => ⟨g.1, g⟩)⟩
theorem Sb.push {w W : World} {fp fr : Int} {Lp Lr : List P} {b1 b2 : Nat} {rs : RowsE} {gs : RowsG} (h : Sb w W fp Lp b1 fr Lr b2 rs gs) {N : Nat → Prop} {x : E} (ho : Out N W x) :
    Calls Try.prog 11 #[.pointer (some ⟨b1, 0, none⟩), ev x] W fun e w' => e = .returned (.int .i64 (pushE fp Lp x.p)) ∧ Sb w w' fp (pushL fp Lp x.p) b1 fr Lr b2 rs gs := by
  obtain ⟨v, h1, h2, h3, h4, h5, h6⟩ := h
  refine (push_any h1 ho).mono fun e w' ⟨v', he, hp, hm⟩ => ?_
  obtain ⟨g1, g2, g3, g4⟩ := sb_prog h1 h2 h4 h5 h6 hp hm
  exact ⟨he, v', hp, g1, h3, g2, g3, g4⟩
/-- What came in can be read by both. -/
theorem RdN.old {α : Type} {C : Cd α} {N : Nat → Prop} {w W : World} {a : Option Addr} {l : List α} (h : RdN C N w a l) (hb : Below w.heap.size w W) : RdN C (fun k => k < w.heap.size) W a l := (h.wide (N' := fun k => k < w.heap.size) (fun k hk _ => hk)).below hb
theorem Sb.rpush {w W : World} {fp fr : Int} {Lp Lr : List P} {b1 b2 : Nat} {rs : RowsE} {gs : RowsG} (h : Sb w W fp Lp b1 fr Lr b2 rs gs) {N : Nat → Prop} {x : E} (ho : Out N w x) :
    Calls Try.prog 12 #[.pointer (some ⟨b2, 0, none⟩), ev x] W fun e w' => e = .returned (.int .i64 (pushE fr Lr x.p)) ∧ Sb w w' fp Lp b1 fr (pushL fr Lr x.p) b2 rs gs := by
  obtain ⟨v, h1, h2, h3, h4, h5, h6⟩ := h
  refine (rpush_any h2 (x := x) ⟨(ho.1.old h4).wide (fun k _ g => ⟨by omega, fun d => h1.dx d (Or.inl g)⟩), ho.2⟩).mono fun e w' ⟨he, hp, hf⟩ => ?_
  obtain ⟨g1, g2, g3, g4⟩ := sb_doc h1 h3 h4 h5 h6 hp.lt hf
  exact ⟨he, v, g1, hp, h3, g2, g3, g4⟩
theorem Sb.back {w W : World} {fp fr : Int} {Lp Lr : List P} {b1 b2 : Nat} {rs : RowsE} {gs : RowsG} (h : Sb w W fp Lp b1 fr Lr b2 rs gs) (k : K) :
    Calls Try.prog 14 #[.pointer (some ⟨b1, 0, none⟩), kv k] W fun e w' => ∃ a c, e = .returned (.slice a (gonK k Lp).length c) ∧ Sb w w' fp (Lp.filter (bef k)) b1 fr Lr b2 rs ((a, gonK k Lp) :: gs) := by
  obtain ⟨v, h1, h2, h3, h4, h5, h6⟩ := h
  refine (back_any h1 k).mono fun e w' ⟨a, c, v', he, hg, hp, hm⟩ => ?_
  obtain ⟨g1, g2, g3, g4⟩ := sb_prog h1 h2 h4 h5 h6 hp hm
  refine ⟨a, c, he, v', hp, g1, h3, g2, g3, fun g hg' => ?_⟩
  rcases List.mem_cons.1 hg' with rfl | hg'
  · exact hg.keep (Fr.refl (fun _ => False) _) (fun k _ g => ⟨fun e => e, fun e => g.1 (Or.inr e), g.2⟩)
  · exact g4 g hg'
theorem Sb.settle {w W : World} {fp fr : Int} {Lp Lr : List P} {b1 b2 : Nat} {rs : RowsE} {gs : RowsG} (h : Sb w W fp Lp b1 fr Lr b2 rs gs) (t : Int) :
    Calls Try.prog 16 #[.pointer (some ⟨b1, 0, none⟩), .int .i64 t] W fun e w' => ∃ a c, e = .returned (.slice a (gonT t Lp).length c) ∧ Sb w w' (max fp t) (Lp.filter (fun x => !low t x)) b1 fr Lr b2 rs ((a, gonT t Lp) :: gs) := by
  obtain ⟨v, h1, h2, h3, h4, h5, h6⟩ := h
  refine (settle_any h1 t).mono fun e w' ⟨a, c, v', he, hg, hp, hm⟩ => ?_
  obtain ⟨g1, g2, g3, g4⟩ := sb_prog h1 h2 h4 h5 h6 hp hm
  refine ⟨a, c, he, v', hp, g1, h3, g2, g3, fun g hg' => ?_⟩
  rcases List.mem_cons.1 hg' with rfl | hg'
  · exact hg.keep (Fr.refl (fun _ => False) _) (fun k _ g => ⟨fun e => e, fun e => g.1 (Or.inr e), g.2⟩)
  · exact g4 g hg'
theorem Sb.rout {w W w' : World} {fp fr fr' : Int} {Lp Lr G R : List P} {b1 b2 : Nat} {rs : RowsE} {gs : RowsG} {v : Value} {e : Ending} (h1 : PP (fun k => k < w.heap.size ∨ k = b2) W fp Lp b1 v) (h3 : w.heap.size ≤ b2) (h4 : Below w.heap.size w W) (h5 : ∀ r ∈ rs, RdN cE (fun k => k ≠ b2 ∧ ¬ D b1 v k) W r.1 r.2) (h6 : ∀ g ∈ gs, Gon (fun k => k ≠ b2 ∧ ¬ D b1 v k) W g.1 g.2) (h : ROut (D b1 v) W fr' G R b2 e w') :
    ∃ a c, e = .returned (.slice a G.length c) ∧ Sb w w' fp Lp b1 fr' R b2 rs ((a, G) :: gs) := by
  obtain ⟨a, c, he, hg, hp, hf⟩ := h
  obtain ⟨g1, g2, g3, g4⟩ := sb_doc h1 h3 h4 h5 h6 hp.lt hf
  refine ⟨a, c, he, v, g1, hp, h3, g2, g3, fun g hg' => ?_⟩
  rcases List.mem_cons.1 hg' with rfl | hg'
  · exact hg
  · exact g4 g hg'
theorem Sb.rback {w W : World} {fp fr : Int} {Lp Lr : List P} {b1 b2 : Nat} {rs : RowsE} {gs : RowsG} (h : Sb w W fp Lp b1 fr Lr b2 rs gs) (k : K) :
    Calls Try.prog 15 #[.pointer (some ⟨b2, 0, none⟩), kv k] W fun e w' => ∃ a c, e = .returned (.slice a (gonK k Lr).length c) ∧ Sb w w' fp Lp b1 fr (Lr.filter (bef k)) b2 rs ((a, gonK k Lr) :: gs) := by
  obtain ⟨v, h1, h2, h3, h4, h5, h6⟩ := h
  exact (rback_any h2 k).mono fun e w' hr => Sb.rout (fr := fr) (Lr := Lr) h1 h3 h4 h5 h6 hr
theorem Sb.rsettle {w W : World} {fp fr : Int} {Lp Lr : List P} {b1 b2 : Nat} {rs : RowsE} {gs : RowsG} (h : Sb w W fp Lp b1 fr Lr b2 rs gs) (t : Int) :
    Calls Try.prog 17 #[.pointer (some ⟨b2, 0, none⟩), .int .i64 t] W fun e w' => ∃ a c, e = .returned (.slice a (gonT t Lr).length c) ∧ Sb w w' fp Lp b1 (max fr t) (Lr.filter (fun x => !low t x)) b2 rs ((a, gonT t Lr) :: gs) := by
  obtain ⟨v, h1, h2, h3, h4, h5, h6⟩ := h
  exact (rsettle_any h2 t).mono fun e w' hr => Sb.rout (fr := fr) (Lr := Lr) h1 h3 h4 h5 h6 hr
theorem Sb.same {w W : World} {fp fr : Int} {Lp Lr : List P} {b1 b2 : Nat} {rs : RowsE} {gs : RowsG} (h : Sb w W fp Lp b1 fr Lr b2 rs gs) {a a2 : Option Addr} {c c2 n : Nat} {G : List P} (h1 : (a, G) ∈ gs) (h2 : (a2, G) ∈ gs) (hG : G.length = n) (hn : n ≤ 1000) :
    Calls Try.prog 13 #[.slice a n c, .slice a2 n c2] W fun e w' => e = .returned (.bool true) ∧ Sb w w' fp Lp b1 fr Lr b2 rs gs := by
  have h0 := h
  obtain ⟨v, _, _, _, _, _, h6⟩ := h
  have g1 : Gon (fun k => k ≠ b2 ∧ ¬ D b1 v k) W a G := h6 (a, G) h1
  have g2 : Gon (fun k => k ≠ b2 ∧ ¬ D b1 v k) W a2 G := h6 (a2, G) h2
  exact (same_any (c := c) (c2 := c2) g1 g2 hG hn).mono fun e w' ⟨he, hb⟩ => ⟨he, h0.on hb⟩
theorem Sb.cap {w W : World} {fp fr : Int} {Lp Lr : List P} {b1 b2 : Nat} {rs : RowsE} {gs : RowsG} (h : Sb w W fp Lp b1 fr Lr b2 rs gs) : Lp.length ≤ 64 := by
  obtain ⟨v, ⟨l, hl, hq, _⟩, _⟩ := h
  rw [← hl, List.length_map]
  exact hq.cap
/-- What both answer that is not written any more, in whatever world behind. -/
theorem Sb.last {w w5 W : World} {fp fr : Int} {Lp Lr : List P} {b1 b2 : Nat} {rs : RowsE} {gs : RowsG} (h : Sb w w5 fp Lp b1 fr Lr b2 rs gs) (hW : Below w5.heap.size w5 W) :
    Calls Try.prog 18 #[.pointer (some ⟨b1, 0, none⟩)] W fun e w' => ∃ x : E, e = .returned (.tuple #[ev x, .bool (decide (0 < Lp.length))]) ∧ x.p = lastP Lp ∧ Out (fun _ => True) w' x ∧ Below W.heap.size W w' := by
  obtain ⟨v, h1, _⟩ := h.on hW
  exact (last_any h1).mono fun e w' ⟨x, he, hx, ho, hb⟩ => ⟨x, he, hx, ho.wide (fun _ _ _ => trivial), hb⟩
theorem Sb.rlast {w w5 W : World} {fp fr : Int} {Lp Lr : List P} {b1 b2 : Nat} {rs : RowsE} {gs : RowsG} (h : Sb w w5 fp Lp b1 fr Lr b2 rs gs) (hW : Below w5.heap.size w5 W) :
    Calls Try.prog 19 #[.pointer (some ⟨b2, 0, none⟩)] W fun e w' => ∃ x : E, e = .returned (.tuple #[ev x, .bool (decide (0 < Lr.length))]) ∧ x.p = lastP Lr ∧ Out (fun _ => True) w' x ∧ Below W.heap.size W w' := by
  obtain ⟨v, _, h2, _⟩ := h.on hW
  exact (rlast_any h2).mono fun e w' ⟨x, he, hx, ho, hb⟩ => ⟨x, he, hx, ho.wide (fun _ _ _ => trivial), hb⟩
theorem Sb.keys {w w5 W : World} {fp fr : Int} {Lp Lr : List P} {b1 b2 : Nat} {rs : RowsE} {gs : RowsG} (h : Sb w w5 fp Lp b1 fr Lr b2 rs gs) (hW : Below w5.heap.size w5 W) :
    Calls Try.prog 20 #[.pointer (some ⟨b1, 0, none⟩)] W fun e w' => ∃ a c, e = .returned (.slice a Lp.length c) ∧ RdN cK (fun _ => True) w' a (keysP Lp) ∧ Below W.heap.size W w' := by
  obtain ⟨v, h1, _⟩ := h.on hW
  exact (keys_any h1).mono fun e w' ⟨a, c, he, ho, _, hb⟩ => ⟨a, c, he, ho.look.2.wide (fun _ _ _ => trivial), hb⟩
theorem Sb.rkeys {w w5 W : World} {fp fr : Int} {Lp Lr : List P} {b1 b2 : Nat} {rs : RowsE} {gs : RowsG} (h : Sb w w5 fp Lp b1 fr Lr b2 rs gs) (hW : Below w5.heap.size w5 W) :
    Calls Try.prog 21 #[.pointer (some ⟨b2, 0, none⟩)] W fun e w' => ∃ a c, e = .returned (.slice a Lr.length c) ∧ RdN cK (fun _ => True) w' a (keysP Lr) ∧ Below W.heap.size W w' := by
  obtain ⟨v, _, h2, _⟩ := h.on hW
  exact (rkeys_any h2).mono fun e w' ⟨a, c, he, ho⟩ => ⟨a, c, he, ho.own.look.2.wide (fun _ _ _ => trivial), ho.bel⟩
theorem Sb.len {w w5 W : World} {fp fr : Int} {Lp Lr : List P} {b1 b2 : Nat} {rs : RowsE} {gs : RowsG} (h : Sb w w5 fp Lp b1 fr Lr b2 rs gs) (hW : Below w5.heap.size w5 W) :
    Calls Try.prog 23 #[.pointer (some ⟨b1, 0, none⟩)] W fun e w' => e = .returned (.int .i64 Lp.length) ∧ W = w' := by
  obtain ⟨v, h1, _⟩ := h.on hW
  exact len_any h1
theorem Sb.floor {w w5 W : World} {fp fr : Int} {Lp Lr : List P} {b1 b2 : Nat} {rs : RowsE} {gs : RowsG} (h : Sb w w5 fp Lp b1 fr Lr b2 rs gs) (hW : Below w5.heap.size w5 W) :
    Calls Try.prog 24 #[.pointer (some ⟨b1, 0, none⟩)] W fun e w' => e = .returned (.int .i64 fp) ∧ W = w' := by
  obtain ⟨v, h1, _⟩ := h.on hW
  exact floor_any h1
theorem Sb.cells {w w5 : World} {fp fr : Int} {Lp Lr : List P} {b1 b2 : Nat} {rs : RowsE} {gs : RowsG} (h : Sb w w5 fp Lp b1 fr Lr b2 rs gs) : ∃ ra rc, ∀ W, Below w5.heap.size w5 W → W.cell? ⟨b2, 0, none⟩ = some (.int .i64 fr) ∧ W.cell? ⟨b2, 1, none⟩ = some (.slice ra Lr.length rc) := by
  obtain ⟨v, _, ⟨l, ra, rc, hl, hq, _⟩, _⟩ := h
  refine ⟨ra, rc, fun W hW => ?_⟩
  have c1 := (hq.below hW).c1
  have e : l.length = Lr.length := by rw [← hl]; simp
  rw [e] at c1
  exact ⟨(hq.below hW).c0, c1⟩
end Go.Proofs.Ytgifanioeeacdaa
