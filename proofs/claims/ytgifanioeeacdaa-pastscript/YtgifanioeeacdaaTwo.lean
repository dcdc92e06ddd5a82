/- Proved: two pasts beside each other, and rows of entries beside them, and their calls. -/
import Derived.Test.YtgifanioeeacdaaLw0
namespace Go.Proofs.Ytgifanioeeacdaa
open Go.RowKit Go.Shelf Go.Sort
set_option linter.unusedVariables false

/-- A past beside another one that was written. -/
theorem PP.beside {B b1 b2 : Nat} {W w' : World} {X : Nat → Prop} {fl1 fl1' fl2 : Int} {L1 L1' L2 : List P} {v1 v1' v2 : Value} (hp : PP X w' fl1' L1' b1 v1') (hm : Mw (D b1 v1) (D b1 v1') W w') (hq : PP (fun k => k < B ∨ D b1 v1 k) W fl2 L2 b2 v2) (hB : B ≤ W.heap.size) : PP (fun k => k < B ∨ D b1 v1' k) w' fl2 L2 b2 v2 := by
  refine hq.keep hm.fr (fun k e => Or.inr e) (fun k hk e => ?_) (fun k e => ?_)
  · rcases e with e | e
    · exact Or.inl e
    · exact Or.inr (hm.new k hk e)
  · rcases e with e | e
    · exact Nat.lt_of_lt_of_le e (Nat.le_trans hB hm.fr.size)
    · obtain ⟨l, _, hq', _⟩ := hp
      exact hq'.dlt e
theorem PP.dlt {X : Nat → Prop} {W : World} {fl : Int} {L : List P} {b : Nat} {v : Value} (h : PP X W fl L b v) {k : Nat} (hk : D b v k) : k < W.heap.size := by
  obtain ⟨l, _, hq, _⟩ := h
  exact hq.dlt hk
theorem PP.dx {X : Nat → Prop} {W : World} {fl : Int} {L : List P} {b : Nat} {v : Value} (h : PP X W fl L b v) {k : Nat} (hk : D b v k) : ¬ X k := by
  obtain ⟨l, _, hq, _⟩ := h
  exact hq.dx hk
abbrev RowsE := List (Option Addr × List E)
/-- Two pasts that were made since w, and rows of entries, none in the others' blocks. -/
def Tw (w W : World) (fl1 : Int) (L1 : List P) (b1 : Nat) (fl2 : Int) (L2 : List P) (b2 : Nat) (rs : RowsE) : Prop :=
  ∃ v1 v2, PP (fun k => k < w.heap.size ∨ D b2 v2 k) W fl1 L1 b1 v1 ∧ PP (fun k => k < w.heap.size ∨ D b1 v1 k) W fl2 L2 b2 v2 ∧ Below w.heap.size w W ∧ ∀ r ∈ rs, RdN cE (fun k => ¬ D b1 v1 k ∧ ¬ D b2 v2 k) W r.1 r.2
theorem Tw.bel {w W : World} {fl1 fl2 : Int} {L1 L2 : List P} {b1 b2 : Nat} {rs : RowsE} (h : Tw w W fl1 L1 b1 fl2 L2 b2 rs) : Below w.heap.size w W := by
  obtain ⟨v1, v2, _, _, hb, _⟩ := h
  exact hb
theorem Tw.flip {w W : World} {fl1 fl2 : Int} {L1 L2 : List P} {b1 b2 : Nat} {rs : RowsE} (h : Tw w W fl1 L1 b1 fl2 L2 b2 rs) : Tw w W fl2 L2 b2 fl1 L1 b1 rs := by
  obtain ⟨v1, v2, h1, h2, hb, hr⟩ := h
  exact ⟨v2, v1, h2, h1, hb, fun r hr' => (hr r hr').wide (fun k _ g => ⟨g.2, g.1⟩)⟩
theorem Tw.less {w W : World} {fl1 fl2 : Int} {L1 L2 : List P} {b1 b2 : Nat} {rs rs' : RowsE} (h : Tw w W fl1 L1 b1 fl2 L2 b2 rs) (hs : ∀ r ∈ rs', r ∈ rs) : Tw w W fl1 L1 b1 fl2 L2 b2 rs' := by
  obtain ⟨v1, v2, h1, h2, hb, hr⟩ := h
  exact ⟨v1, v2, h1, h2, hb, fun r hr' => hr r (hs r hr')⟩
theorem Tw.on {w W W2 : World} {fl1 fl2 : Int} {L1 L2 : List P} {b1 b2 : Nat} {rs : RowsE} (h : Tw w W fl1 L1 b1 fl2 L2 b2 rs) (hb : Below W.heap.size W W2) : Tw w W2 fl1 L1 b1 fl2 L2 b2 rs := by
  obtain ⟨v1, v2, h1, h2, h3, hr⟩ := h
  exact ⟨v1, v2, h1.below hb, h2.below hb, Below.on h3 hb, fun r hr' => (hr r hr').below hb⟩
/-- What a row tells. -/
theorem Tw.row {w W : World} {fl1 fl2 : Int} {L1 L2 : List P} {b1 b2 : Nat} {rs : RowsE} (h : Tw w W fl1 L1 b1 fl2 L2 b2 rs) {a : Option Addr} {l : List E} (hr : (a, l) ∈ rs) : RdN cE (fun _ => True) W a l := by
  obtain ⟨v1, v2, h1, h2, h3, hrs⟩ := h
  exact (hrs _ hr).wide (fun _ _ _ => trivial)
/-- A new block with an entry. -/
theorem Tw.box {w W : World} {fl1 fl2 : Int} {L1 L2 : List P} {b1 b2 : Nat} {rs : RowsE} (h : Tw w W fl1 L1 b1 fl2 L2 b2 rs) (x : E) (e : TypeId) : Tw w (W.alloc (.cells (ecs x) e)) fl1 L1 b1 fl2 L2 b2 ((some ⟨W.heap.size, 0, none⟩, [x]) :: rs) := by
  obtain ⟨v1, v2, h1, h2, h3, hr⟩ := h.on (al W (.cells (ecs x) e))
  obtain ⟨v1', v2', h1', h2', h3', hr'⟩ := h
  refine ⟨v1', v2', h1'.below (al _ _), h2'.below (al _ _), Below.on h3' (al _ _), fun r hm => ?_⟩
  rcases List.mem_cons.1 hm with rfl | hm
  · exact RdN.new cE W x e _ rfl ⟨fun d => by have := h1'.dlt d; omega, fun d => by have := h2'.dlt d; omega⟩
  · exact (hr' r hm).below (al _ _)
theorem tw_new {w W : World} {fl1 fl1' fl2 : Int} {L1 L1' L2 : List P} {b1 b2 : Nat} {v1 v1' v2 : Value} {rs : RowsE} {w' : World}
    (h1 : PP (fun k => k < w.heap.size ∨ D b2 v2 k) W fl1 L1 b1 v1) (h2 : PP (fun k => k < w.heap.size ∨ D b1 v1 k) W fl2 L2 b2 v2) (hb : Below w.heap.size w W) (hr : ∀ r ∈ rs, RdN cE (fun k => ¬ D b1 v1 k ∧ ¬ D b2 v2 k) W r.1 r.2)
    (hp : PP (fun k => k < w.heap.size ∨ D b2 v2 k) w' fl1' L1' b1 v1') (hm : Mw (D b1 v1) (D b1 v1') W w') :
    PP (fun k => k < w.heap.size ∨ D b1 v1' k) w' fl2 L2 b2 v2 ∧ Below w.heap.size w w' ∧ ∀ r ∈ rs, RdN cE (fun k => ¬ D b1 v1' k ∧ ¬ D b2 v2 k) w' r.1 r.2 := by
  refine ⟨PP.beside (fl1 := fl1) (L1 := L1) hp hm h2 hb.size, hb.trans (hm.bel hb.size (fun i d => ?_)), fun r hr' => (hr r hr').keep hm.fr (fun k hk g => ⟨g.1, fun d => g.1 (hm.new k hk d), g.2⟩)⟩
  have := h1.dx d
  omega
theorem Tw.push {w W : World} {fl1 fl2 : Int} {L1 L2 : List P} {b1 b2 : Nat} {rs : RowsE} (h : Tw w W fl1 L1 b1 fl2 L2 b2 rs) {N : Nat → Prop} {x : E} (ho : Out N W x) :
    Calls Try.prog 11 #[.pointer (some ⟨b1, 0, none⟩), ev x] W fun e w' => e = .returned (.int .i64 (pushE fl1 L1 x.p)) ∧ Tw w w' fl1 (pushL fl1 L1 x.p) b1 fl2 L2 b2 rs := by
  obtain ⟨v1, v2, h1, h2, hb, hr⟩ := h
  refine (push_any h1 ho).mono fun e w' ⟨v', he, hp, hm⟩ => ?_
  obtain ⟨g1, g2, g3⟩ := tw_new h1 h2 hb hr hp hm
  exact ⟨he, v', v2, hp, g1, g2, g3⟩
theorem Tw.settle {w W : World} {fl1 fl2 : Int} {L1 L2 : List P} {b1 b2 : Nat} {rs : RowsE} (h : Tw w W fl1 L1 b1 fl2 L2 b2 rs) (t : Int) :
    Calls Try.prog 16 #[.pointer (some ⟨b1, 0, none⟩), .int .i64 t] W fun e w' => ∃ a c l, e = .returned (.slice a (gonT t L1).length c) ∧ l.map E.p = gonT t L1 ∧ Tw w w' (max fl1 t) (L1.filter (fun x => !low t x)) b1 fl2 L2 b2 ((a, l) :: rs) := by
  obtain ⟨v1, v2, h1, h2, hb, hr⟩ := h
  refine (settle_any h1 t).mono fun e w' ⟨a, c, v', he, hg, hp, hm⟩ => ?_
  obtain ⟨g1, g2, g3⟩ := tw_new h1 h2 hb hr hp hm
  obtain ⟨l, el, hrd, _⟩ := hg
  refine ⟨a, c, l, he, el, v', v2, hp, g1, g2, fun r hm => ?_⟩
  rcases List.mem_cons.1 hm with rfl | hm
  · exact hrd.wide (fun k _ g => ⟨g.2, fun d => g.1 (Or.inr d)⟩)
  · exact g3 r hm
theorem Tw.len {w W : World} {fl1 fl2 : Int} {L1 L2 : List P} {b1 b2 : Nat} {rs : RowsE} (h : Tw w W fl1 L1 b1 fl2 L2 b2 rs) : Calls Try.prog 23 #[.pointer (some ⟨b1, 0, none⟩)] W fun e w' => e = .returned (.int .i64 L1.length) ∧ W = w' := by
  obtain ⟨v1, v2, h1, h2, hb, hr⟩ := h
  exact len_any h1
theorem Tw.floor {w W : World} {fl1 fl2 : Int} {L1 L2 : List P} {b1 b2 : Nat} {rs : RowsE} (h : Tw w W fl1 L1 b1 fl2 L2 b2 rs) : Calls Try.prog 24 #[.pointer (some ⟨b1, 0, none⟩)] W fun e w' => e = .returned (.int .i64 fl1) ∧ W = w' := by
  obtain ⟨v1, v2, h1, h2, hb, hr⟩ := h
  exact floor_any h1
theorem Tw.new {w W : World} {b1 : Nat} {fl : Int} {L : List P} (h : One w W fl L b1) :
    Calls Try.prog 9 #[] W fun e w' => e = .returned (.pointer (some ⟨W.heap.size, 0, none⟩)) ∧ Tw w w' fl L b1 0 [] W.heap.size [] := by
  obtain ⟨⟨v, h⟩, hb⟩ := h
  refine (new_any W (X := fun k => k < w.heap.size ∨ D b1 v k) (fun k e => by rcases e with e | e; exact Nat.lt_of_lt_of_le e hb.size; exact h.dlt e)).mono fun e w' ⟨he, hp, hb2⟩ => ⟨he, v, .slice none 0 0, ?_, hp, Below.on hb hb2, fun r hr => by cases hr⟩
  refine h.keep (Fr.of_below (S := fun _ => False) hb2) (fun _ e => e.elim) (fun k hk e => ?_) (fun k e => ?_)
  · rcases e with e | e
    · exact e
    · rcases e with e | e
      · omega
      · simp [Value.ownBlock] at e
  · rcases e with e | e
    · exact Nat.lt_of_lt_of_le e (Nat.le_trans hb.size hb2.size)
    · exact hp.dlt e
end Go.Proofs.Ytgifanioeeacdaa
