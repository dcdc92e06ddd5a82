/- Proved: a past beside a row of entries that grows, and rows of entries beside them, and their calls. -/
import Derived.Test.YtgifanioeeacdaaTwo
namespace Go.Proofs.Ytgifanioeeacdaa
open Go.RowKit Go.Shelf Go.Sort
set_option linter.unusedVariables false

/-- A past that was made since w, rows of entries that are not written. -/
def Pb (w W : World) (fl : Int) (L : List P) (b : Nat) (rs : RowsE) (ka : Option Addr) (kl : List K) : Prop :=
  ∃ v, PP (fun k => k < w.heap.size) W fl L b v ∧ Below w.heap.size w W ∧ (∀ r ∈ rs, RdN cE (fun k => ¬ D b v k) W r.1 r.2) ∧ RdN cK (fun k => ¬ D b v k) W ka kl
/-- The same beside a row va of l that grows. -/
def Pg (w W : World) (fl : Int) (L : List P) (b : Nat) (va : Value) (l : List E) (rs : RowsE) : Prop :=
  ∃ v, PP (fun k => k < w.heap.size ∨ va.ownBlock = some k) W fl L b v ∧ Below w.heap.size w W ∧ OwR cE 34 W va l ∧ (∀ k, va.ownBlock = some k → w.heap.size ≤ k) ∧ ∀ r ∈ rs, RdN cE (fun k => ¬ D b v k ∧ va.ownBlock ≠ some k) W r.1 r.2
theorem Pb.bel {w W : World} {fl : Int} {L : List P} {b : Nat} {rs : RowsE} {ka : Option Addr} {kl : List K} (h : Pb w W fl L b rs ka kl) : Below w.heap.size w W := by
  obtain ⟨v, _, hb, _, _⟩ := h
  exact hb
theorem Pg.bel {w W : World} {fl : Int} {L : List P} {b : Nat} {va : Value} {l : List E} {rs : RowsE} (h : Pg w W fl L b va l rs) : Below w.heap.size w W := by
  obtain ⟨v, _, hb, _⟩ := h
  exact hb
theorem Pb.less {w W : World} {fl : Int} {L : List P} {b : Nat} {rs rs' : RowsE} {ka : Option Addr} {kl : List K} (h : Pb w W fl L b rs ka kl) (hs : ∀ r ∈ rs', r ∈ rs) : Pb w W fl L b rs' ka kl := by
  obtain ⟨v, h1, h2, h3, hk⟩ := h
  exact ⟨v, h1, h2, fun r hr => h3 r (hs r hr), hk⟩
theorem Pg.less {w W : World} {fl : Int} {L : List P} {b : Nat} {va : Value} {l : List E} {rs rs' : RowsE} (h : Pg w W fl L b va l rs) (hs : ∀ r ∈ rs', r ∈ rs) : Pg w W fl L b va l rs' := by
  obtain ⟨v, h1, h2, h3, h4, h5⟩ := h
  exact ⟨v, h1, h2, h3, h4, fun r hr => h5 r (hs r hr)⟩
theorem Pb.on {w W W2 : World} {fl : Int} {L : List P} {b : Nat} {rs : RowsE} {ka : Option Addr} {kl : List K} (h : Pb w W fl L b rs ka kl) (hb : Below W.heap.size W W2) : Pb w W2 fl L b rs ka kl := by
  obtain ⟨v, h1, h2, h3, hk⟩ := h
  exact ⟨v, h1.below hb, Below.on h2 hb, fun r hr => (h3 r hr).below hb, hk.below hb⟩
theorem Pb.row {w W : World} {fl : Int} {L : List P} {b : Nat} {rs : RowsE} {ka : Option Addr} {kl : List K} (h : Pb w W fl L b rs ka kl) {a : Option Addr} {l : List E} (hr : (a, l) ∈ rs) : RdN cE (fun _ => True) W a l := by
  obtain ⟨v, h1, h2, h3, hk⟩ := h
  exact (h3 _ hr).wide (fun _ _ _ => trivial)
theorem Pb.key {w W : World} {fl : Int} {L : List P} {b : Nat} {rs : RowsE} {k1 k2 k3 : Int} {kb : Nat} (h : Pb w W fl L b rs (some ⟨kb, 0, none⟩) [(k1, k2, k3)]) : kb < W.heap.size ∧ W.cell? ⟨kb, 0, none⟩ = some (.int .i64 k1) ∧ W.cell? ⟨kb, 1, none⟩ = some (.int .i64 k2) ∧ W.cell? ⟨kb, 2, none⟩ = some (.int .i64 k3) := by
  obtain ⟨v, h1, h2, h3, hk⟩ := h
  obtain ⟨b', off, e, hb, _, hc⟩ := hk (by simp)
  simp at e
  obtain ⟨rfl, rfl⟩ := e
  have g := hc 0 (by simp)
  exact ⟨hb, g 0 (by decide), g 1 (by decide), g 2 (by decide)⟩
/-- A new block with a key. -/
theorem Pb.boxK {w W : World} {fl : Int} {L : List P} {b : Nat} {rs : RowsE} {ka : Option Addr} {kl : List K} (h : Pb w W fl L b rs ka kl) (k : K) (e : TypeId) : Pb w (W.alloc (.cells #[.int .i64 k.1, .int .i64 k.2.1, .int .i64 k.2.2] e)) fl L b rs (some ⟨W.heap.size, 0, none⟩) [k] := by
  obtain ⟨v, h1, h2, h3, hk⟩ := h
  exact ⟨v, h1.below (al _ _), Below.on h2 (al _ _), fun r hr => (h3 r hr).below (al _ _), RdN.new cK W k e _ rfl (fun d => by have := h1.dlt d; omega)⟩
theorem Pg.on {w W W2 : World} {fl : Int} {L : List P} {b : Nat} {va : Value} {l : List E} {rs : RowsE} (h : Pg w W fl L b va l rs) (hb : Below W.heap.size W W2) : Pg w W2 fl L b va l rs := by
  obtain ⟨v, h1, h2, h3, h4, h5⟩ := h
  exact ⟨v, h1.below hb, Below.on h2 hb, h3.below hb, h4, fun r hr => (h5 r hr).below hb⟩
theorem Pg.own {w W : World} {fl : Int} {L : List P} {b : Nat} {va : Value} {l : List E} {rs : RowsE} (h : Pg w W fl L b va l rs) : OwR cE 34 W va l := by
  obtain ⟨v, h1, h2, h3, h4, h5⟩ := h
  exact h3
theorem Pg.row {w W : World} {fl : Int} {L : List P} {b : Nat} {va : Value} {l0 : List E} {rs : RowsE} (h : Pg w W fl L b va l0 rs) {a : Option Addr} {l : List E} (hr : (a, l) ∈ rs) : RdN cE (fun _ => True) W a l := by
  obtain ⟨v, h1, h2, h3, h4, h5⟩ := h
  exact (h5 _ hr).wide (fun _ _ _ => trivial)
/-- A row is made beside the past. -/
theorem Pg.start {w W : World} {fl : Int} {L : List P} {b : Nat} (h : One w W fl L b) : Pg w (W.alloc (.cells #[] 34)) fl L b (.slice (some ⟨W.heap.size, 0, none⟩) 0 0) [] [] := by
  obtain ⟨⟨v, h⟩, hb⟩ := h
  refine ⟨v, ?_, Below.on hb (al _ _), OwR.made _ _ _, fun k e => ?_, fun r hr => by cases hr⟩
  · refine h.keep (Fr.of_below (S := fun _ => False) (al _ _)) (fun _ e => e.elim) (fun k hk e => ?_) (fun k e => ?_)
    · rcases e with e | e
      · exact e
      · simp [Value.ownBlock] at e; omega
    · have := hb.size
      rcases e with e | e
      · simp; omega
      · simp [Value.ownBlock] at e; simp; omega
  · have := hb.size
    simp [Value.ownBlock] at e
    omega
theorem Pg.box {w W : World} {fl : Int} {L : List P} {b : Nat} {va : Value} {l : List E} {rs : RowsE} (h : Pg w W fl L b va l rs) (x : E) (e : TypeId) : Pg w (W.alloc (.cells (ecs x) e)) fl L b va l ((some ⟨W.heap.size, 0, none⟩, [x]) :: rs) := by
  obtain ⟨v, h1, h2, h3, h4, h5⟩ := h
  refine ⟨v, h1.below (al _ _), Below.on h2 (al _ _), h3.below (al _ _), h4, fun r hm => ?_⟩
  rcases List.mem_cons.1 hm with rfl | hm
  · exact RdN.new cE W x e _ rfl ⟨fun d => by have := h1.dlt d; omega, fun d => by have := h3.lt d; omega⟩
  · exact (h5 r hm).below (al _ _)
theorem Pg.push {w W : World} {fl : Int} {L : List P} {b : Nat} {va : Value} {l : List E} {rs : RowsE} (h : Pg w W fl L b va l rs) {N : Nat → Prop} {x : E} (ho : Out N W x) :
    Calls Try.prog 11 #[.pointer (some ⟨b, 0, none⟩), ev x] W fun e w' => e = .returned (.int .i64 (pushE fl L x.p)) ∧ Pg w w' fl (pushL fl L x.p) b va l rs := by
  obtain ⟨v, h1, h2, h3, h4, h5⟩ := h
  refine (push_any h1 ho).mono fun e w' ⟨v', he, hp, hm⟩ => ⟨he, v', hp, h2.trans (hm.bel h2.size (fun i d => ?_)), h3.keep hm.fr (fun g e d => h1.dx d (Or.inr e)), h4, fun r hr => (h5 r hr).keep hm.fr (fun k hk g => ⟨g.1, fun d => g.1 (hm.new k hk d), g.2⟩)⟩
  have := h1.dx d
  omega
/-- What is put behind the row. -/
theorem Pg.append {w W : World} {fl : Int} {L : List P} {b : Nat} {va v' : Value} {l : List E} {rs : RowsE} (h : Pg w W fl L b va l rs) {X : List E} {w' : World} (ho : OwR cE 34 w' v' X) (hm : Mw (fun k => va.ownBlock = some k) (fun k => v'.ownBlock = some k) W w') : Pg w w' fl L b v' X rs := by
  obtain ⟨v, h1, h2, h3, h4, h5⟩ := h
  refine ⟨v, ?_, h2.trans (hm.fr.below h2.size h4), ho, fun k e => ?_, fun r hr => (h5 r hr).keep hm.fr (fun k hk g => ⟨g.2, g.1, fun e => g.2 (hm.new k hk e)⟩)⟩
  · refine h1.keep hm.fr (fun k e => Or.inr e) (fun k hk e => ?_) (fun k e => ?_)
    · rcases e with e | e
      · exact Or.inl e
      · exact Or.inr (hm.new k hk e)
    · rcases e with e | e
      · exact Nat.lt_of_lt_of_le e (Nat.le_trans h2.size hm.fr.size)
      · exact ho.lt e
  · rcases Nat.lt_or_ge k W.heap.size with g | g
    · exact h4 k (hm.new k g e)
    · have := h2.size; omega
/-- The row grows no more. -/
theorem Pg.stop {w W : World} {fl : Int} {L : List P} {b : Nat} {a : Option Addr} {n c : Nat} {l : List E} (h : Pg w W fl L b (.slice a n c) l []) : n = l.length ∧ Pb w W fl L b [(a, l)] none [] := by
  obtain ⟨v, h1, h2, h3, h4, h5⟩ := h
  refine ⟨h3.look.1, v, ?_, h2, fun r hr => ?_, RdN.nil _ _ _ _⟩
  · exact h1.keep (Fr.refl (fun _ => False) _) (fun _ e => e.elim) (fun k _ e => Or.inl e) (fun k e => Nat.lt_of_lt_of_le e h2.size)
  · obtain rfl : r = (a, l) := by simpa using hr
    exact h3.look.2.wide (fun k _ e d => h1.dx d (Or.inr e))
theorem Pb.push {w W : World} {fl : Int} {L : List P} {b : Nat} {rs : RowsE} {ka : Option Addr} {kl : List K} (h : Pb w W fl L b rs ka kl) {N : Nat → Prop} {x : E} (ho : Out N W x) :
    Calls Try.prog 11 #[.pointer (some ⟨b, 0, none⟩), ev x] W fun e w' => e = .returned (.int .i64 (pushE fl L x.p)) ∧ Pb w w' fl (pushL fl L x.p) b rs ka kl := by
  obtain ⟨v, h1, h2, h3, hk⟩ := h
  exact (push_any h1 ho).mono fun e w' ⟨v', he, hp, hm⟩ => ⟨he, v', hp, h2.trans (hm.bel h2.size h1.ge), fun r hr => (h3 r hr).keep hm.fr (fun k hk g => ⟨g, fun d => g (hm.new k hk d)⟩), hk.keep hm.fr (fun k hk g => ⟨g, fun d => g (hm.new k hk d)⟩)⟩
theorem Pb.back {w W : World} {fl : Int} {L : List P} {b : Nat} {rs : RowsE} {ka : Option Addr} {kl : List K} (h : Pb w W fl L b rs ka kl) (k : K) :
    Calls Try.prog 14 #[.pointer (some ⟨b, 0, none⟩), kv k] W fun e w' => ∃ a c l, e = .returned (.slice a (gonK k L).length c) ∧ l.map E.p = gonK k L ∧ Pb w w' fl (L.filter (bef k)) b ((a, l) :: rs) ka kl := by
  obtain ⟨v, h1, h2, h3, hk⟩ := h
  refine (back_any h1 k).mono fun e w' ⟨a, c, v', he, hg, hp, hm⟩ => ?_
  obtain ⟨l, el, hrd, _⟩ := hg
  refine ⟨a, c, l, he, el, v', hp, h2.trans (hm.bel h2.size h1.ge), fun r hr => ?_, hk.keep hm.fr (fun k hk g => ⟨g, fun d => g (hm.new k hk d)⟩)⟩
  rcases List.mem_cons.1 hr with rfl | hr
  · exact hrd.wide (fun k _ g => g.2)
  · exact (h3 r hr).keep hm.fr (fun k hk g => ⟨g, fun d => g (hm.new k hk d)⟩)
theorem Pb.settle {w W : World} {fl : Int} {L : List P} {b : Nat} {rs : RowsE} {ka : Option Addr} {kl : List K} (h : Pb w W fl L b rs ka kl) (t : Int) :
    Calls Try.prog 16 #[.pointer (some ⟨b, 0, none⟩), .int .i64 t] W fun e w' => ∃ a c l, e = .returned (.slice a (gonT t L).length c) ∧ l.map E.p = gonT t L ∧ Pb w w' (max fl t) (L.filter (fun x => !low t x)) b ((a, l) :: rs) ka kl := by
  obtain ⟨v, h1, h2, h3, hk⟩ := h
  refine (settle_any h1 t).mono fun e w' ⟨a, c, v', he, hg, hp, hm⟩ => ?_
  obtain ⟨l, el, hrd, _⟩ := hg
  refine ⟨a, c, l, he, el, v', hp, h2.trans (hm.bel h2.size h1.ge), fun r hr => ?_, hk.keep hm.fr (fun k hk g => ⟨g, fun d => g (hm.new k hk d)⟩)⟩
  rcases List.mem_cons.1 hr with rfl | hr
  · exact hrd.wide (fun k _ g => g.2)
  · exact (h3 r hr).keep hm.fr (fun k hk g => ⟨g, fun d => g (hm.new k hk d)⟩)
theorem Pb.len {w W : World} {fl : Int} {L : List P} {b : Nat} {rs : RowsE} {ka : Option Addr} {kl : List K} (h : Pb w W fl L b rs ka kl) : Calls Try.prog 23 #[.pointer (some ⟨b, 0, none⟩)] W fun e w' => e = .returned (.int .i64 L.length) ∧ W = w' := by
  obtain ⟨v, h1, h2, h3, hk⟩ := h
  exact len_any h1
end Go.Proofs.Ytgifanioeeacdaa
