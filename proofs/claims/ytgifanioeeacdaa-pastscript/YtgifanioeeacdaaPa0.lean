/- Proved: contracts of New, Len, Floor of a past; what is written into it. -/
import Derived.Test.YtgifanioeeacdaaCop
namespace Go.Proofs.Ytgifanioeeacdaa
open Go.RowKit Go.Shelf Go.Sort
set_option linter.unusedVariables false

theorem wrapN (j : Nat) (h : j ≤ 1000) : IntKind.i64.wrap (j : Int) = (j : Int) := by
  rw [IntKind.wrap_i64]; omega
theorem Out.move {X : Nat → Prop} {W w2 : World} {b : Nat} {v v' : Value} {x : E} (h : Out (fun k => ¬ X k ∧ ¬ D b v k) W x) (hm : Mw (fun k => v.ownBlock = some k) (fun k => v'.ownBlock = some k) W w2) : Out (fun k => ¬ X k ∧ ¬ D b v' k) w2 x :=
  h.keep hm.fr fun k hk g => ⟨fun e => g.2 (Or.inr e), g.1, fun e => g.2 (by
    rcases e with e | e
    · exact Or.inl e
    · exact Or.inr (hm.new k hk e))⟩
theorem PQ.put {X : Nat → Prop} {W w2 : World} {fl : Int} {l l' : List E} {b : Nat} {v v' : Value} (h : PQ X W fl l b v) (hm : Mw (fun k => v.ownBlock = some k) (fun k => v'.ownBlock = some k) W w2) (hr : OwR cE 34 w2 v' l') (ho : ∀ x ∈ l', Out (fun k => ¬ X k ∧ ¬ D b v' k) w2 x) (hl : l'.length ≤ 64) :
    PQ X (w2.setCell ⟨b, 0, none⟩ v') fl l' b v' ∧ Mw (D b v) (D b v') W (w2.setCell ⟨b, 0, none⟩ v') := by
  have hb := (hm.fr.block b h.lt (fun e => h.nb e)).trans h.blk
  have nb' : v'.ownBlock ≠ some b := fun e => h.nb (hm.new b h.lt e)
  have f1 : Fr (fun k => k = b) w2 (w2.setCell ⟨b, 0, none⟩ v') := (Fr.refl _ _).setCell _ _ (Or.inl rfl)
  refine ⟨⟨?_, hr.keep f1 (fun g e s => nb' (by rw [← s]; exact e)), nb', h.xb, fun k e s => h.xv k (hm.new k (h.xl k s) e) s, fun k e => Nat.lt_of_lt_of_le (h.xl k e) (Nat.le_trans hm.fr.size f1.size), fun x hx => (ho x hx).keep f1 (fun k _ g => ⟨fun e => g.2 (Or.inl e), g⟩), hl⟩, ⟨?_, ?_⟩⟩
  · have := heap_setCell_same w2 b 0 _ _ v' hb
    rw [this]
    rfl
  · exact (hm.fr.wide (fun i e => Or.inr e)).then (f1.wide (fun i e => Or.inl e))
  · intro k hk e
    rcases e with e | e
    · exact Or.inl e
    · exact Or.inr (hm.new k hk e)
theorem PQ.floor {X : Nat → Prop} {W : World} {fl : Int} {l : List E} {b : Nat} {v : Value} (h : PQ X W fl l b v) (t : Int) :
    PQ X (W.setCell ⟨b, 1, none⟩ (.int .i64 t)) t l b v ∧ Mw (D b v) (D b v) W (W.setCell ⟨b, 1, none⟩ (.int .i64 t)) := by
  have f1 : Fr (fun k => k = b) W (W.setCell ⟨b, 1, none⟩ (.int .i64 t)) := (Fr.refl _ _).setCell _ _ (Or.inl rfl)
  refine ⟨⟨?_, h.row.keep f1 (fun g e s => h.nb (by rw [← s]; exact e)), h.nb, h.xb, h.xv, fun k e => Nat.lt_of_lt_of_le (h.xl k e) f1.size, fun x hx => (h.outs x hx).keep f1 (fun k _ g => ⟨fun e => g.2 (Or.inl e), g⟩), h.cap⟩, ⟨f1.wide (fun i e => Or.inl e), fun _ _ e => e⟩⟩
  have := heap_setCell_same W b 1 _ _ (.int .i64 t) h.blk
  rw [this]
  rfl
theorem new_any {X : Nat → Prop} (w : World) (hX : ∀ k, X k → k < w.heap.size) :
    Calls Try.prog 9 #[] w fun e w' => e = .returned (.pointer (some ⟨w.heap.size, 0, none⟩)) ∧ PP X w' 0 [] w.heap.size (.slice none 0 0) ∧ Below w.heap.size w w' := by
  have HX : Aside _ := hX
  clear hX
  go_enter Try.func9, Try.ntmps9
  go_wp2
  go_ret
  have hB : Below w.heap.size w (w.alloc (.cells #[.slice none 0 0, .int .i64 0] 65)) := al _ _
  refine ⟨rfl, ⟨[], rfl, ⟨newB _ _, OwR.nil _ _ _, by simp [Value.ownBlock], fun e => by have := HX.out _ e; omega, fun k e => by simp [Value.ownBlock] at e, fun k e => Nat.lt_of_lt_of_le (HX.out k e) hB.size, fun x hx => (by cases hx), by simp⟩, List.Pairwise.nil⟩, hB⟩
theorem len_any {X : Nat → Prop} {w : World} {fl : Int} {L : List P} {b : Nat} {v : Value} (h : PP X w fl L b v) :
    Calls Try.prog 23 #[.pointer (some ⟨b, 0, none⟩)] w fun e w' => e = .returned (.int .i64 L.length) ∧ w = w' := by
  obtain ⟨l, rfl, hq, hs⟩ := h
  have c0 := hq.c0
  obtain ⟨a, c, rfl, _⟩ := hq.row.rd (N := fun _ => True) (fun _ _ => trivial)
  rw [List.length_map]
  clear hq hs
  go_enter Try.func23, Try.ntmps23
  go_wp2
  go_ret
  exact ⟨rfl, rfl⟩
theorem floor_any {X : Nat → Prop} {w : World} {fl : Int} {L : List P} {b : Nat} {v : Value} (h : PP X w fl L b v) :
    Calls Try.prog 24 #[.pointer (some ⟨b, 0, none⟩)] w fun e w' => e = .returned (.int .i64 fl) ∧ w = w' := by
  obtain ⟨l, rfl, hq, hs⟩ := h
  have c1 := hq.c1
  clear hq hs
  go_enter Try.func24, Try.ntmps24
  go_wp2
  go_ret
  exact ⟨rfl, rfl⟩
end Go.Proofs.Ytgifanioeeacdaa
