/- Proved: two rows, and three rows, that are made beside each other. -/
import Derived.Test.YtpkemgpnpadkfaaRq
namespace Go.Proofs.Ytpkemgpnpadkfaa
open Go.RowKit Go.Shelf Go.Sort
set_option linter.unusedVariables false

/-- Two rows that are made since w. -/
structure T2 {α β : Type} (Ca : Cd α) (ea : TypeId) (Cb : Cd β) (eb : TypeId) (w W : World) (va vb : Value) (A : List α) (B : List β) : Prop where
  ra : OwR Ca ea W va A
  rb : OwR Cb eb W vb B
  na : ∀ k, va.ownBlock = some k → w.heap.size ≤ k
  nb : ∀ k, vb.ownBlock = some k → w.heap.size ≤ k
  ne : ∀ k, va.ownBlock = some k → vb.ownBlock ≠ some k
  bel : Below w.heap.size w W
theorem T2.on {α β : Type} {Ca : Cd α} {ea : TypeId} {Cb : Cd β} {eb : TypeId} {w W W2 : World} {va vb : Value} {A : List α} {B : List β} (h : T2 Ca ea Cb eb w W va vb A B) (hb : Below W.heap.size W W2) : T2 Ca ea Cb eb w W2 va vb A B := ⟨h.ra.below hb, h.rb.below hb, h.na, h.nb, h.ne, Below.on h.bel hb⟩
theorem T2.flip {α β : Type} {Ca : Cd α} {ea : TypeId} {Cb : Cd β} {eb : TypeId} {w W : World} {va vb : Value} {A : List α} {B : List β} (h : T2 Ca ea Cb eb w W va vb A B) : T2 Cb eb Ca ea w W vb va B A := ⟨h.rb, h.ra, h.nb, h.na, fun k e f => h.ne k f e, h.bel⟩
theorem T2.app {α β : Type} {Ca : Cd α} {ea : TypeId} {Cb : Cd β} {eb : TypeId} {w W w2 : World} {va vb va' : Value} {A A' : List α} {B : List β} (h : T2 Ca ea Cb eb w W va vb A B) (ho : OwR Ca ea w2 va' A') (hm : Mw (fun k => va.ownBlock = some k) (fun k => va'.ownBlock = some k) W w2) : T2 Ca ea Cb eb w w2 va' vb A' B :=
  ⟨ho, h.rb.keep hm.fr (fun g e s => h.ne g s e), fun k e => new_ge h.bel.size h.na hm e, h.nb, fun k e f => h.ne k (hm.new k (h.rb.lt f) e) f, h.bel.trans (hm.fr.below h.bel.size h.na)⟩
/-- Both begin. -/
theorem T2.start {α β : Type} (Ca : Cd α) (ea : TypeId) (Cb : Cd β) (eb : TypeId) {w W : World} (hb : Below w.heap.size w W) : T2 Ca ea Cb eb w ((W.alloc (.cells #[] ea)).alloc (.cells #[] eb)) (.slice (some ⟨W.heap.size, 0, none⟩) 0 0) (.slice (some ⟨W.heap.size + 1, 0, none⟩) 0 0) [] [] := by
  have e : (W.alloc (.cells #[] ea)).heap.size = W.heap.size + 1 := by simp
  refine ⟨(OwR.made Ca ea W).below (al _ _), ?_, fun k e => ?_, fun k e => ?_, fun k e f => ?_, Below.on hb (Below.on (al _ _) (al _ _))⟩
  · have := OwR.made Cb eb (W.alloc (.cells #[] ea))
    rw [e] at this
    exact this
  · simp [Value.ownBlock] at e
    have := hb.size
    omega
  · simp [Value.ownBlock] at e
    have := hb.size
    omega
  · simp [Value.ownBlock] at e f
    omega
/-- Three rows of what is kept. -/
structure T3 (w W : World) (va vb vc : Value) (A B C : List H) : Prop where
  t : T2 cH 58 cH 58 w W va vb A B
  rc : OwR cH 58 W vc C
  nc : ∀ k, vc.ownBlock = some k → w.heap.size ≤ k
  ac : ∀ k, vc.ownBlock = some k → va.ownBlock ≠ some k
  bc : ∀ k, vc.ownBlock = some k → vb.ownBlock ≠ some k
theorem T3.on {w W W2 : World} {va vb vc : Value} {A B C : List H} (h : T3 w W va vb vc A B C) (hb : Below W.heap.size W W2) : T3 w W2 va vb vc A B C := ⟨h.t.on hb, h.rc.below hb, h.nc, h.ac, h.bc⟩
theorem T3.app {w W w2 : World} {va vb vc vc' : Value} {A B C C' : List H} (h : T3 w W va vb vc A B C) (ho : OwR cH 58 w2 vc' C') (hm : Mw (fun k => vc.ownBlock = some k) (fun k => vc'.ownBlock = some k) W w2) : T3 w w2 va vb vc' A B C' := by
  refine ⟨⟨h.t.ra.keep hm.fr (fun g e s => h.ac g s e), h.t.rb.keep hm.fr (fun g e s => h.bc g s e), h.t.na, h.t.nb, h.t.ne, h.t.bel.trans (hm.fr.below h.t.bel.size h.nc)⟩, ho, fun k e => new_ge h.t.bel.size h.nc hm e, fun k e f => h.ac k (hm.new k (h.t.ra.lt f) e) f, fun k e f => h.bc k (hm.new k (h.t.rb.lt f) e) f⟩
/-- The third one begins. -/
theorem T3.start {w W : World} {va vb : Value} {A B : List H} (h : T2 cH 58 cH 58 w W va vb A B) : T3 w (W.alloc (.cells #[] 58)) va vb (.slice (some ⟨W.heap.size, 0, none⟩) 0 0) A B [] := by
  refine ⟨h.on (al _ _), OwR.made cH _ W, fun k e => ?_, fun k e f => ?_, fun k e f => ?_⟩
  · simp [Value.ownBlock] at e
    have := h.bel.size
    omega
  · simp [Value.ownBlock] at e
    have := h.ra.lt f
    omega
  · simp [Value.ownBlock] at e
    have := h.rb.lt f
    omega
/-- The third one in the place of the first. -/
theorem T3.over {w W : World} {va vb vc : Value} {A B C : List H} (h : T3 w W va vb vc A B C) : T2 cH 58 cH 58 w W vc vb C B := ⟨h.rc, h.t.rb, h.nc, h.t.nb, h.bc, h.t.bel⟩
end Go.Proofs.Ytpkemgpnpadkfaa
