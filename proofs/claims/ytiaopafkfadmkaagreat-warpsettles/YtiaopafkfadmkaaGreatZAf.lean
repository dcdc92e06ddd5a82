/- Joined: the texts that follow, each with its own sentence. -/
import Derived.Test.YtiaopafkfadmkaaGreatZAa
set_option linter.unusedVariables false
set_option maxRecDepth 100000
namespace Go.Proofs.YtiaopafkfadmkaaGreat.A
open Go.Proofs.YtiaopafkfadmkaaGreat.B
open Go.RowKit Go.Shelf Go.Sort
def tyD : Ty cE 113 133 := ⟨.agg #[.int .i64 0, .int .i64 0, .int .i64 0, .int .i64 0, .int .i64 0, .int .i64 0, .int .i64 0, .int .i64 0, .int .i64 0, .slice none 0 0], 96, Tryz.underlying113, by kernel_rfl, rfl, by decide⟩
structure RQ (Y : Nat → Prop) (W : World) (fl : Int) (l : List E) (b : Nat) (ra : Option Addr) (rc : Nat) : Prop where
 blk : W.heap[b]? = some (.cells #[.int .i64 fl, .slice ra l.length rc] 115 (0, 0))
 yb : ¬ Y b
 row : RdN cE (fun k => k ≠ b ∧ ¬ Y k) W ra l
 outs : ∀ x ∈ l, Out (fun k => k ≠ b ∧ ¬ Y k) W x
 yl : ∀ k, Y k → k < W.heap.size
 cap : l.length ≤ 64
structure RwS {α : Type} (C : Cd α) (t : TypeId) (w W : World) (v : Value) (l : List α) : Prop where
 own : OwR C t W v l
 new : ∀ k, v.ownBlock = some k → w.heap.size ≤ k
 bel : Below w.heap.size w W
theorem RwS.on {α : Type} {C : Cd α} {t : TypeId} {w W W2 : World} {v : Value} {l : List α} (h : RwS C t w W v l) (hb : Below W.heap.size W W2) : RwS C t w W2 v l := ⟨h.own.below hb, h.new, Below.on h.bel hb⟩
theorem RwS.app {α : Type} {C : Cd α} {t : TypeId} {w W w' : World} {v v' : Value} {l X : List α} (h : RwS C t w W v l) (ho : OwR C t w' v' X) (hm : Mw (fun k => v.ownBlock = some k) (fun k => v'.ownBlock = some k) W w') : RwS C t w w' v' X :=
 ⟨ho, fun k e => by
  rcases Nat.lt_or_ge k W.heap.size with g | g
  ·exact h.new k (hm.new k g e)
  ·have := h.bel.size; omega, h.bel.trans (hm.fr.below h.bel.size h.new)⟩
theorem RwS.made {α : Type} (C : Cd α) (t : TypeId) {w W : World} (hb : Below w.heap.size w W) : RwS C t w (W.alloc (.cells #[] t)) (.slice (some ⟨W.heap.size, 0, none⟩) 0 0) [] :=
 ⟨OwR.made C t W, fun k e => by have := hb.size; simp [Value.ownBlock] at e; omega, Below.on hb (al _ _)⟩
end Go.Proofs.YtiaopafkfadmkaaGreat.A
