/- Proved: items of links as plain data, how they lie in memory; what stays while something is written. -/
import Derived.RangeFuncNested
import Derived.RangeFuncBound
import Derived.RangeFuncCalls
import Derived.RangeFuncLeaves
import Derived.RangeFuncFrom
import Derived.RangeFuncBox
import Derived.Maps.AppendAt
import Derived.Shelf.Abstract
import Derived.Shelf.RegionOpen
import Derived.WalkKit
import Derived.WalkSpells
import Derived.WalkLawsBesides
import Derived.Below
import Derived.OwnWalk
import Derived.OwnWalkIn
import Derived.TacticsInMore
import Derived.LoopNIn
import Derived.LoopIn
import Derived.LoopTactic
import Derived.Outline
import Derived.RegionTactic
import Derived.Shelf.RegionOpenPlain
import Derived.Sort.WalkB12
import Derived.Deep.RegionHeld3
import Derived.Deep.RegionWith
import Derived.Deep.QuietTactic
import Derived.Deep.RegionLaw
import Derived.BigQuiet
import Derived.Lib.QuietBelow
import Derived.Lib.SliceRun
import Derived.Laws.AppendOwnNone
import Derived.Laws.Rows
import Derived.RowKit3
import Derived.Test.YtkngokpildoljaaProg
namespace Go.Proofs.Ytkngokpildoljaa
open Go.RowKit Go.Shelf
set_option linter.unusedVariables false

/-! ### What stays -/
theorem clt {W : World} {p : Addr} {v : Value} (hc : W.cell? p = some v) : p.block < W.heap.size := by
  rcases Nat.lt_or_ge p.block W.heap.size with g | g
  · exact g
  · simp [World.cell?, Array.getElem?_eq_none g] at hc
theorem al (w : World) (o : Obj) : Below w.heap.size w (w.alloc o) := (Below.refl _ w).alloc (Nat.le_refl _) _
theorem Below.on {w W W1 : World} (h : Below w.heap.size w W) (g : Below W.heap.size W W1) : Below w.heap.size w W1 := h.trans (g.mono h.size)
/-- w2 is w1 but for new blocks and for what lies in the blocks of S. -/
structure Fr (S : Nat → Prop) (w w' : World) : Prop where
  os : w'.os = w.os
  tape : w'.tape = w.tape
  output : w'.output = w.output
  size : w.heap.size ≤ w'.heap.size
  block : ∀ k, k < w.heap.size → ¬ S k → w'.heap[k]? = w.heap[k]?
theorem Fr.refl (S : Nat → Prop) (w : World) : Fr S w w := ⟨rfl, rfl, rfl, Nat.le_refl _, fun _ _ _ => rfl⟩
theorem Fr.trans {S S' : Nat → Prop} {a b c : World} (h : Fr S a b) (k : Fr S' b c) (hs : ∀ i, i < a.heap.size → S' i → S i) : Fr S a c :=
  ⟨k.os.trans h.os, k.tape.trans h.tape, k.output.trans h.output, Nat.le_trans h.size k.size, fun i hi hn => (k.block i (Nat.lt_of_lt_of_le hi h.size) (fun g => hn (hs i hi g))).trans (h.block i hi hn)⟩
theorem Fr.then {S : Nat → Prop} {a b c : World} (h : Fr S a b) (k : Fr S b c) : Fr S a c := h.trans k fun _ _ g => g
theorem Fr.wide {S S' : Nat → Prop} {a b : World} (h : Fr S a b) (hs : ∀ i, S i → S' i) : Fr S' a b :=
  ⟨h.os, h.tape, h.output, h.size, fun i hi hn => h.block i hi fun g => hn (hs i g)⟩
theorem Fr.of_below {S : Nat → Prop} {a b : World} (h : Below a.heap.size a b) : Fr S a b := ⟨h.os, h.tape, h.output, h.size, fun i hi _ => h.block i hi⟩
theorem Fr.below {S : Nat → Prop} {a b : World} {B : Nat} (h : Fr S a b) (hB : B ≤ a.heap.size) (hs : ∀ i, S i → B ≤ i) : Below B a b :=
  ⟨h.os, h.tape, h.output, h.size, fun i hi => h.block i (Nat.lt_of_lt_of_le hi hB) fun g => by have := hs i g; omega⟩
theorem Fr.drew {S : Nat → Prop} {a b : World} (h : Fr S a b) : Fr S a b.drew := ⟨h.os, h.tape, h.output, h.size, h.block⟩
theorem Fr.setCell {S : Nat → Prop} {a b : World} (h : Fr S a b) (p : Addr) (v : Value) (hp : S p.block ∨ a.heap.size ≤ p.block) : Fr S a (b.setCell p v) :=
  ⟨h.os, h.tape, h.output, by simpa using h.size, fun i hi hn => by
    rw [Below.heap_setCell _ _ _ _ (fun e => by subst e; rcases hp with g | g; exact hn g; omega)]
    exact h.block i hi hn⟩
theorem Fr.alloc {S : Nat → Prop} {a b : World} (h : Fr S a b) (o : Obj) : Fr S a (b.alloc o) :=
  ⟨h.os, h.tape, h.output, by have := h.size; simp; omega, fun i hi hn => by
    rw [Below.heap_alloc _ _ _ (Nat.lt_of_lt_of_le hi h.size)]
    exact h.block i hi hn⟩
theorem Fr.cell {S : Nat → Prop} {a b : World} (h : Fr S a b) {p : Addr} (hp : p.block < a.heap.size) (hn : ¬ S p.block) : b.cell? p = a.cell? p := World.cell?_of_block (h.block _ hp hn)
theorem Fr.frozen {S : Nat → Prop} {a b : World} (h : Fr S a b) {p : Addr} (hp : p.block < a.heap.size) (hn : ¬ S p.block) : b.frozen? p = a.frozen? p := World.frozen?_of_block (h.block _ hp hn)

/-! ### Items -/
/-- An item: its kind, its message's time, sender, number, receiver, class and body, its colour. -/
structure It where
  k : Int
  t : Int
  fr : Int
  sq : Int
  dst : Int
  cl : Int
  bd : Int
  co : Int
theorem It.same {x y : It} (h1 : x.k = y.k) (h2 : x.t = y.t) (h3 : x.fr = y.fr) (h4 : x.sq = y.sq) (h5 : x.dst = y.dst) (h6 : x.cl = y.cl) (h7 : x.bd = y.bd) (h8 : x.co = y.co) : x = y := by
  cases x; cases y; simp_all
def it0 : It := ⟨0, 0, 0, 0, 0, 0, 0, 0⟩
abbrev iv (x : It) : Value := .agg #[.int .i64 x.k, .int .i64 x.t, .int .i64 x.fr, .int .i64 x.sq, .int .i64 x.dst, .int .i64 x.cl, .int .i64 x.bd, .int .i64 x.co]
abbrev ics (x : It) : Array Value := #[.int .i64 x.k, .int .i64 x.t, .int .i64 x.fr, .int .i64 x.sq, .int .i64 x.dst, .int .i64 x.cl, .int .i64 x.bd, .int .i64 x.co]
def encT (x : It) : List Value := [.int .i64 x.k, .int .i64 x.t, .int .i64 x.fr, .int .i64 x.sq, .int .i64 x.dst, .int .i64 x.cl, .int .i64 x.bd, .int .i64 x.co]
theorem encT_len (x : It) : (encT x).length = 8 := rfl
theorem encT_one (x : It) : ∀ v ∈ encT x, v.oneCell' = true := by
  intro v hv
  simp [encT] at hv
  rcases hv with rfl | rfl | rfl | rfl | rfl | rfl | rfl | rfl <;> rfl
def nthT (l : List It) (i : Nat) : It := l.getD i it0

/-! ### A block of 8322 numbers -/
/-- In block B lie the numbers f. -/
structure Blk (w : World) (B : Nat) (f : Nat → Int) : Prop where
  c : ∀ i, i < 8322 → w.cell? ⟨B, i, none⟩ = some (.int .i64 (f i)) ∧ w.frozen? ⟨B, i, none⟩ = false
theorem Blk.lt {w : World} {B : Nat} {f : Nat → Int} (h : Blk w B f) : B < w.heap.size := clt (h.c 0 (by omega)).1
theorem Blk.keep {S : Nat → Prop} {w w' : World} {B : Nat} {f : Nat → Int} (h : Blk w B f) (hf : Fr S w w') (hn : ¬ S B) : Blk w' B f := ⟨fun i hi =>
  ⟨(hf.cell (p := ⟨B, i, none⟩) h.lt hn).trans (h.c i hi).1, (hf.frozen (p := ⟨B, i, none⟩) h.lt hn).trans (h.c i hi).2⟩⟩
theorem Blk.below {w w' : World} {B : Nat} {f : Nat → Int} (h : Blk w B f) (hb : Below w.heap.size w w') : Blk w' B f := h.keep (Fr.of_below (S := fun _ => False) hb) (fun g => g)
def upF (f : Nat → Int) (i : Nat) (v : Int) : Nat → Int := fun j => if j = i then v else f j
theorem Blk.set {w : World} {B : Nat} {f : Nat → Int} (h : Blk w B f) (i : Nat) (v : Int) : Blk (w.setCell ⟨B, i, none⟩ (.int .i64 v)) B (upF f i v) := ⟨fun j hj => by
  by_cases e : j = i
  · subst e
    refine ⟨?_, ?_⟩
    · rw [World.cell?_setCell_same' _ _ _ (by rw [(h.c j hj).1]; rfl)]
      simp [upF]
    · rw [World.frozen?_setCell]; exact (h.c j hj).2
  · refine ⟨?_, ?_⟩
    · rw [World.cell?_setCell_other _ _ _ _ (by intro g; exact e (by cases g; rfl))]
      simp [upF, e, (h.c j hj).1]
    · rw [World.frozen?_setCell]; exact (h.c j hj).2⟩
end Go.Proofs.Ytkngokpildoljaa
