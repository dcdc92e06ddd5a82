/- Joined: the texts that follow, each with its own sentence. -/
import Derived.Maps.AppendAt
import Derived.Maps.RangeWalk
import Derived.Maps.OwnSet
import Derived.Shelf.RegionOpen
import Derived.WalkKit
import Derived.WalkSpells
import Derived.WalkLawsBesides
import Derived.Below
import Derived.OwnWalk
import Derived.LoopTactic
import Derived.Outline
import Derived.RegionTactic
import Derived.Shelf.RegionOpenPlain
import Derived.Sort.WalkB12
import Derived.Deep.RegionHeld3
import Derived.Deep.RegionWith
import Derived.Deep.QuietTactic
import Derived.Deep.RegionLaw
import Derived.BigQuiet
import Derived.Lib.QuietBelow
import Derived.Lib.SliceRun
import Derived.Laws.AppendOwnNone
import Derived.Laws.Rows
import Derived.RowKit3
import Derived.Laws.OwnMore
import Derived.Laws.CopyRow
import Derived.Deep.LoopGhost
import Derived.BigRegion
import Derived.Shelf.GgSortFunc.RowK
import Derived.Shelf.SlicesQ.Reverse
import Derived.Shelf.SlicesE.Clone
import Derived.Test.YtiaopafkfadmkaaGreatProg
set_option linter.unusedVariables false
set_option maxRecDepth 100000
namespace Go.Proofs.YtiaopafkfadmkaaGreat.B
open Go.RowKit Go.Shelf
theorem clt {W : World} {p : Addr} {v : Value} (hc : W.cell? p = some v) : p.block < W.heap.size := by
 rcases Nat.lt_or_ge p.block W.heap.size with g | g
 ·exact g
 ·simp [World.cell?, Array.getElem?_eq_none g] at hc
theorem al (w : World) (o : Obj) : Below w.heap.size w (w.alloc o) := (Below.refl _ w).alloc (Nat.le_refl _) _
theorem Below.on {w W W1 : World} (h : Below w.heap.size w W) (g : Below W.heap.size W W1) : Below w.heap.size w W1 := h.trans (g.mono h.size)
structure Fr (S : Nat → Prop) (w w' : World) : Prop where
 os : w'.os = w.os
 tape : w'.tape = w.tape
 output : w'.output = w.output
 size : w.heap.size ≤ w'.heap.size
 block : ∀ k, k < w.heap.size → ¬ S k → w'.heap[k]? = w.heap[k]?
theorem Fr.refl (S : Nat → Prop) (w : World) : Fr S w w := ⟨rfl, rfl, rfl, Nat.le_refl _, fun _ _ _ => rfl⟩
theorem Fr.trans {S S' : Nat → Prop} {a b c : World} (h : Fr S a b) (k : Fr S' b c) (hs : ∀ i, i < a.heap.size → S' i → S i) : Fr S a c :=
 ⟨k.os.trans h.os, k.tape.trans h.tape, k.output.trans h.output, Nat.le_trans h.size k.size, fun i hi hn => (k.block i (Nat.lt_of_lt_of_le hi h.size) (fun g => hn (hs i hi g))).trans (h.block i hi hn)⟩
theorem Fr.then {S : Nat → Prop} {a b c : World} (h : Fr S a b) (k : Fr S b c) : Fr S a c := h.trans k fun _ _ g => g
theorem Fr.wide {S S' : Nat → Prop} {a b : World} (h : Fr S a b) (hs : ∀ i, S i → S' i) : Fr S' a b :=
 ⟨h.os, h.tape, h.output, h.size, fun i hi hn => h.block i hi fun g => hn (hs i g)⟩
theorem Fr.of_below {S : Nat → Prop} {a b : World} (h : Below a.heap.size a b) : Fr S a b := ⟨h.os, h.tape, h.output, h.size, fun i hi _ => h.block i hi⟩
theorem Fr.below {S : Nat → Prop} {a b : World} {B : Nat} (h : Fr S a b) (hB : B ≤ a.heap.size) (hs : ∀ i, S i → B ≤ i) : Below B a b :=
 ⟨h.os, h.tape, h.output, h.size, fun i hi => h.block i (Nat.lt_of_lt_of_le hi hB) fun g => by have := hs i g; omega⟩
theorem Fr.drew {S : Nat → Prop} {a b : World} (h : Fr S a b) : Fr S a b.drew := ⟨h.os, h.tape, h.output, h.size, h.block⟩
theorem Fr.setCell {S : Nat → Prop} {a b : World} (h : Fr S a b) (p : Addr) (v : Value) (hp : S p.block ∨ a.heap.size ≤ p.block) : Fr S a (b.setCell p v) :=
 ⟨h.os, h.tape, h.output, by simpa using h.size, fun i hi hn => by
  rw [Below.heap_setCell _ _ _ _ (fun e => by subst e; rcases hp with g | g; exact hn g; omega)]
  exact h.block i hi hn⟩
theorem Fr.alloc {S : Nat → Prop} {a b : World} (h : Fr S a b) (o : Obj) : Fr S a (b.alloc o) :=
 ⟨h.os, h.tape, h.output, by have := h.size; simp; omega, fun i hi hn => by
  rw [Below.heap_alloc _ _ _ (Nat.lt_of_lt_of_le hi h.size)]
  exact h.block i hi hn⟩
theorem Fr.cell {S : Nat → Prop} {a b : World} (h : Fr S a b) {p : Addr} (hp : p.block < a.heap.size) (hn : ¬ S p.block) : b.cell? p = a.cell? p := World.cell?_of_block (h.block _ hp hn)
theorem Fr.frozen {S : Nat → Prop} {a b : World} (h : Fr S a b) {p : Addr} (hp : p.block < a.heap.size) (hn : ¬ S p.block) : b.frozen? p = a.frozen? p := World.frozen?_of_block (h.block _ hp hn)
theorem Fr.of_grown {a b : World} {r : Option Nat} (h : a.grownBy b r) : Fr (fun i => r = some i) a b := ⟨h.os, h.tape, h.output, h.size, fun i hi hn => h.block i hi fun e => hn e.symm⟩
theorem Fr.drewN {S : Nat → Prop} {a b : World} (h : Fr S a b) (n : Nat) : Fr S a (b.drewN n) := ⟨h.os, h.tape, h.output, h.size, h.block⟩
theorem below_grow (w : World) (q : Nat) (os : Array Obj) : Below w.heap.size w (Go.Sort.grow (w.drewN q) os) :=
 ⟨rfl, rfl, rfl, by simp [Go.Sort.grow, World.drewN], fun k hk => by simp [Go.Sort.grow, World.drewN, Array.getElem?_append, hk]⟩
theorem fr_setRow (w : World) (g : Nat) (cs : Array Value) : Fr (fun k => k = g) w (w.setRow g cs) := ⟨rfl, rfl, rfl, by simp [World.setRow], fun k hk hn => setRow_other w g k cs (fun e => hn e)⟩
structure Mw (X X' : Nat → Prop) (w w' : World) : Prop where
 fr : Fr X w w'
 new : ∀ k, k < w.heap.size → X' k → X k
theorem Mw.refl (X : Nat → Prop) (w : World) : Mw X X w w := ⟨Fr.refl _ _, fun _ _ h => h⟩
theorem Mw.below {X : Nat → Prop} {w w' : World} (h : Below w.heap.size w w') : Mw X X w w' := ⟨Fr.of_below h, fun _ _ h => h⟩
theorem Mw.trans {X Y Z : Nat → Prop} {a b c : World} (h : Mw X Y a b) (g : Mw Y Z b c) : Mw X Z a c :=
 ⟨h.fr.trans g.fr (fun i hi e => h.new i hi e), fun k hk e => h.new k hk (g.new k (Nat.lt_of_lt_of_le hk h.fr.size) e)⟩
theorem Mw.bel {X X' : Nat → Prop} {w w' : World} {B : Nat} (h : Mw X X' w w') (hB : B ≤ w.heap.size) (hs : ∀ i, X i → B ≤ i) : Below B w w' := h.fr.below hB hs
end Go.Proofs.YtiaopafkfadmkaaGreat.B
namespace Go.Proofs.YtiaopafkfadmkaaGreat.B
open Go.RowKit Go.Shelf
structure Cd (α : Type) where
 enc : α → List Value
 sz : Nat
 z : α
 len : ∀ x, (enc x).length = sz
 one : ∀ x, ∀ v ∈ enc x, v.oneCell' = true
 pos : 0 < sz
def nth {α : Type} (C : Cd α) (l : List α) (i : Nat) : α := l.getD i C.z
def flat {α : Type} (C : Cd α) (l : List α) : List Value := l.flatMap C.enc
theorem nth_get {α : Type} {C : Cd α} {l : List α} {i : Nat} (h : i < l.length) : nth C l i = l[i] := by simp [nth, h]
theorem nth_mem {α : Type} {C : Cd α} {l : List α} {i : Nat} (h : i < l.length) : nth C l i ∈ l := by rw [nth_get h]; exact List.getElem_mem _
theorem mem_nth {α : Type} (C : Cd α) {l : List α} {x : α} (h : x ∈ l) : ∃ i, i < l.length ∧ nth C l i = x := by
 obtain ⟨i, hi, rfl⟩ := List.mem_iff_getElem.1 h
 exact ⟨i, hi, nth_get hi⟩
theorem nth_drop {α : Type} {C : Cd α} {l : List α} {i j : Nat} : nth C (l.drop i) j = nth C l (i + j) := by simp [nth]
theorem nth_take {α : Type} {C : Cd α} {l : List α} {i j : Nat} (h : j < i) : nth C (l.take i) j = nth C l j := by simp [nth, h]
theorem flat_len {α : Type} (C : Cd α) (l : List α) : (flat C l).length = l.length * C.sz := by
 induction l with
 | nil => simp [flat]
 | cons x r ih => simp only [flat, List.flatMap_cons, List.length_append, C.len, List.length_cons, Nat.add_mul] at *; omega
theorem flat_append {α : Type} (C : Cd α) (a b : List α) : flat C (a ++ b) = flat C a ++ flat C b := by simp [flat]
theorem flat_get {α : Type} (C : Cd α) (l : List α) (i c : Nat) (hi : i < l.length) (hc : c < C.sz) : (flat C l)[i * C.sz + c]? = (C.enc (nth C l i))[c]? := by
 induction l generalizing i with
 | nil => simp at hi
 | cons x r ih =>
  rw [show flat C (x :: r) = C.enc x ++ flat C r by simp [flat]]
  cases i with
  | zero => rw [List.getElem?_append_left (by rw [C.len]; omega)]; simp [nth]
  | succ j =>
   rw [List.getElem?_append_right (by rw [C.len, Nat.add_mul]; omega), C.len, show (j + 1) * C.sz + c - C.sz = j * C.sz + c by rw [Nat.add_mul]; omega, ih j (by simpa using hi)]
   simp [nth]
theorem flat_one {α : Type} (C : Cd α) (l : List α) : ∀ v ∈ flat C l, v.oneCell' = true := by
 intro v hv
 obtain ⟨m, _, h⟩ := List.mem_flatMap.1 hv
 exact C.one m v h
theorem flat_take {α : Type} (C : Cd α) (l : List α) (n : Nat) : flat C (l.take n) = (flat C l).take (n * C.sz) := by
 by_cases h : n ≤ l.length
 ·have e : flat C l = flat C (l.take n) ++ flat C (l.drop n) := by rw [← flat_append, List.take_append_drop]
  have h2 : (flat C (l.take n)).length = n * C.sz := by rw [flat_len, List.length_take]; congr 1; omega
  rw [e, ← h2, List.take_left]
 ·rw [List.take_of_length_le (by omega), List.take_of_length_le (by rw [flat_len]; exact Nat.mul_le_mul_right _ (by omega))]
theorem flat_drop {α : Type} (C : Cd α) (l : List α) (n : Nat) : flat C (l.drop n) = (flat C l).drop (n * C.sz) := by
 by_cases h : n ≤ l.length
 ·have e : flat C l = flat C (l.take n) ++ flat C (l.drop n) := by rw [← flat_append, List.take_append_drop]
  have h2 : (flat C (l.take n)).length = n * C.sz := by rw [flat_len, List.length_take]; congr 1; omega
  rw [e, ← h2, List.drop_left]
 ·rw [List.drop_of_length_le (by omega), List.drop_of_length_le (by rw [flat_len]; exact Nat.mul_le_mul_right _ (by omega))]; rfl
theorem flat_div {j n k : Nat} (h : j < n * k) (hk : 0 < k) : j / k < n ∧ j % k < k ∧ j / k * k + j % k = j :=
 ⟨Nat.div_lt_of_lt_mul (by rw [Nat.mul_comm]; exact h), Nat.mod_lt _ hk, by rw [Nat.mul_comm]; exact Nat.div_add_mod _ _⟩
def RdN {α : Type} (C : Cd α) (N : Nat → Prop) (W : World) (a : Option Addr) (l : List α) : Prop :=
 l ≠ [] → ∃ b off, a = some ⟨b, off, none⟩ ∧ b < W.heap.size ∧ N b ∧ ∀ i, i < l.length → ∀ c, c < C.sz → W.cell? ⟨b, off + i * C.sz + c, none⟩ = (C.enc (nth C l i))[c]?
theorem RdN.keep {α : Type} {C : Cd α} {N N' S : Nat → Prop} {W W' : World} {a : Option Addr} {l : List α} (h : RdN C N W a l) (hf : Fr S W W') (hN : ∀ k, k < W.heap.size → N k → ¬ S k ∧ N' k) : RdN C N' W' a l := fun g => by
 obtain ⟨b, off, rfl, hB, hb, hc⟩ := h g
 exact ⟨b, off, rfl, Nat.lt_of_lt_of_le hB hf.size, (hN b hB hb).2, fun i hi c hc3 => (hf.cell (p := ⟨b, off + i * C.sz + c, none⟩) hB (hN b hB hb).1).trans (hc i hi c hc3)⟩
theorem RdN.below {α : Type} {C : Cd α} {N : Nat → Prop} {W W' : World} {a : Option Addr} {l : List α} (h : RdN C N W a l) (hb : Below W.heap.size W W') : RdN C N W' a l :=
 h.keep (Fr.of_below (S := fun _ => False) hb) (fun _ _ g => ⟨fun e => e, g⟩)
theorem RdN.wide {α : Type} {C : Cd α} {N N' : Nat → Prop} {W : World} {a : Option Addr} {l : List α} (h : RdN C N W a l) (hN : ∀ k, k < W.heap.size → N k → N' k) : RdN C N' W a l :=
 h.keep (Fr.refl (fun _ => False) W) (fun k hk g => ⟨fun e => e, hN k hk g⟩)
theorem RdN.nil {α : Type} (C : Cd α) (N : Nat → Prop) (W : World) (a : Option Addr) : RdN C N W a [] := fun g => absurd rfl g
theorem RdN.flat {α : Type} {C : Cd α} {N : Nat → Prop} {W : World} {b off : Nat} {l : List α} (h : RdN C N W (some ⟨b, off, none⟩) l) : ∀ j u, (flat C l)[j]? = some u → W.cell? ⟨b, off + j, none⟩ = some u := fun j u hj => by
 have hj' : j < l.length * C.sz := by have := (List.getElem?_eq_some_iff.1 hj).1; rwa [flat_len] at this
 have hl : l ≠ [] := by intro e; simp [e] at hj'
 obtain ⟨b', off', e, hB, _, hc⟩ := h hl
 simp at e
 obtain ⟨rfl, rfl⟩ := e
 obtain ⟨hq, hr, e2⟩ := flat_div hj' C.pos
 have h1 := hc (j / C.sz) hq (j % C.sz) hr
 rw [← flat_get C l _ _ hq hr, Nat.add_assoc, e2] at h1
 rw [h1, hj]
theorem RdN.part {α : Type} {C : Cd α} {N : Nat → Prop} {W : World} {b off : Nat} {l : List α} (h : RdN C N W (some ⟨b, off, none⟩) l) (i n : Nat) : RdN C N W (some ⟨b, off + i * C.sz, none⟩) ((l.drop i).take n) := fun g => by
 obtain ⟨b', off', e, hB, hb, hc⟩ := h (by intro e; apply g; rw [e]; simp)
 simp at e
 obtain ⟨rfl, rfl⟩ := e
 refine ⟨b, _, rfl, hB, hb, fun j hj c hc3 => ?_⟩
 rw [List.length_take, List.length_drop] at hj
 rw [nth_take (by omega), nth_drop, ← hc (i + j) (by omega) c hc3]
 congr 2
 rw [Nat.add_mul]; omega
theorem RdN.new {α : Type} (C : Cd α) (W : World) (x : α) (e : TypeId) (cs : Array Value) (hcs : cs = (C.enc x).toArray) {N : Nat → Prop} (hN : N W.heap.size) : RdN C N (W.alloc (.cells cs e)) (some ⟨W.heap.size, 0, none⟩) [x] := fun _ => by
 refine ⟨W.heap.size, 0, rfl, by simp, hN, fun i hi c hc => ?_⟩
 obtain rfl : i = 0 := by simpa using hi
 subst hcs
 simp only [World.cell?, heap_alloc_new, nth]
 simp
theorem RdN.newAt {α : Type} (C : Cd α) (W : World) (x : α) (e : TypeId) (cs : Array Value) (b : Nat) (hb : W.heap.size = b) (hcs : cs = (C.enc x).toArray) {N : Nat → Prop} (hN : N b) : RdN C N (W.alloc (.cells cs e)) (some ⟨b, 0, none⟩) [x] := by
 subst hb
 exact RdN.new C W x e cs hcs hN
def OwR {α : Type} (C : Cd α) (e : TypeId) (W : World) (v : Value) (l : List α) : Prop := W.ownsRow 0 e C.sz v l.length (YtiaopafkfadmkaaGreat.B.flat C l)
theorem OwR.nil {α : Type} (C : Cd α) (e : TypeId) (W : World) : OwR C e W (.slice none 0 0) [] := World.ownsRow_nil _ _ _ _
theorem OwR.made {α : Type} (C : Cd α) (e : TypeId) (W : World) : OwR C e (W.alloc (.cells #[] e)) (.slice (some ⟨W.heap.size, 0, none⟩) 0 0) [] := World.ownsRow_made W #[] 0 (Nat.zero_le _) (Nat.zero_le _) (by simp)
theorem OwR.keep {α : Type} {C : Cd α} {e : TypeId} {S : Nat → Prop} {W W' : World} {v : Value} {l : List α} (h : OwR C e W v l) (hf : Fr S W W') (hd : ∀ g, v.ownBlock = some g → ¬ S g) : OwR C e W' v l := by
 refine ⟨h.1, ?_⟩
 rcases h.2 with hn | ⟨g, cap, cur, rfl, hb2, hgg, rest⟩
 ·exact .inl hn
 ·exact .inr ⟨g, cap, cur, rfl, hb2, (hf.block g (Array.getElem?_eq_some_iff.1 hgg).1 (hd g rfl)).trans hgg, rest⟩
theorem OwR.below {α : Type} {C : Cd α} {e : TypeId} {W W' : World} {v : Value} {l : List α} (h : OwR C e W v l) (hb : Below W.heap.size W W') : OwR C e W' v l := h.keep (Fr.of_below (S := fun _ => False) hb) (fun _ _ e => e)
theorem OwR.lt {α : Type} {C : Cd α} {e : TypeId} {W : World} {v : Value} {l : List α} (h : OwR C e W v l) {g : Nat} (hg : v.ownBlock = some g) : g < W.heap.size := by
 rcases h.2 with ⟨rfl, hn⟩ | ⟨g', cap, cur, rfl, _, hh, _⟩
 ·simp [Value.ownBlock] at hg
 ·simp [Value.ownBlock] at hg
  subst hg
  exact (Array.getElem?_eq_some_iff.1 hh).1
theorem OwR.rd {α : Type} {C : Cd α} {e : TypeId} {W : World} {v : Value} {l : List α} (h : OwR C e W v l) {N : Nat → Prop} (hN : ∀ g, v.ownBlock = some g → N g) : ∃ a c, v = .slice a l.length c ∧ RdN C N W a l := by
 have h0 := h
 rcases h.2 with ⟨rfl, hn⟩ | ⟨g, cap, cur, rfl, _, hg, _⟩
 ·exact ⟨none, 0, by rw [hn], fun hl => absurd (List.length_eq_zero_iff.1 hn) hl⟩
 ·refine ⟨_, cap, rfl, fun _ => ⟨g, 0, rfl, (Array.getElem?_eq_some_iff.1 hg).1, hN g rfl, fun i hi c hc => ?_⟩⟩
  rw [Nat.zero_add, World.ownsRow.cellAt h0 _ (by have := Nat.mul_le_mul_right C.sz (show i + 1 ≤ l.length from hi); rw [Nat.add_mul] at this; omega), flat_get C l i c hi hc]
theorem OwR.look {α : Type} {C : Cd α} {e : TypeId} {W : World} {a : Option Addr} {n c : Nat} {l : List α} (h : OwR C e W (.slice a n c) l) : n = l.length ∧ RdN C (fun k => (Value.slice a n c).ownBlock = some k) W a l := by
 obtain ⟨a', c', e, hr⟩ := h.rd (N := fun k => (Value.slice a n c).ownBlock = some k) (fun g e => e)
 simp at e
 obtain ⟨rfl, rfl, rfl⟩ := e
 exact ⟨rfl, hr⟩
theorem OwR.block {α : Type} {C : Cd α} {e : TypeId} {W : World} {g n cap : Nat} {l : List α} (h : OwR C e W (.slice (some ⟨g, 0, none⟩) n cap) l) :
  n = l.length ∧ ∃ cur, W.heap[g]? = some (.cells cur e (0, 0)) ∧ l.length ≤ cap ∧ cap ≤ maxLen ∧ cur.size = cap * C.sz ∧ cur.toList.take (l.length * C.sz) = YtiaopafkfadmkaaGreat.B.flat C l := by
 rcases h.2 with ⟨h0, _⟩ | ⟨g', cap', cur, hv, hb, hg, hnc, hcm, hcs, ht⟩
 ·simp at h0
 ·simp at hv
  obtain ⟨rfl, rfl, rfl⟩ := hv
  exact ⟨rfl, cur, hg, hnc, hcm, hcs, ht⟩
theorem own_of_block {α : Type} {C : Cd α} {e : TypeId} {W : World} {g cap : Nat} {l : List α} {cur : Array Value} (hg : W.heap[g]? = some (.cells cur e (0, 0))) (h1 : l.length ≤ cap) (h2 : cap ≤ maxLen) (h3 : cur.size = cap * C.sz) (h4 : cur.toList.take (l.length * C.sz) = YtiaopafkfadmkaaGreat.B.flat C l) :
  OwR C e W (.slice (some ⟨g, 0, none⟩) l.length cap) l := ⟨flat_len C l, .inr ⟨g, cap, cur, rfl, Nat.zero_le _, hg, h1, h2, h3, h4⟩⟩
structure Ty {α : Type} (C : Cd α) (t e : TypeId) where
 zv : Value
 by' : Nat
 hu : Tryz.prog.underlying t = some (.slice e)
 hi : (Tryz.prog.info? e).map (fun i => (i.zero, i.size, i.bytes)) = some (some zv, C.sz, by')
 hz : zv.cells.size = C.sz
 hb : by' ≤ 1000
theorem append_R {α : Type} {C : Cd α} {t e : TypeId} (T : Ty C t e) {N : Nat → Prop} {W : World} {v : Value} {a : Option Addr} {c : Nat} {l1 l2 : List α} (h1 : OwR C e W v l1) (h2 : RdN C N W a l2) (hl1 : l1.length ≤ 100000) (hl2 : l2.length ≤ 100000) (ty : TypeId) (X : List α) (hX : l1 ++ l2 = X) :
  ∃ a' c' w', (Builtin.append_ #[t, t] ty #[v, .slice a l2.length c]).run Tryz.prog W = .ok (.slice a' X.length c') w' ∧ OwR C e w' (.slice a' X.length c') X ∧ Mw (fun k => v.ownBlock = some k) (fun k => (Value.slice a' X.length c').ownBlock = some k) W w' := by
 obtain ⟨i0, hi0, hz0, hz1, hz2⟩ := info_parts T.hi
 have fin : ∀ v' w', OwR C e w' v' X → Mw (fun k => v.ownBlock = some k) (fun k => v'.ownBlock = some k) W w' → (Builtin.append_ #[t, t] ty #[v, .slice a l2.length c]).run Tryz.prog W = .ok v' w' → ∃ a' c' w', (Builtin.append_ #[t, t] ty #[v, .slice a l2.length c]).run Tryz.prog W = .ok (.slice a' X.length c') w' ∧ OwR C e w' (.slice a' X.length c') X ∧ Mw (fun k => v.ownBlock = some k) (fun k => (Value.slice a' X.length c').ownBlock = some k) W w' := fun v' w' h hm hr => by
  obtain ⟨a', c', rfl, _⟩ := h.rd (N := fun _ => True) (fun _ _ => trivial)
  exact ⟨a', c', w', hr, h, hm⟩
 cases a with
 | none =>
  have hd : l2 = [] := Classical.byContradiction fun g => by
   obtain ⟨b, off, e, _⟩ := h2 g
   cases e
  subst hd
  rw [List.append_nil] at hX
  subst hX
  have hr := run_append_owned_none (P := Tryz.prog) W 0 t ty e i0 C.sz T.hu hi0 v l1.length (YtiaopafkfadmkaaGreat.B.flat C l1) h1
  exact fin _ _ h1 (Mw.refl _ _) (by first | exact hr | (have := hr; simpa using this))
 | some ad =>
  obtain ⟨v', w', hr, h3, h4, h5, h6⟩ := run_append_own_at (P := Tryz.prog) W 0 t ty e i0 _ C.sz T.by' T.hu hi0 hz0 hz1 hz2 T.hz C.pos v l1.length (YtiaopafkfadmkaaGreat.B.flat C l1) h1 ad l2.length c (YtiaopafkfadmkaaGreat.B.flat C l2) (flat_len C l2) (fun j u hj => by
   have hj' : j < l2.length * C.sz := by have := (List.getElem?_eq_some_iff.1 hj).1; rwa [flat_len] at this
   obtain ⟨b, off, e, _⟩ := h2 (by intro e; simp [e] at hj')
   simp at e
   subst e
   rw [Addr.add_lit]
   exact h2.flat j u hj) (flat_one C _) (by unfold maxLen; omega) (by
    have h8 := T.hb
    have : (l1.length + l2.length) * T.by' ≤ 200000 * 1000 := Nat.mul_le_mul (by omega) h8
    omega) (Nat.zero_le _)
  refine fin v' w' ?_ ⟨Fr.of_grown h4, fun k hk hk2 => ?_⟩ hr
  ·unfold OwR
   rw [← hX, flat_append, List.length_append]
   exact h3
  ·rcases h6 with g | g
   ·rw [← g]; exact hk2
   ·rw [g] at hk2
    simp at hk2
    omega
theorem wpList_append_R {α : Type} {C : Cd α} {t e : TypeId} (T : Ty C t e) (N : Nat → Prop) (W : World) {ops : Array Oper} {rest : List Oper} {o : Oper} {a : Act} {Q : Exit → Act → World → Prop} (hgd : o.guard = none) (s x : Operand)
  (ho : o.op = .call { callee := .builtin .append, args := #[s, x], argTypes := #[t, t] })
  (v : Value) (ad : Option Addr) (c : Nat) (l1 l2 : List α) (hs : a.eval s = v) (hx : a.eval x = .slice ad l2.length c) (h1 : OwR C e W v l1) (h2 : RdN C N W ad l2) (hl1 : l1.length ≤ 100000) (hl2 : l2.length ≤ 100000) (X : List α) (hX : l1 ++ l2 = X)
  (h : ∀ a' c' w', OwR C e w' (.slice a' X.length c') X → Mw (fun k => v.ownBlock = some k) (fun k => (Value.slice a' X.length c').ownBlock = some k) W w' → wpList Tryz.prog ops Q rest (a.put o.dst (.slice a' X.length c')) w') :
  wpList Tryz.prog ops Q (o :: rest) a W := by
 refine wpList_plain hgd fun K hK => ?_
 obtain ⟨a', c', w', hr, h3, h4⟩ := append_R (c := c) T h1 h2 hl1 hl2 o.type X hX
 unfold Oper.wp execOp
 simp only [ho, resolve, invoke, builtin, Sem.run_bind, Sem.run_pure, Result.andThen_ok, List.map_toArray, List.map_cons, List.map_nil, hs, hx, hr]
 exact hK _ _ (h a' c' w' h3 h4)
theorem wpList_append_run {P : Program} (W : World) {ops : Array Oper} {rest : List Oper} {o : Oper} {a : Act} {Q : Exit → Act → World → Prop} (hgd : o.guard = none) (s x : Operand) (t : TypeId)
  (ho : o.op = .call { callee := .builtin .append, args := #[s, x], argTypes := #[t, t] })
  {v1 v2 v' : Value} {w' : World} (hs : a.eval s = v1) (hx : a.eval x = v2) (hrun : (Builtin.append_ #[t, t] o.type #[v1, v2]).run P W = .ok v' w')
  (h : wpList P ops Q rest (a.put o.dst v') w') : wpList P ops Q (o :: rest) a W := by
 refine wpList_plain hgd fun K hK => ?_
 unfold Oper.wp execOp
 simp only [ho, resolve, invoke, builtin, Sem.run_bind, Sem.run_pure, Result.andThen_ok, List.map_toArray, List.map_cons, List.map_nil, hs, hx, hrun]
 exact hK _ _ h
theorem step_append_run {P : Program} {ops : Array Oper} {o : Oper} {a : Act} {w : World} {K : Act → World → Prop} {Q : Exit → Act → World → Prop} {E : Prop}
  (hg : o.guard = none) (s x : Operand) (t : TypeId) (hop : o.op = Op.call { callee := Callee.builtin Builtin.append, args := #[s, x], argTypes := #[t, t] })
  {v1 v2 v' : Value} {w' : World} (hs : a.eval s = v1) (hx : a.eval x = v2) (hrun : (Builtin.append_ #[t, t] o.type #[v1, v2]).run P w = .ok v' w')
  (hK : K (a.put o.dst v') w') :
  if Region.wanted o (yielded ops a.tmps) = true then Oper.wp P o a w K Q else E := by
 have hw : Region.wanted o (yielded ops a.tmps) = true := by simp [Region.wanted, hg]
 rw [if_pos hw]
 unfold Oper.wp
 simp [execOp, hop, resolve, invoke, builtin, hs, hx, hrun, Result.andThen]
 exact hK
end Go.Proofs.YtiaopafkfadmkaaGreat.B
namespace Go.Proofs.YtiaopafkfadmkaaGreat.B
open Go.RowKit Go.Sort
abbrev K := Int × Int × Int
abbrev M := K × Int × Int × Int
def enc (m : M) : List Value := [.int .i64 m.1.1, .int .i64 m.1.2.1, .int .i64 m.1.2.2, .int .i64 m.2.1, .int .i64 m.2.2.1, .int .i64 m.2.2.2]
theorem enc_len (m : M) : (enc m).length = 6 := rfl
theorem enc_one (m : M) : ∀ v ∈ enc m, v.oneCell' = true := by
 intro v hv
 simp [enc] at hv
 rcases hv with rfl | rfl | rfl | rfl | rfl | rfl <;> rfl
abbrev kv (k : K) : Value := .agg #[.int .i64 k.1, .int .i64 k.2.1, .int .i64 k.2.2]
abbrev mv (m : M) : Value := .agg #[.int .i64 m.1.1, .int .i64 m.1.2.1, .int .i64 m.1.2.2, .int .i64 m.2.1, .int .i64 m.2.2.1, .int .i64 m.2.2.2]
def i64 (x : Int) : Prop := -9223372036854775808 ≤ x ∧ x ≤ 9223372036854775807
def kwf (k : K) : Prop := i64 k.1 ∧ i64 k.2.1 ∧ i64 k.2.2
def mwf (m : M) : Prop := kwf m.1 ∧ i64 m.2.1 ∧ i64 m.2.2.1 ∧ i64 m.2.2.2
def cmpI (x y : Int) : Int := if x < y then -1 else if y < x then 1 else 0
def or3 (a b c : Int) : Int := if a ≠ 0 then a else if b ≠ 0 then b else c
def kcmp (a b : K) : Int := or3 (cmpI a.1 b.1) (cmpI a.2.1 b.2.1) (cmpI a.2.2 b.2.2)
def klt (a b : K) : Bool := decide (kcmp a b < 0)
theorem klt_iff (a b : K) : klt a b = true ↔ (a.1 < b.1 ∨ (a.1 = b.1 ∧ (a.2.1 < b.2.1 ∨ (a.2.1 = b.2.1 ∧ a.2.2 < b.2.2)))) := by
 unfold klt kcmp or3 cmpI
 rw [decide_eq_true_iff]
 repeat' split
 all_goals omega
theorem klt_false_iff (a b : K) : klt a b = false ↔ ¬ (a.1 < b.1 ∨ (a.1 = b.1 ∧ (a.2.1 < b.2.1 ∨ (a.2.1 = b.2.1 ∧ a.2.2 < b.2.2)))) := by
 rw [← klt_iff]; simp
theorem klt_irrefl (a : K) : klt a a = false := by rw [klt_false_iff]; omega
theorem klt_trans {a b c : K} (h : klt a b = true) (g : klt b c = true) : klt a c = true := by rw [klt_iff] at *; omega
theorem klt_asymm {a b : K} (h : klt a b = true) : klt b a = false := by rw [klt_iff] at h; rw [klt_false_iff]; omega
theorem kle_trans {a b c : K} (h : klt b a = false) (g : klt c b = false) : klt c a = false := by rw [klt_false_iff] at *; omega
theorem klt_of_lt_of_le {a b c : K} (h : klt a b = true) (g : klt c b = false) : klt a c = true := by rw [klt_iff] at *; rw [klt_false_iff] at g; omega
theorem keq_of {a b : K} (h : klt a b = false) (g : klt b a = false) : a = b := by
 rw [klt_false_iff] at h g
 obtain ⟨a1, a2, a3⟩ := a
 obtain ⟨b1, b2, b3⟩ := b
 simp only [Prod.mk.injEq] at *
 omega
theorem klt_or {a b : K} (h : a ≠ b) : klt a b = true ∨ klt b a = true := by
 cases h1 : klt a b
 ·cases h2 : klt b a
  ·exact absurd (keq_of h1 h2) h
  ·exact .inr rfl
 ·exact .inl rfl
theorem kcmp_pos (a b : K) : 0 < kcmp a b ↔ klt b a = true := by
 rw [klt_iff]
 unfold kcmp or3 cmpI
 repeat' split
 all_goals omega
set_option maxHeartbeats 400000 in
theorem compare_any (x y : Int) (w : World) :
  Calls Tryz.prog 162 #[.int .i64 x, .int .i64 y] w fun e w' => e = .returned (.int .i64 (cmpI x y)) ∧ w' = w := by
 by_cases h : x < y
 ·rw [show cmpI x y = -1 from if_pos h]
  go_enter Tryz.func162, Tryz.ntmps162
  go_wp2
  go_ret
  exact ⟨rfl, rfl⟩
 ·by_cases g : y < x
  ·rw [show cmpI x y = 1 from by unfold cmpI; rw [if_neg h, if_pos g]]
   go_enter Tryz.func162, Tryz.ntmps162
   go_wp2
   go_ret
   exact ⟨rfl, rfl⟩
  ·rw [show cmpI x y = 0 from by unfold cmpI; rw [if_neg h, if_neg g]]
   go_enter Tryz.func162, Tryz.ntmps162
   go_wp2
   go_ret
   exact ⟨rfl, rfl⟩
theorem ret_int {k : IntKind} {a b : Int} (h : a = b) : Ending.returned (.int k a) = .returned (.int k b) := by rw [h]
set_option maxHeartbeats 400000 in
theorem or_any (a b c : Int) (blk off cap : Nat) (w : World)
  (h0 : w.cell? ⟨blk, off, none⟩ = some (.int .i64 a)) (h1 : w.cell? ⟨blk, off + 1, none⟩ = some (.int .i64 b))
  (h2 : w.cell? ⟨blk, off + 2, none⟩ = some (.int .i64 c)) :
  Calls Tryz.prog 166 #[.slice (some ⟨blk, off, none⟩) 3 cap] w fun e w' => e = .returned (.int .i64 (or3 a b c)) ∧ w' = w := by
 go_enter Tryz.func166, Tryz.ntmps166
 go_wp2
 go_loop [8] (fun i => i = .int .i64 0 ∨ (i = .int .i64 1 ∧ a = 0) ∨ (i = .int .i64 2 ∧ a = 0 ∧ b = 0) ∨ (i = .int .i64 3 ∧ a = 0 ∧ b = 0 ∧ c = 0)) (fun i => 3 - (intOf i).toNat)
 case atStart => exact Or.inl rfl
 case round =>
  rcases hrel with rfl | ⟨rfl, ha⟩ | ⟨rfl, ha, hb⟩ | ⟨rfl, ha, hb, hc⟩
  ·by_cases ha : a = 0
   ·have hk : (a != 0) = false := by simpa using ha
    have HA : Hid (a = 0) := ha
    clear ha
    go_wp2
    go_round
    case rel => exact Or.inr (Or.inl ⟨by go_num, HA.out⟩)
    case measure => simp [intOf]
   ·have hk : (a != 0) = true := by simpa using ha
    go_wp2
    go_ret
    exact ⟨ret_int (by unfold or3; rw [if_pos ha]), rfl⟩
  ·have HA : Hid (a = 0) := ha
   clear ha
   by_cases hb : b = 0
   ·have hk : (b != 0) = false := by simpa using hb
    have HB : Hid (b = 0) := hb
    clear hb
    go_wp2
    go_round
    case rel => exact Or.inr (Or.inr (Or.inl ⟨by go_num, HA.out, HB.out⟩))
    case measure => simp [intOf]
   ·have hk : (b != 0) = true := by simpa using hb
    go_wp2
    go_ret
    exact ⟨ret_int (by unfold or3; rw [if_neg (by simpa using HA.out), if_pos hb]), rfl⟩
  ·have HA : Hid (a = 0) := ha
   have HB : Hid (b = 0) := hb
   clear ha hb
   by_cases hc : c = 0
   ·have hk : (c != 0) = false := by simpa using hc
    have HC : Hid (c = 0) := hc
    clear hc
    go_wp2
    go_round
    case rel => exact Or.inr (Or.inr (Or.inr ⟨by go_num, HA.out, HB.out, HC.out⟩))
    case measure => simp [intOf]
   ·have hk : (c != 0) = true := by simpa using hc
    go_wp2
    go_ret
    exact ⟨ret_int (by unfold or3; rw [if_neg (by simpa using HA.out), if_neg (by simpa using HB.out)]), rfl⟩
  ·have HA : Hid (a = 0) := ha
   have HB : Hid (b = 0) := hb
   have HC : Hid (c = 0) := hc
   clear ha hb hc
   go_wp2
   go_ret
   exact ⟨ret_int (by unfold or3; rw [if_neg (by simpa using HA.out), if_neg (by simpa using HB.out), HC.out]), rfl⟩
theorem grow3_drew (w : World) (o1 o2 o3 : Obj) : (((w.alloc o1).alloc o2).alloc o3).drew = grow (w.drewN 1) (#[o1] ++ #[o2] ++ #[o3]) := by
 rw [alloc_eq_grow, alloc_eq_grow, alloc_eq_grow, grow_grow, grow_grow]
 rfl
theorem grow2_drewN (w : World) (o1 o2 : Obj) (q : Nat) (os : Array Obj) : grow (((w.alloc o1).alloc o2).drewN q) os = grow (w.drewN q) (#[o1] ++ #[o2] ++ os) := by
 rw [alloc_eq_grow, alloc_eq_grow, grow_grow]
 show grow (grow (w.drewN q) (#[o1] ++ #[o2])) os = _
 rw [grow_grow]
theorem or_new (a b c : Int) (blk : Nat) (W : World) (hb : W.heap.size = blk) :
  Calls Tryz.prog 166 #[.slice (some ⟨blk, 0, none⟩) 3 3] (W.alloc (.cells #[.int .i64 a, .int .i64 b, .int .i64 c] 3)).drew
   fun e w' => e = .returned (.int .i64 (or3 a b c)) ∧ w' = (W.alloc (.cells #[.int .i64 a, .int .i64 b, .int .i64 c] 3)).drew := by
 subst hb
 refine or_any a b c _ 0 3 _ ?_ ?_ ?_
 ·go_simp
 ·go_simp
 ·go_simp
set_option maxHeartbeats 1000000 in
theorem cmp_any (a b : K) (w : World) :
  Calls Tryz.prog 125 #[kv a, kv b] w
   fun e w' => e = .returned (.int .i64 (kcmp a b)) ∧ ∃ q os, w' = grow (w.drewN q) os := by
 obtain ⟨a1, a2, a3⟩ := a
 obtain ⟨b1, b2, b3⟩ := b
 go_enter Tryz.func125, Tryz.ntmps125
 go_wp2_with fail
 go_region_held3 (fun w' => w'.cell? ⟨w.heap.size, 0, none⟩ = some (.int .i64 a1) ∧ w'.cell? ⟨w.heap.size, 1, none⟩ = some (.int .i64 a2) ∧ w'.cell? ⟨w.heap.size, 2, none⟩ = some (.int .i64 a3) ∧ w'.cell? ⟨w.heap.size + 1, 0, none⟩ = some (.int .i64 b1) ∧ w'.cell? ⟨w.heap.size + 1, 1, none⟩ = some (.int .i64 b2) ∧ w'.cell? ⟨w.heap.size + 1, 2, none⟩ = some (.int .i64 b3)) (go_keep) (first | (go_at_call 162; refine (compare_any _ _ _).mono ?_; rintro e w' ⟨rfl, rfl⟩) | (go_at_call 166; refine (or_new _ _ _ _ _ ?_).mono ?_; (focus simp); rintro e w' ⟨rfl, rfl⟩))
 go_wp2
 go_ret
 exact ⟨rfl, 1, _, grow3_drew _ _ _ _⟩
end Go.Proofs.YtiaopafkfadmkaaGreat.B
namespace Go.Proofs.YtiaopafkfadmkaaGreat.B
open Go.RowKit Go.Shelf Go.Sort
def cM : Cd M := ⟨enc, 6, ((0, 0, 0), 0, 0, 0), enc_len, enc_one, by decide⟩
def tyM : Ty cM 53 39 := ⟨.agg #[.int .i64 0, .int .i64 0, .int .i64 0, .int .i64 0, .int .i64 0, .int .i64 0], 48, Tryz.underlying53, by kernel_rfl, rfl, by decide⟩
end Go.Proofs.YtiaopafkfadmkaaGreat.B
