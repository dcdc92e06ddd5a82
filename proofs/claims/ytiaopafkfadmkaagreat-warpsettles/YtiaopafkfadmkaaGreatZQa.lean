/- Joined: the texts that follow, each with its own sentence. -/
import Derived.Test.YtiaopafkfadmkaaGreatProg
import Derived.WalkKit
import Derived.WalkSpells
import Derived.Below
import Derived.OwnWalk
import Derived.Laws.OwnMore
import Derived.Maps.AppendAt
import Derived.Maps.OwnSet
import Derived.Maps.Views
import Derived.DeepKeys4
import Derived.Shelf.GgSortFunc.RowK
import Derived.Shelf.GgSortFunc.InsertionK
import Derived.WalkLawsBesides
import Derived.RegionTactic
import Derived.LoopTactic
import Derived.Deep.RegionWith
import Derived.Deep.RegionHeld3
import Derived.Outline
import Derived.RowKit3
import Derived.Deep.QuietTactic
import Derived.BigQuiet
import Derived.Shelf.SlSortCmp.QuietGrown
import Derived.BigRegion
import Derived.Shelf.SlicesQ.Reverse
set_option linter.unusedVariables false
set_option maxRecDepth 100000
namespace Go.Proofs.YtiaopafkfadmkaaGreat.Q
open Go.RowKit Go.Sort
abbrev K := Int × Int × Int
abbrev M := K × Int × Int × Int
def enc (m : M) : List Value := [.int .i64 m.1.1, .int .i64 m.1.2.1, .int .i64 m.1.2.2, .int .i64 m.2.1, .int .i64 m.2.2.1, .int .i64 m.2.2.2]
theorem enc_len (m : M) : (enc m).length = 6 := rfl
theorem enc_one (m : M) : ∀ v ∈ enc m, v.oneCell' = true := by
 intro v hv
 simp [enc] at hv
 rcases hv with rfl | rfl | rfl | rfl | rfl | rfl <;> rfl
abbrev kv (k : K) : Value := .agg #[.int .i64 k.1, .int .i64 k.2.1, .int .i64 k.2.2]
abbrev mv (m : M) : Value := .agg #[.int .i64 m.1.1, .int .i64 m.1.2.1, .int .i64 m.1.2.2, .int .i64 m.2.1, .int .i64 m.2.2.1, .int .i64 m.2.2.2]
def i64 (x : Int) : Prop := -9223372036854775808 ≤ x ∧ x ≤ 9223372036854775807
def kwf (k : K) : Prop := i64 k.1 ∧ i64 k.2.1 ∧ i64 k.2.2
def mwf (m : M) : Prop := kwf m.1 ∧ i64 m.2.1 ∧ i64 m.2.2.1 ∧ i64 m.2.2.2
def cmpI (x y : Int) : Int := if x < y then -1 else if y < x then 1 else 0
def or3 (a b c : Int) : Int := if a ≠ 0 then a else if b ≠ 0 then b else c
def kcmp (a b : K) : Int := or3 (cmpI a.1 b.1) (cmpI a.2.1 b.2.1) (cmpI a.2.2 b.2.2)
def klt (a b : K) : Bool := decide (kcmp a b < 0)
theorem klt_iff (a b : K) : klt a b = true ↔ (a.1 < b.1 ∨ (a.1 = b.1 ∧ (a.2.1 < b.2.1 ∨ (a.2.1 = b.2.1 ∧ a.2.2 < b.2.2)))) := by
 unfold klt kcmp or3 cmpI
 rw [decide_eq_true_iff]
 repeat' split
 all_goals omega
theorem klt_false_iff (a b : K) : klt a b = false ↔ ¬ (a.1 < b.1 ∨ (a.1 = b.1 ∧ (a.2.1 < b.2.1 ∨ (a.2.1 = b.2.1 ∧ a.2.2 < b.2.2)))) := by
 rw [← klt_iff]; simp
theorem klt_irrefl (a : K) : klt a a = false := by rw [klt_false_iff]; omega
theorem klt_trans {a b c : K} (h : klt a b = true) (g : klt b c = true) : klt a c = true := by rw [klt_iff] at *; omega
theorem klt_asymm {a b : K} (h : klt a b = true) : klt b a = false := by rw [klt_iff] at h; rw [klt_false_iff]; omega
theorem kle_trans {a b c : K} (h : klt b a = false) (g : klt c b = false) : klt c a = false := by rw [klt_false_iff] at *; omega
theorem klt_of_lt_of_le {a b c : K} (h : klt a b = true) (g : klt c b = false) : klt a c = true := by rw [klt_iff] at *; rw [klt_false_iff] at g; omega
theorem keq_of {a b : K} (h : klt a b = false) (g : klt b a = false) : a = b := by
 rw [klt_false_iff] at h g
 obtain ⟨a1, a2, a3⟩ := a
 obtain ⟨b1, b2, b3⟩ := b
 simp only [Prod.mk.injEq] at *
 omega
theorem klt_or {a b : K} (h : a ≠ b) : klt a b = true ∨ klt b a = true := by
 cases h1 : klt a b
 ·cases h2 : klt b a
  ·exact absurd (keq_of h1 h2) h
  ·exact .inr rfl
 ·exact .inl rfl
theorem kcmp_pos (a b : K) : 0 < kcmp a b ↔ klt b a = true := by
 rw [klt_iff]
 unfold kcmp or3 cmpI
 repeat' split
 all_goals omega
structure Fr (S : Nat → Prop) (w w' : World) : Prop where
 os : w'.os = w.os
 tape : w'.tape = w.tape
 output : w'.output = w.output
 size : w.heap.size ≤ w'.heap.size
 block : ∀ k, k < w.heap.size → ¬ S k → w'.heap[k]? = w.heap[k]?
theorem Fr.refl (S : Nat → Prop) (w : World) : Fr S w w := ⟨rfl, rfl, rfl, Nat.le_refl _, fun _ _ _ => rfl⟩
theorem Fr.trans {S S' : Nat → Prop} {a b c : World} (h : Fr S a b) (k : Fr S' b c) (hs : ∀ i, i < a.heap.size → S' i → S i) : Fr S a c :=
 ⟨k.os.trans h.os, k.tape.trans h.tape, k.output.trans h.output, Nat.le_trans h.size k.size, fun i hi hn => (k.block i (Nat.lt_of_lt_of_le hi h.size) (fun g => hn (hs i hi g))).trans (h.block i hi hn)⟩
theorem Fr.then {S : Nat → Prop} {a b c : World} (h : Fr S a b) (k : Fr S b c) : Fr S a c := h.trans k fun _ _ g => g
theorem Fr.wide {S S' : Nat → Prop} {a b : World} (h : Fr S a b) (hs : ∀ i, S i → S' i) : Fr S' a b :=
 ⟨h.os, h.tape, h.output, h.size, fun i hi hn => h.block i hi fun g => hn (hs i g)⟩
theorem Fr.of_below {S : Nat → Prop} {a b : World} (h : Below a.heap.size a b) : Fr S a b := ⟨h.os, h.tape, h.output, h.size, fun i hi _ => h.block i hi⟩
theorem Fr.below {S : Nat → Prop} {a b : World} {B : Nat} (h : Fr S a b) (hB : B ≤ a.heap.size) (hs : ∀ i, S i → B ≤ i) : Below B a b :=
 ⟨h.os, h.tape, h.output, h.size, fun i hi => h.block i (Nat.lt_of_lt_of_le hi hB) fun g => by have := hs i g; omega⟩
theorem Fr.of_grown {a b : World} {r : Option Nat} (h : a.grownBy b r) : Fr (fun i => r = some i) a b := ⟨h.os, h.tape, h.output, h.size, fun i hi hn => h.block i hi fun e => hn e.symm⟩
theorem Fr.alloc {S : Nat → Prop} {a b : World} (h : Fr S a b) (o : Obj) : Fr S a (b.alloc o) :=
 ⟨h.os, h.tape, h.output, by simp; have := h.size; omega, fun i hi hn => by rw [Below.heap_alloc _ _ _ (Nat.lt_of_lt_of_le hi h.size)]; exact h.block i hi hn⟩
theorem Fr.drew {S : Nat → Prop} {a b : World} (h : Fr S a b) : Fr S a b.drew := ⟨h.os, h.tape, h.output, h.size, h.block⟩
theorem Fr.drewN {S : Nat → Prop} {a b : World} (h : Fr S a b) (n : Nat) : Fr S a (b.drewN n) := ⟨h.os, h.tape, h.output, h.size, h.block⟩
theorem Fr.setCell {S : Nat → Prop} {a b : World} (h : Fr S a b) (p : Addr) (v : Value) (hp : S p.block ∨ a.heap.size ≤ p.block) : Fr S a (b.setCell p v) :=
 ⟨h.os, h.tape, h.output, by simpa using h.size, fun i hi hn => by
  rw [Below.heap_setCell _ _ _ _ (fun e => by subst e; rcases hp with g | g; exact hn g; omega)]
  exact h.block i hi hn⟩
theorem Fr.cell {S : Nat → Prop} {a b : World} (h : Fr S a b) {p : Addr} (hp : p.block < a.heap.size) (hn : ¬ S p.block) : b.cell? p = a.cell? p := World.cell?_of_block (h.block _ hp hn)
theorem Fr.frozen {S : Nat → Prop} {a b : World} (h : Fr S a b) {p : Addr} (hp : p.block < a.heap.size) (hn : ¬ S p.block) : b.frozen? p = a.frozen? p := World.frozen?_of_block (h.block _ hp hn)
theorem below_grow (w : World) (q : Nat) (os : Array Obj) : Below w.heap.size w (grow (w.drewN q) os) :=
 ⟨rfl, rfl, rfl, by simp [grow, World.drewN], fun k hk => by simp [grow, World.drewN, Array.getElem?_append, hk]⟩
def flat (l : List M) : List Value := l.flatMap enc
theorem flat_len (l : List M) : (flat l).length = l.length * 6 := by
 induction l with
 | nil => rfl
 | cons x r ih => simp only [flat, List.flatMap_cons, List.length_append, enc_len, List.length_cons] at *; omega
theorem flat_append (a b : List M) : flat (a ++ b) = flat a ++ flat b := by simp [flat]
theorem flat_one (m : M) : flat [m] = enc m := by simp [flat]
theorem flat_take (l : List M) (n : Nat) : flat (l.take n) = (flat l).take (n * 6) := by
 by_cases h : n ≤ l.length
 ·have e : flat l = flat (l.take n) ++ flat (l.drop n) := by rw [← flat_append, List.take_append_drop]
  have h2 : (flat (l.take n)).length = n * 6 := by rw [flat_len, List.length_take]; congr 1; omega
  rw [e, ← h2, List.take_left]
 ·rw [List.take_of_length_le (by omega), List.take_of_length_le (by rw [flat_len]; omega)]
theorem flat_get (l : List M) (i c : Nat) (hi : i < l.length) (hc : c < 6) : (flat l)[i * 6 + c]? = (enc l[i])[c]? := by
 induction l generalizing i with
 | nil => simp at hi
 | cons x r ih =>
  rw [show flat (x :: r) = enc x ++ flat r by simp [flat]]
  cases i with
  | zero => rw [List.getElem?_append_left (by rw [enc_len]; omega)]; simp
  | succ j =>
   rw [List.getElem?_append_right (by rw [enc_len]; omega), enc_len, show (j + 1) * 6 + c - 6 = j * 6 + c by omega, ih j (by simpa using hi)]
   simp
theorem flat_one_cell (l : List M) : ∀ v ∈ flat l, v.oneCell' = true := by
 intro v hv
 obtain ⟨m, _, h⟩ := List.mem_flatMap.1 hv
 exact enc_one m v h
def Own (w : World) (v : Value) (l : List M) : Prop := w.ownsRow 0 39 6 v l.length (flat l)
def Rd (w : World) (v : Value) (l : List M) : Prop :=
 ∃ a cap, v = .slice a l.length cap ∧ (l ≠ [] → ∃ b off, a = some ⟨b, off, none⟩ ∧ b < w.heap.size ∧ ∀ i (h : i < l.length) c, c < 6 → w.cell? ⟨b, off + i * 6 + c, none⟩ = (enc l[i])[c]?)
theorem Own.rd {w : World} {v : Value} {l : List M} (h : Own w v l) : Rd w v l := by
 have h0 := h
 rcases h.2 with ⟨rfl, hn⟩ | ⟨g, cap, cur, rfl, _, hg, _⟩
 ·exact ⟨none, 0, by rw [hn], fun hl => absurd (List.length_eq_zero_iff.1 hn) hl⟩
 ·refine ⟨_, cap, rfl, fun _ => ⟨g, 0, rfl, (Array.getElem?_eq_some_iff.1 hg).1, fun i hi c hc => ?_⟩⟩
  rw [Nat.zero_add, World.ownsRow.cellAt h0 _ (by omega), flat_get l i c hi hc]
theorem Own.lt {w : World} {v : Value} {l : List M} (h : Own w v l) {g : Nat} (hg : v.ownBlock = some g) : g < w.heap.size := by
 rcases h.2 with ⟨rfl, hn⟩ | ⟨g', cap, cur, rfl, _, hh, _⟩
 ·simp [Value.ownBlock] at hg
 ·simp [Value.ownBlock] at hg
  subst hg
  exact (Array.getElem?_eq_some_iff.1 hh).1
theorem Own.keep {S : Nat → Prop} {w w' : World} {v : Value} {l : List M} (h : Own w v l) (hf : Fr S w w') (hd : ∀ g, v.ownBlock = some g → ¬ S g) : Own w' v l := by
 refine ⟨h.1, ?_⟩
 rcases h.2 with hn | ⟨g, cap, cur, rfl, hb2, hgg, rest⟩
 ·exact .inl hn
 ·exact .inr ⟨g, cap, cur, rfl, hb2, (hf.block g (Array.getElem?_eq_some_iff.1 hgg).1 (hd g rfl)).trans hgg, rest⟩
theorem info30 : (Tryz.prog.info? 39).map (fun i => (i.zero, i.size, i.bytes)) = some (some (mv ((0, 0, 0), 0, 0, 0)), 6, 48) := by kernel_rfl
theorem Own.holds {w : World} {g cap : Nat} {l : List M} (h : Own w (.slice (some ⟨g, 0, none⟩) l.length cap) l) : HoldsK enc 6 w g 0 l.toArray := by
 intro j hj
 rw [size_flatK] at hj
 simp only [List.size_toArray] at hj
 have hq : j / 6 < l.length := Nat.div_lt_of_lt_mul (by omega)
 have hr : j % 6 < 6 := Nat.mod_lt _ (by omega)
 refine ⟨?_, World.ownsRow.frozenAt h (0 + j)⟩
 rw [get_flatK _ _ _ _ (by simpa using hj), Nat.zero_add, World.ownsRow.cellAt h j hj]
 have := flat_get l (j / 6) (j % 6) hq hr
 rw [Nat.mul_comm, Nat.div_add_mod] at this
 rw [this]
 simp only [id]
 rw [List.getElem?_eq_getElem (by rw [enc_len]; exact hr)]
 congr 1
 rw [getElem!_pos l.toArray (j / 6) (by simpa using hq)]
 simp only [List.getElem_toArray]
 rw [getElem!_pos (enc l[j / 6]) (j % 6) (by rw [enc_len]; exact hr)]
theorem own_of_holds {w w' : World} {g cap : Nat} {l l' : List M} (h : Own w (.slice (some ⟨g, 0, none⟩) l.length cap) l) (hl : l'.length = l.length) (hs : ∀ cur, w.heap[g]? = some (.cells cur 39 (0, 0)) → ∃ cur', w'.heap[g]? = some (.cells cur' 39 (0, 0)) ∧ cur'.size = cur.size)
  (hH : HoldsK enc 6 w' g 0 l'.toArray) : Own w' (.slice (some ⟨g, 0, none⟩) l'.length cap) l' := by
 rcases h.2 with ⟨h0, _⟩ | ⟨g', cap', cur, hv, hb, hg, hnc, hcm, hcs, ht⟩
 ·simp at h0
 ·simp at hv
  obtain ⟨rfl, rfl⟩ := hv
  obtain ⟨cur', hg', hsz⟩ := hs cur hg
  refine ⟨flat_len l', .inr ⟨g, cap, cur', rfl, hb, hg', by omega, hcm, by omega, ?_⟩⟩
  have hsz' : l'.length * 6 ≤ cur'.size := by rw [hsz, hcs, hl]; omega
  apply List.ext_getElem?
  intro j
  by_cases hj : j < l'.length * 6
  ·have hq : j / 6 < l'.length := Nat.div_lt_of_lt_mul (by omega)
   have hr : j % 6 < 6 := Nat.mod_lt _ (by omega)
   rw [List.getElem?_take_of_lt hj]
   have h1 := (hH j (by rw [size_flatK]; simpa using hj)).1
   rw [get_flatK _ _ _ _ (by simpa using hj), Nat.zero_add] at h1
   simp only [World.cell?, hg', id] at h1
   have h2 : cur'.toList[j]? = cur'[j]? := by simp
   rw [h2]
   have h3 : cur'[j]? = some ((enc (l'.toArray[j / 6]!))[j % 6]!) := by simpa using h1
   rw [h3]
   have := flat_get l' (j / 6) (j % 6) hq hr
   rw [Nat.mul_comm, Nat.div_add_mod] at this
   rw [this, List.getElem?_eq_getElem (by rw [enc_len]; exact hr)]
   congr 1
   rw [getElem!_pos l'.toArray (j / 6) (by simpa using hq)]
   simp only [List.getElem_toArray]
   rw [getElem!_pos (enc l'[j / 6]) (j % 6) (by rw [enc_len]; exact hr)]
  ·rw [List.getElem?_eq_none (by rw [List.length_take]; omega), List.getElem?_eq_none (by rw [flat_len]; omega)]
theorem mapBlock_shape (w : World) (g : Nat) (f : Array Value → Array Value) (hf : ∀ c, (f c).size = c.size) (cur : Array Value) (e : TypeId) (fr : Nat × Nat) (h : w.heap[g]? = some (.cells cur e fr)) : ∃ cur', (mapBlock w g f).heap[g]? = some (.cells cur' e fr) ∧ cur'.size = cur.size := by
 refine ⟨f cur, ?_, hf cur⟩
 simp [mapBlock, Array.getElem?_modify, h, onCells]
end Go.Proofs.YtiaopafkfadmkaaGreat.Q
namespace Go.Proofs.YtiaopafkfadmkaaGreat.Q
open Go.RowKit Go.Sort
set_option maxHeartbeats 400000 in
theorem compare_any (x y : Int) (w : World) :
  Calls Tryz.prog 162 #[.int .i64 x, .int .i64 y] w fun e w' => e = .returned (.int .i64 (cmpI x y)) ∧ w' = w := by
 by_cases h : x < y
 ·rw [show cmpI x y = -1 from if_pos h]
  go_enter Tryz.func162, Tryz.ntmps162
  go_wp2
  go_ret
  exact ⟨rfl, rfl⟩
 ·by_cases g : y < x
  ·rw [show cmpI x y = 1 from by unfold cmpI; rw [if_neg h, if_pos g]]
   go_enter Tryz.func162, Tryz.ntmps162
   go_wp2
   go_ret
   exact ⟨rfl, rfl⟩
  ·rw [show cmpI x y = 0 from by unfold cmpI; rw [if_neg h, if_neg g]]
   go_enter Tryz.func162, Tryz.ntmps162
   go_wp2
   go_ret
   exact ⟨rfl, rfl⟩
theorem ret_int {k : IntKind} {a b : Int} (h : a = b) : Ending.returned (.int k a) = .returned (.int k b) := by rw [h]
set_option maxHeartbeats 400000 in
theorem or_any (a b c : Int) (blk off cap : Nat) (w : World)
  (h0 : w.cell? ⟨blk, off, none⟩ = some (.int .i64 a)) (h1 : w.cell? ⟨blk, off + 1, none⟩ = some (.int .i64 b))
  (h2 : w.cell? ⟨blk, off + 2, none⟩ = some (.int .i64 c)) :
  Calls Tryz.prog 166 #[.slice (some ⟨blk, off, none⟩) 3 cap] w fun e w' => e = .returned (.int .i64 (or3 a b c)) ∧ w' = w := by
 go_enter Tryz.func166, Tryz.ntmps166
 go_wp2
 go_loop [8] (fun i => i = .int .i64 0 ∨ (i = .int .i64 1 ∧ a = 0) ∨ (i = .int .i64 2 ∧ a = 0 ∧ b = 0) ∨ (i = .int .i64 3 ∧ a = 0 ∧ b = 0 ∧ c = 0)) (fun i => 3 - (intOf i).toNat)
 case atStart => exact Or.inl rfl
 case round =>
  rcases hrel with rfl | ⟨rfl, ha⟩ | ⟨rfl, ha, hb⟩ | ⟨rfl, ha, hb, hc⟩
  ·by_cases ha : a = 0
   ·have hk : (a != 0) = false := by simpa using ha
    have HA : Hid (a = 0) := ha
    clear ha
    go_wp2
    go_round
    case rel => exact Or.inr (Or.inl ⟨by go_num, HA.out⟩)
    case measure => simp [intOf]
   ·have hk : (a != 0) = true := by simpa using ha
    go_wp2
    go_ret
    exact ⟨ret_int (by unfold or3; rw [if_pos ha]), rfl⟩
  ·have HA : Hid (a = 0) := ha
   clear ha
   by_cases hb : b = 0
   ·have hk : (b != 0) = false := by simpa using hb
    have HB : Hid (b = 0) := hb
    clear hb
    go_wp2
    go_round
    case rel => exact Or.inr (Or.inr (Or.inl ⟨by go_num, HA.out, HB.out⟩))
    case measure => simp [intOf]
   ·have hk : (b != 0) = true := by simpa using hb
    go_wp2
    go_ret
    exact ⟨ret_int (by unfold or3; rw [if_neg (by simpa using HA.out), if_pos hb]), rfl⟩
  ·have HA : Hid (a = 0) := ha
   have HB : Hid (b = 0) := hb
   clear ha hb
   by_cases hc : c = 0
   ·have hk : (c != 0) = false := by simpa using hc
    have HC : Hid (c = 0) := hc
    clear hc
    go_wp2
    go_round
    case rel => exact Or.inr (Or.inr (Or.inr ⟨by go_num, HA.out, HB.out, HC.out⟩))
    case measure => simp [intOf]
   ·have hk : (c != 0) = true := by simpa using hc
    go_wp2
    go_ret
    exact ⟨ret_int (by unfold or3; rw [if_neg (by simpa using HA.out), if_neg (by simpa using HB.out)]), rfl⟩
  ·have HA : Hid (a = 0) := ha
   have HB : Hid (b = 0) := hb
   have HC : Hid (c = 0) := hc
   clear ha hb hc
   go_wp2
   go_ret
   exact ⟨ret_int (by unfold or3; rw [if_neg (by simpa using HA.out), if_neg (by simpa using HB.out), HC.out]), rfl⟩
theorem grow3_drew (w : World) (o1 o2 o3 : Obj) : (((w.alloc o1).alloc o2).alloc o3).drew = grow (w.drewN 1) (#[o1] ++ #[o2] ++ #[o3]) := by
 rw [alloc_eq_grow, alloc_eq_grow, alloc_eq_grow, grow_grow, grow_grow]
 rfl
theorem grow2_drewN (w : World) (o1 o2 : Obj) (q : Nat) (os : Array Obj) : grow (((w.alloc o1).alloc o2).drewN q) os = grow (w.drewN q) (#[o1] ++ #[o2] ++ os) := by
 rw [alloc_eq_grow, alloc_eq_grow, grow_grow]
 show grow (grow (w.drewN q) (#[o1] ++ #[o2])) os = _
 rw [grow_grow]
theorem or_new (a b c : Int) (blk : Nat) (W : World) (hb : W.heap.size = blk) :
  Calls Tryz.prog 166 #[.slice (some ⟨blk, 0, none⟩) 3 3] (W.alloc (.cells #[.int .i64 a, .int .i64 b, .int .i64 c] 3)).drew
   fun e w' => e = .returned (.int .i64 (or3 a b c)) ∧ w' = (W.alloc (.cells #[.int .i64 a, .int .i64 b, .int .i64 c] 3)).drew := by
 subst hb
 refine or_any a b c _ 0 3 _ ?_ ?_ ?_
 ·go_simp
 ·go_simp
 ·go_simp
set_option maxHeartbeats 1000000 in
theorem cmp_any (a b : K) (w : World) :
  Calls Tryz.prog 125 #[kv a, kv b] w
   fun e w' => e = .returned (.int .i64 (kcmp a b)) ∧ ∃ q os, w' = grow (w.drewN q) os := by
 obtain ⟨a1, a2, a3⟩ := a
 obtain ⟨b1, b2, b3⟩ := b
 go_enter Tryz.func125, Tryz.ntmps125
 go_wp2_with fail
 go_region_held3 (fun w' => w'.cell? ⟨w.heap.size, 0, none⟩ = some (.int .i64 a1) ∧ w'.cell? ⟨w.heap.size, 1, none⟩ = some (.int .i64 a2) ∧ w'.cell? ⟨w.heap.size, 2, none⟩ = some (.int .i64 a3) ∧ w'.cell? ⟨w.heap.size + 1, 0, none⟩ = some (.int .i64 b1) ∧ w'.cell? ⟨w.heap.size + 1, 1, none⟩ = some (.int .i64 b2) ∧ w'.cell? ⟨w.heap.size + 1, 2, none⟩ = some (.int .i64 b3)) (go_keep) (first | (go_at_call 162; refine (compare_any _ _ _).mono ?_; rintro e w' ⟨rfl, rfl⟩) | (go_at_call 166; refine (or_new _ _ _ _ _ ?_).mono ?_; (focus simp); rintro e w' ⟨rfl, rfl⟩))
 go_wp2
 go_ret
 exact ⟨rfl, 1, _, grow3_drew _ _ _ _⟩
set_option maxHeartbeats 1000000 in
theorem byKey_any (a b : M) (w : World) :
  Calls Tryz.prog 168 #[mv a, mv b] w
   fun e w' => e = .returned (.int .i64 (kcmp a.1 b.1)) ∧ ∃ q os, w' = grow (w.drewN q) os := by
 obtain ⟨⟨a1, a2, a3⟩, a4, a5, a6⟩ := a
 obtain ⟨⟨b1, b2, b3⟩, b4, b5, b6⟩ := b
 have hc := fun W => cmp_any (a1, a2, a3) (b1, b2, b3) W
 dsimp only at hc ⊢
 generalize kcmp (a1, a2, a3) (b1, b2, b3) = r at hc ⊢
 go_enter Tryz.func168, Tryz.ntmps168
 go_wp2_with (go_at_call 125; refine (hc _).mono ?_; rintro e w' ⟨rfl, q, os, rfl⟩)
 go_ret
 exact ⟨rfl, q, _, grow2_drewN _ _ _ _ _⟩
end Go.Proofs.YtiaopafkfadmkaaGreat.Q
namespace Go.Proofs.YtiaopafkfadmkaaGreat.Q
open Go.RowKit Go.Sort
theorem keyed28 : Maps.Keyed Tryz.prog 37 := Maps.Keyed.of_law (deep_law_laid (m := 10) (by kernel_rfl) (by omega) (of_decide_eq_true (by kernel_rfl)) (by kernel_rfl) (by kernel_rfl))
theorem prog_types : ∃ m, Tryz.prog.types.size = m + 2 := by
 have h : decide (2 ≤ Tryz.prog.types.size) = true := by kernel_rfl
 have := of_decide_eq_true h
 exact ⟨Tryz.prog.types.size - 2, by omega⟩
def klP (P : Program) (k : K) : Lit := (keyOf P 37 (kv k)).getD (.int .i64 0)
theorem i64_wf {x : Int} (h : i64 x) : (Lit.int .i64 x).wf = true := by unfold i64 at h; exact WalkArith.wf_i64 (by omega)
theorem key28 : Tryz.prog.keyType 37 = true := by kernel_rfl
theorem keyLits28 (d : Nat) (a b c : Int) (ha : (Lit.int .i64 a).wf = true) (hb : (Lit.int .i64 b).wf = true) (hc : (Lit.int .i64 c).wf = true) : (Tryz.prog.keyLits (d + 2) 37 [.int .i64 a, .int .i64 b, .int .i64 c]).isSome = true := by
 have h3 : Tryz.prog.cellsOf 37 = 3 := by kernel_rfl
 have h1 : Tryz.prog.cellsOf 3 = 1 := by kernel_rfl
 unfold Program.keyLits
 simp only [Tryz.underlying37]
 rw [if_pos (by refine ⟨by rw [h3]; rfl, by simp⟩)]
 simp [h1, Program.keyLits, Tryz.underlying3, ha, hb, hc]
theorem kl_some {k : K} (h : kwf k) : keyOf Tryz.prog 37 (kv k) = some (klP Tryz.prog k) := by
 obtain ⟨m, hm⟩ := prog_types
 have h3 : Tryz.prog.cellsOf 37 = 3 := by kernel_rfl
 have hs : (keyOf Tryz.prog 37 (kv k)).isSome = true := by
  have hl := keyLits28 (m + 1) k.1 k.2.1 k.2.2 (i64_wf h.1) (i64_wf h.2.1) (i64_wf h.2.2)
  unfold keyOf
  simp only [Tryz.underlying37]
  rw [if_pos (by simp [key28, Value.formed, Tryz.underlying37, h3]), hm]
  simp only [Value.cells, Option.isSome_map]
  exact hl
 unfold klP
 obtain ⟨l, hl⟩ := Option.isSome_iff_exists.1 hs
 rw [hl]; rfl
theorem kl_inj {a b : K} (ha : kwf a) (hb : kwf b) (h : klP Tryz.prog a = klP Tryz.prog b) : a = b := by
 have h1 := kl_some ha
 have h2 := kl_some hb
 rw [h] at h1
 have h3 := keyed28.inj h1 h2
 obtain ⟨a1, a2, a3⟩ := a
 obtain ⟨b1, b2, b3⟩ := b
 simpa [kv] using h3
theorem kl_lit {k : K} (h : kwf k) : WideAt.IsKeyLit (klP Tryz.prog k) := keyed28.key (kl_some h)
abbrev num (i : Int) : DataW Unit := .lit (.int .i64 i)
def MapIs (w : World) (b : Nat) (d : List M) : Prop :=
 ∃ D : DataW Unit, w.ownsMap Tryz.prog 37 (plainElem Tryz.prog 3) b d.length D ∧ (∀ k, kwf k → (Maps.has D (klP Tryz.prog k) = true ↔ k ∈ d.map Prod.fst)) ∧ (∀ i (h : i < d.length), D.atKey (klP Tryz.prog d[i].1) (num 0) = num i)
theorem ownsMap_size {w : World} {b n m : Nat} {D : DataW Unit} (h : w.ownsMap Tryz.prog 37 (plainElem Tryz.prog 3) b n D) (hm : Maps.size D ≤ m) : w.ownsMap Tryz.prog 37 (plainElem Tryz.prog 3) b m D := by
 obtain ⟨es, clock, h1, h2, h3, rfl⟩ := h
 refine ⟨es, clock, h1, h2, ?_, rfl⟩
 simpa [Maps.size, length_sorted] using hm
theorem MapIs.keep {S : Nat → Prop} {w w' : World} {b : Nat} {d : List M} (h : MapIs w b d) (hf : Fr S w w') (hb : ¬ S b) : MapIs w' b d := by
 obtain ⟨D, ⟨es, clock, h1, h2⟩, h3⟩ := h
 exact ⟨D, ⟨es, clock, (hf.block b (Array.getElem?_eq_some_iff.1 h1).1 hb).trans h1, h2⟩, h3⟩
theorem MapIs.lt {w : World} {b : Nat} {d : List M} (h : MapIs w b d) : b < w.heap.size := by
 obtain ⟨D, h1, _⟩ := h
 exact h1.lt
theorem MapIs.made (w : World) : MapIs (w.alloc (.map #[] 0)) w.heap.size [] :=
 ⟨.map [], World.ownsMap_made _ _ _ _, fun k _ => by simp [Maps.has], fun i h => by simp at h⟩
def swapL (d : List M) (i j : Nat) : List M := (swp d.toArray i j).toList
theorem swapL_len (d : List M) (i j : Nat) : (swapL d i j).length = d.length := by simp [swapL, size_swp]
theorem swapL_get (d : List M) (i j t : Nat) (hi : i < d.length) (hj : j < d.length) (ht : t < d.length) : (swapL d i j)[t]'(by rw [swapL_len]; exact ht) = if t = j then d[i] else if t = i then d[j] else d[t] := by
 have h := swp_get d.toArray (i := i) (j := j) (by simpa using hi) (by simpa using hj) t
 have e : (swapL d i j)[t]'(by rw [swapL_len]; exact ht) = (swp d.toArray i j)[t]! := by
  rw [getElem!_pos _ _ (by rw [size_swp]; simpa using ht)]
  simp [swapL]
 rw [e, h]
 split
 ·rw [getElem!_pos _ _ (by simpa using hi)]; simp
 ·split
  ·rw [getElem!_pos _ _ (by simpa using hj)]; simp
  ·rw [getElem!_pos _ _ (by simpa using ht)]; simp
theorem put_size {D : DataW Unit} {k : Lit} (ht : Maps.Tidy D) (hh : Maps.has D k = true) (x : DataW Unit) : Maps.size (D.put k x) = Maps.size D := by
 rw [Maps.size_put ht, if_pos hh]
end Go.Proofs.YtiaopafkfadmkaaGreat.Q
namespace Go.Proofs.YtiaopafkfadmkaaGreat.Q
open Go.RowKit Go.Sort
structure IsP (w : World) (pb mb : Nat) (v : Value) (d : List M) : Prop where
 c0 : w.cell? ⟨pb, 0, none⟩ = some v
 c1 : w.cell? ⟨pb, 1, none⟩ = some (.map (some mb))
 f0 : w.frozen? ⟨pb, 0, none⟩ = false
 own : Own w v d
 map : MapIs w mb d
 ne : pb ≠ mb
 nv : v.ownBlock ≠ some pb
 nm : v.ownBlock ≠ some mb
 wf : ∀ m ∈ d, mwf m
 nd : (d.map Prod.fst).Nodup
 len : d.length ≤ 64
def FP (pb mb : Nat) (v : Value) : Nat → Prop := fun k => k = pb ∨ k = mb ∨ v.ownBlock = some k
theorem cell_lt {w : World} {b o : Nat} {v : Value} (h : w.cell? ⟨b, o, none⟩ = some v) : b < w.heap.size := by
 obtain ⟨c, e, fr, h1, _⟩ := cells_of_cell? h
 exact (Array.getElem?_eq_some_iff.1 h1).1
theorem IsP.lt {w : World} {pb mb : Nat} {v : Value} {d : List M} (h : IsP w pb mb v d) : ∀ k, FP pb mb v k → k < w.heap.size := by
 rintro k (rfl | rfl | hk)
 ·exact cell_lt h.c0
 ·exact h.map.lt
 ·exact h.own.lt hk
theorem IsP.keep {S : Nat → Prop} {w w' : World} {pb mb : Nat} {v : Value} {d : List M} (h : IsP w pb mb v d) (hf : Fr S w w') (hs : ∀ k, FP pb mb v k → ¬ S k) : IsP w' pb mb v d :=
 ⟨(hf.cell (p := ⟨pb, 0, none⟩) (cell_lt h.c0) (hs pb (.inl rfl))).trans h.c0, (hf.cell (p := ⟨pb, 1, none⟩) (cell_lt h.c1) (hs pb (.inl rfl))).trans h.c1, (hf.frozen (p := ⟨pb, 0, none⟩) (cell_lt h.c0) (hs pb (.inl rfl))).trans h.f0,
 h.own.keep hf (fun g hg => hs g (.inr (.inr hg))), h.map.keep hf (hs mb (.inr (.inl rfl))), h.ne, h.nv, h.nm, h.wf, h.nd, h.len⟩
theorem IsP.below {w w' : World} {pb mb : Nat} {v : Value} {d : List M} (h : IsP w pb mb v d) (hb : Below w.heap.size w w') : IsP w' pb mb v d :=
 h.keep (Fr.of_below (S := fun _ => False) hb) (fun _ _ g => g)
set_option maxHeartbeats 400000 in
theorem plen_any {w : World} {pb mb : Nat} {v : Value} {d : List M} (h : IsP w pb mb v d) :
  Calls Tryz.prog 153 #[.pointer (some ⟨pb, 0, none⟩)] w fun e w' => e = .returned (.int .i64 d.length) ∧ w' = w := by
 have h0 := h.c0
 obtain ⟨a, cap, rfl, _⟩ := h.own.rd
 have hl := h.len
 clear h
 go_enter Tryz.func153, Tryz.ntmps153
 go_wp2
 go_ret
 exact ⟨rfl, rfl⟩
theorem own_nonempty {w : World} {v : Value} {d : List M} (h : Own w v d) {i : Nat} (hi : i < d.length) : ∃ g cap, v = .slice (some ⟨g, 0, none⟩) d.length cap ∧ g < w.heap.size := by
 rcases h.2 with ⟨rfl, hn⟩ | ⟨g, cap, cur, rfl, _, hg, _⟩
 ·omega
 ·exact ⟨g, cap, rfl, (Array.getElem?_eq_some_iff.1 hg).1⟩
theorem own_cell {w : World} {g cap : Nat} {d : List M} (h : Own w (.slice (some ⟨g, 0, none⟩) d.length cap) d) {i : Nat} (hi : i < d.length) {x : M} (hx : d[i] = x) :
  w.cell? ⟨g, i * 6, none⟩ = some (.int .i64 x.1.1) ∧ w.cell? ⟨g, i * 6 + 1, none⟩ = some (.int .i64 x.1.2.1) ∧ w.cell? ⟨g, i * 6 + 2, none⟩ = some (.int .i64 x.1.2.2) ∧
  w.cell? ⟨g, i * 6 + 3, none⟩ = some (.int .i64 x.2.1) ∧ w.cell? ⟨g, i * 6 + 4, none⟩ = some (.int .i64 x.2.2.1) ∧ w.cell? ⟨g, i * 6 + 5, none⟩ = some (.int .i64 x.2.2.2) := by
 subst hx
 have hc : ∀ c, c < 6 → w.cell? ⟨g, i * 6 + c, none⟩ = (enc d[i])[c]? := fun c hc => by rw [World.ownsRow.cellAt h _ (by omega), flat_get d i c hi hc]
 exact ⟨hc 0 (by omega), hc 1 (by omega), hc 2 (by omega), hc 3 (by omega), hc 4 (by omega), hc 5 (by omega)⟩
set_option maxHeartbeats 1000000 in
theorem less_any {w : World} {pb mb : Nat} {v : Value} {d : List M} (h : IsP w pb mb v d) (i j : Nat) (hi : i < d.length) (hj : j < d.length) :
  Calls Tryz.prog 258 #[.pointer (some ⟨pb, 0, none⟩), .int .i64 i, .int .i64 j] w fun e w' => e = .returned (.bool (klt d[i].1 d[j].1)) ∧ Below w.heap.size w w' := by
 have mixed : Tryz.prog.follows .mixedOrders = true := by kernel_rfl
 have h0 := h.c0
 have hlt := cell_lt h0
 obtain ⟨g, cap, rfl, hg⟩ := own_nonempty h.own hi
 have hl := h.len
 obtain ⟨x, hx⟩ : ∃ x, d[i] = x := ⟨_, rfl⟩
 obtain ⟨y, hy⟩ : ∃ y, d[j] = y := ⟨_, rfl⟩
 obtain ⟨x0, x1, x2, x3, x4, x5⟩ := own_cell h.own hi hx
 obtain ⟨y0, y1, y2, y3, y4, y5⟩ := own_cell h.own hj hy
 rw [hx, hy]
 clear hx hy h
 have H0 := fun n os => cell_grown (n := n) (os := os) (a := ⟨pb, 0, none⟩) hlt h0
 have X0 := fun n os => cell_grown (n := n) (os := os) (a := ⟨g, i * 6, none⟩) hg x0
 have X1 := fun n os => cell_grown (n := n) (os := os) (a := ⟨g, i * 6 + 1, none⟩) hg x1
 have X2 := fun n os => cell_grown (n := n) (os := os) (a := ⟨g, i * 6 + 2, none⟩) hg x2
 have X3 := fun n os => cell_grown (n := n) (os := os) (a := ⟨g, i * 6 + 3, none⟩) hg x3
 have X4 := fun n os => cell_grown (n := n) (os := os) (a := ⟨g, i * 6 + 4, none⟩) hg x4
 have X5 := fun n os => cell_grown (n := n) (os := os) (a := ⟨g, i * 6 + 5, none⟩) hg x5
 have Y0 := fun n os => cell_grown (n := n) (os := os) (a := ⟨g, j * 6, none⟩) hg y0
 have Y1 := fun n os => cell_grown (n := n) (os := os) (a := ⟨g, j * 6 + 1, none⟩) hg y1
 have Y2 := fun n os => cell_grown (n := n) (os := os) (a := ⟨g, j * 6 + 2, none⟩) hg y2
 have Y3 := fun n os => cell_grown (n := n) (os := os) (a := ⟨g, j * 6 + 3, none⟩) hg y3
 have Y4 := fun n os => cell_grown (n := n) (os := os) (a := ⟨g, j * 6 + 4, none⟩) hg y4
 have Y5 := fun n os => cell_grown (n := n) (os := os) (a := ⟨g, j * 6 + 5, none⟩) hg y5
 have hb := fun W => byKey_any x y W
 have hk : klt x.1 y.1 = decide (kcmp x.1 y.1 < 0) := rfl
 rw [hk]
 generalize kcmp x.1 y.1 = r at hb ⊢
 have hi' : (i : Int) < (d.length : Int) := by omega
 have hj' : (j : Int) < (d.length : Int) := by omega
 have hd : d.length ≤ 64 := hl
 generalize d.length = n at *
 clear hl h0 x0 x1 x2 x3 x4 x5 y0 y1 y2 y3 y4 y5
 obtain ⟨⟨x1, x2, x3⟩, x4, x5, x6⟩ := x
 obtain ⟨⟨y1, y2, y3⟩, y4, y5, y6⟩ := y
 dsimp only at *
 go_enter Tryz.func258, Tryz.ntmps258
 go_wp2_with fail
 go_quiet_grown (first | (go_at_call 168; refine Calls.grown_of (hb _)))
 go_wp2
 go_ret
 exact ⟨rfl, below_grow _ _ _⟩
end Go.Proofs.YtiaopafkfadmkaaGreat.Q
namespace Go.Proofs.YtiaopafkfadmkaaGreat.Q
open Go.RowKit Go.Sort
theorem ne_cell (g p q : Nat) (h : p ≠ q) (W : World) (u : Value) : (W.setCell ⟨g, p, none⟩ u).cell? ⟨g, q, none⟩ = W.cell? ⟨g, q, none⟩ := by
 rw [World.cell?_setCell_other]
 simp
theorem setCells6 (w : World) (g p q : Nat) (a b : M) : ((w.drew.setCells g p (enc b)).setCells g q (enc a)) =
  ((((((((((((w.setCell ⟨g, p, none⟩ (.int .i64 b.1.1)).setCell ⟨g, p + 1, none⟩ (.int .i64 b.1.2.1)).setCell ⟨g, p + 2, none⟩ (.int .i64 b.1.2.2)).setCell ⟨g, p + 3, none⟩ (.int .i64 b.2.1)).setCell ⟨g, p + 4, none⟩ (.int .i64 b.2.2.1)).setCell ⟨g, p + 5, none⟩ (.int .i64 b.2.2.2)).setCell
   ⟨g, q, none⟩ (.int .i64 a.1.1)).setCell ⟨g, q + 1, none⟩ (.int .i64 a.1.2.1)).setCell ⟨g, q + 2, none⟩ (.int .i64 a.1.2.2)).setCell ⟨g, q + 3, none⟩ (.int .i64 a.2.1)).setCell ⟨g, q + 4, none⟩ (.int .i64 a.2.2.1)).setCell ⟨g, q + 5, none⟩ (.int .i64 a.2.2.2)).drew := by
 simp only [enc, World.setCells, Nat.add_assoc, Nat.reduceAdd, World.setCell_drew]
set_option maxHeartbeats 1000000 in
theorem swap_raw {w W1 W2 W3 : World} {pb mb g cap n i j : Nat} {a1 a2 a3 a4 a5 a6 b1 b2 b3 b4 b5 b6 : Int} (hij : i ≠ j) (hl : n ≤ 64) (hi : (i : Int) < (n : Int)) (hj : (j : Int) < (n : Int))
  (c0 : w.cell? ⟨pb, 0, none⟩ = some (.slice (some ⟨g, 0, none⟩) n cap)) (hpg : pb ≠ g)
  (x0 : w.cell? ⟨g, i * 6, none⟩ = some (.int .i64 a1)) (x1 : w.cell? ⟨g, i * 6 + 1, none⟩ = some (.int .i64 a2)) (x2 : w.cell? ⟨g, i * 6 + 2, none⟩ = some (.int .i64 a3))
  (x3 : w.cell? ⟨g, i * 6 + 3, none⟩ = some (.int .i64 a4)) (x4 : w.cell? ⟨g, i * 6 + 4, none⟩ = some (.int .i64 a5)) (x5 : w.cell? ⟨g, i * 6 + 5, none⟩ = some (.int .i64 a6))
  (y0 : w.cell? ⟨g, j * 6, none⟩ = some (.int .i64 b1)) (y1 : w.cell? ⟨g, j * 6 + 1, none⟩ = some (.int .i64 b2)) (y2 : w.cell? ⟨g, j * 6 + 2, none⟩ = some (.int .i64 b3))
  (y3 : w.cell? ⟨g, j * 6 + 3, none⟩ = some (.int .i64 b4)) (y4 : w.cell? ⟨g, j * 6 + 4, none⟩ = some (.int .i64 b5)) (y5 : w.cell? ⟨g, j * 6 + 5, none⟩ = some (.int .i64 b6))
  (hf : ∀ p, w.frozen? ⟨g, p, none⟩ = false)
  (hW1 : Hid (W1 = ((w.drew.setCells g (i * 6) (enc ((b1, b2, b3), b4, b5, b6))).setCells g (j * 6) (enc ((a1, a2, a3), a4, a5, a6)))))
  (d0 : W1.cell? ⟨pb, 0, none⟩ = some (.slice (some ⟨g, 0, none⟩) n cap)) (d1 : W1.cell? ⟨pb, 1, none⟩ = some (.map (some mb)))
  (u0 : W1.cell? ⟨g, i * 6, none⟩ = some (.int .i64 b1)) (u1 : W1.cell? ⟨g, i * 6 + 1, none⟩ = some (.int .i64 b2)) (u2 : W1.cell? ⟨g, i * 6 + 2, none⟩ = some (.int .i64 b3))
  (m1 : (Instr.mapUpdate 161 (.map (some mb)) (.agg #[.int .i64 b1, .int .i64 b2, .int .i64 b3]) (.int .i64 i)).run Tryz.prog W1.drew = .ok () W2)
  (e0 : W2.cell? ⟨pb, 0, none⟩ = some (.slice (some ⟨g, 0, none⟩) n cap)) (e1 : W2.cell? ⟨pb, 1, none⟩ = some (.map (some mb)))
  (v0 : W2.cell? ⟨g, j * 6, none⟩ = some (.int .i64 a1)) (v1 : W2.cell? ⟨g, j * 6 + 1, none⟩ = some (.int .i64 a2)) (v2 : W2.cell? ⟨g, j * 6 + 2, none⟩ = some (.int .i64 a3))
  (m2 : (Instr.mapUpdate 161 (.map (some mb)) (.agg #[.int .i64 a1, .int .i64 a2, .int .i64 a3]) (.int .i64 j)).run Tryz.prog W2.drew = .ok () W3) :
  Calls Tryz.prog 261 #[.pointer (some ⟨pb, 0, none⟩), .int .i64 i, .int .i64 j] w fun e w' => e = .returned (.tuple #[]) ∧ w' = W3 := by
 have mixed : Tryz.prog.follows .mixedOrders = true := by kernel_rfl
 have n00 := ne_cell g (i * 6) (j * 6) (by omega)
 have n01 := ne_cell g (i * 6) (j * 6 + 1) (by omega)
 have n02 := ne_cell g (i * 6) (j * 6 + 2) (by omega)
 have n03 := ne_cell g (i * 6) (j * 6 + 3) (by omega)
 have n04 := ne_cell g (i * 6) (j * 6 + 4) (by omega)
 have n05 := ne_cell g (i * 6) (j * 6 + 5) (by omega)
 have n10 := ne_cell g (i * 6 + 1) (j * 6) (by omega)
 have n11 := ne_cell g (i * 6 + 1) (j * 6 + 1) (by omega)
 have n12 := ne_cell g (i * 6 + 1) (j * 6 + 2) (by omega)
 have n13 := ne_cell g (i * 6 + 1) (j * 6 + 3) (by omega)
 have n14 := ne_cell g (i * 6 + 1) (j * 6 + 4) (by omega)
 have n15 := ne_cell g (i * 6 + 1) (j * 6 + 5) (by omega)
 have n20 := ne_cell g (i * 6 + 2) (j * 6) (by omega)
 have n21 := ne_cell g (i * 6 + 2) (j * 6 + 1) (by omega)
 have n22 := ne_cell g (i * 6 + 2) (j * 6 + 2) (by omega)
 have n23 := ne_cell g (i * 6 + 2) (j * 6 + 3) (by omega)
 have n24 := ne_cell g (i * 6 + 2) (j * 6 + 4) (by omega)
 have n25 := ne_cell g (i * 6 + 2) (j * 6 + 5) (by omega)
 have n30 := ne_cell g (i * 6 + 3) (j * 6) (by omega)
 have n31 := ne_cell g (i * 6 + 3) (j * 6 + 1) (by omega)
 have n32 := ne_cell g (i * 6 + 3) (j * 6 + 2) (by omega)
 have n33 := ne_cell g (i * 6 + 3) (j * 6 + 3) (by omega)
 have n34 := ne_cell g (i * 6 + 3) (j * 6 + 4) (by omega)
 have n35 := ne_cell g (i * 6 + 3) (j * 6 + 5) (by omega)
 have n40 := ne_cell g (i * 6 + 4) (j * 6) (by omega)
 have n41 := ne_cell g (i * 6 + 4) (j * 6 + 1) (by omega)
 have n42 := ne_cell g (i * 6 + 4) (j * 6 + 2) (by omega)
 have n43 := ne_cell g (i * 6 + 4) (j * 6 + 3) (by omega)
 have n44 := ne_cell g (i * 6 + 4) (j * 6 + 4) (by omega)
 have n45 := ne_cell g (i * 6 + 4) (j * 6 + 5) (by omega)
 have n50 := ne_cell g (i * 6 + 5) (j * 6) (by omega)
 have n51 := ne_cell g (i * 6 + 5) (j * 6 + 1) (by omega)
 have n52 := ne_cell g (i * 6 + 5) (j * 6 + 2) (by omega)
 have n53 := ne_cell g (i * 6 + 5) (j * 6 + 3) (by omega)
 have n54 := ne_cell g (i * 6 + 5) (j * 6 + 4) (by omega)
 have n55 := ne_cell g (i * 6 + 5) (j * 6 + 5) (by omega)
 go_enter Tryz.func261, Tryz.ntmps261
 go_wp2_with fail
 go_region
 clear n00 n01 n02 n03 n04 n05 n10 n11 n12 n13 n14 n15 n20 n21 n22 n23 n24 n25 n30 n31 n32 n33 n34 n35 n40 n41 n42 n43 n44 n45 n50 n51 n52 n53 n54 n55
 generalize hwq : World.drew _ = wq
 obtain rfl : wq = W1 := by rw [hW1.out, setCells6]; exact hwq.symm
 clear hwq hW1 x0 x1 x2 x3 x4 x5 y0 y1 y2 y3 y4 y5 c0 hf
 go_wp2_with fail
 go_region
 clear u0 u1 u2 m1 d0 d1
 go_wp2_with fail
 go_region
 go_wp2
 go_end0
 exact ⟨rfl, rfl⟩
set_option maxHeartbeats 1000000 in
theorem swap_raw_same {w W1 W2 W3 : World} {pb mb g cap n i : Nat} {a1 a2 a3 a4 a5 a6 : Int} (hl : n ≤ 64) (hi : (i : Int) < (n : Int))
  (c0 : w.cell? ⟨pb, 0, none⟩ = some (.slice (some ⟨g, 0, none⟩) n cap)) (hpg : pb ≠ g)
  (x0 : w.cell? ⟨g, i * 6, none⟩ = some (.int .i64 a1)) (x1 : w.cell? ⟨g, i * 6 + 1, none⟩ = some (.int .i64 a2)) (x2 : w.cell? ⟨g, i * 6 + 2, none⟩ = some (.int .i64 a3))
  (x3 : w.cell? ⟨g, i * 6 + 3, none⟩ = some (.int .i64 a4)) (x4 : w.cell? ⟨g, i * 6 + 4, none⟩ = some (.int .i64 a5)) (x5 : w.cell? ⟨g, i * 6 + 5, none⟩ = some (.int .i64 a6))
  (hf : ∀ p, w.frozen? ⟨g, p, none⟩ = false)
  (hW1 : Hid (W1 = ((w.drew.setCells g (i * 6) (enc ((a1, a2, a3), a4, a5, a6))).setCells g (i * 6) (enc ((a1, a2, a3), a4, a5, a6)))))
  (d0 : W1.cell? ⟨pb, 0, none⟩ = some (.slice (some ⟨g, 0, none⟩) n cap)) (d1 : W1.cell? ⟨pb, 1, none⟩ = some (.map (some mb)))
  (u0 : W1.cell? ⟨g, i * 6, none⟩ = some (.int .i64 a1)) (u1 : W1.cell? ⟨g, i * 6 + 1, none⟩ = some (.int .i64 a2)) (u2 : W1.cell? ⟨g, i * 6 + 2, none⟩ = some (.int .i64 a3))
  (m1 : (Instr.mapUpdate 161 (.map (some mb)) (.agg #[.int .i64 a1, .int .i64 a2, .int .i64 a3]) (.int .i64 i)).run Tryz.prog W1.drew = .ok () W2)
  (e0 : W2.cell? ⟨pb, 0, none⟩ = some (.slice (some ⟨g, 0, none⟩) n cap)) (e1 : W2.cell? ⟨pb, 1, none⟩ = some (.map (some mb)))
  (v0 : W2.cell? ⟨g, i * 6, none⟩ = some (.int .i64 a1)) (v1 : W2.cell? ⟨g, i * 6 + 1, none⟩ = some (.int .i64 a2)) (v2 : W2.cell? ⟨g, i * 6 + 2, none⟩ = some (.int .i64 a3))
  (m2 : (Instr.mapUpdate 161 (.map (some mb)) (.agg #[.int .i64 a1, .int .i64 a2, .int .i64 a3]) (.int .i64 i)).run Tryz.prog W2.drew = .ok () W3) :
  Calls Tryz.prog 261 #[.pointer (some ⟨pb, 0, none⟩), .int .i64 i, .int .i64 i] w fun e w' => e = .returned (.tuple #[]) ∧ w' = W3 := by
 have mixed : Tryz.prog.follows .mixedOrders = true := by kernel_rfl
 go_enter Tryz.func261, Tryz.ntmps261
 go_wp2_with fail
 go_region
 generalize hwq : World.drew _ = wq
 obtain rfl : wq = W1 := by rw [hW1.out, setCells6]; exact hwq.symm
 clear hwq hW1 x0 x1 x2 x3 x4 x5 c0 hf
 go_wp2_with fail
 go_region
 clear u0 u1 u2 m1 d0 d1
 go_wp2_with fail
 go_region
 go_wp2
 go_end0
 exact ⟨rfl, rfl⟩
end Go.Proofs.YtiaopafkfadmkaaGreat.Q
namespace Go.Proofs.YtiaopafkfadmkaaGreat.Q
open Go.RowKit Go.Sort
theorem zero3 (w : World) : (zeroValue 3).run Tryz.prog w = .ok (.int .i64 0) w := by kernel_rfl
theorem swapL_perm (d : List M) (i j : Nat) (hi : i < d.length) (hj : j < d.length) : (swapL d i j).Perm d := by
 have e : swapL d i j = (d.set i d[j]).set j d[i] := by
  simp [swapL, swp, hi, hj]
 rw [e]
 exact perm_set_set d i j hi hj
theorem swapL_mem (d : List M) (i j : Nat) (hi : i < d.length) (hj : j < d.length) : ∀ m, m ∈ swapL d i j ↔ m ∈ d := fun m => (swapL_perm d i j hi hj).mem_iff
theorem nodup_key {d : List M} (h : (d.map Prod.fst).Nodup) {i j : Nat} (hi : i < d.length) (hj : j < d.length) (he : d[i].1 = d[j].1) : i = j := by
 exact (List.getElem_inj (xs := d.map Prod.fst) (h₀ := by simpa using hi) (h₁ := by simpa using hj) h).1 (by simpa using he)
theorem MapIs.swapped {W1 : World} {mb : Nat} {d : List M} (h : MapIs W1 mb d) (hwf : ∀ m ∈ d, mwf m) (hnd : (d.map Prod.fst).Nodup) (hlen : d.length ≤ 64) (i j : Nat) (hi : i < d.length) (hj : j < d.length) :
  ∃ W2 W3, (Instr.mapUpdate 161 (.map (some mb)) (kv d[j].1) (.int .i64 i)).run Tryz.prog W1.drew = .ok () W2 ∧ (Instr.mapUpdate 161 (.map (some mb)) (kv d[i].1) (.int .i64 j)).run Tryz.prog W2.drew = .ok () W3 ∧
   Fr (fun k => k = mb) W1 W2 ∧ Fr (fun k => k = mb) W2 W3 ∧ MapIs W3 mb (swapL d i j) := by
 obtain ⟨D, hown, hhas, hat⟩ := h
 have wi := (hwf _ (List.getElem_mem hi)).1
 have wj := (hwf _ (List.getElem_mem hj)).1
 have t0 := hown.tidy keyed28
 obtain ⟨W2, r1, o1, m1⟩ := World.ownsMap.store (w := W1.drew) (H := Unit) hown keyed28 Tryz.underlying161 (by unfold maxLen; omega) (kl_some wj) (plainElem_int (H := Unit) Tryz.underlying3 (a := (i : Int)) (WalkArith.wf_i64 (by omega)))
 have t1 := o1.tidy keyed28
 obtain ⟨W3, r2, o2, m2⟩ := World.ownsMap.store (w := W2.drew) (H := Unit) o1 keyed28 Tryz.underlying161 (by unfold maxLen; omega) (kl_some wi) (plainElem_int (H := Unit) Tryz.underlying3 (a := (j : Int)) (WalkArith.wf_i64 (by omega)))
 have hi0 : Maps.has D (klP Tryz.prog d[i].1) = true := (hhas _ wi).2 (List.mem_map.2 ⟨_, List.getElem_mem hi, rfl⟩)
 have hj0 : Maps.has D (klP Tryz.prog d[j].1) = true := (hhas _ wj).2 (List.mem_map.2 ⟨_, List.getElem_mem hj, rfl⟩)
 have hput : ∀ (D' : DataW Unit) (a b : K) (z : DataW Unit), Maps.IsMap D' → kwf a → kwf b → Maps.has (D'.put (klP Tryz.prog a) z) (klP Tryz.prog b) = if b = a then true else Maps.has D' (klP Tryz.prog b) := fun D' a b z hD ha hb => by
  by_cases e : b = a
  ·subst e; rw [if_pos rfl]; exact Maps.has_put_same hD (kl_lit ha) _
  ·rw [if_neg e]; exact Maps.has_put_other (fun h => e (kl_inj hb ha h)) _
 have hi1 : Maps.has (D.put (klP Tryz.prog d[j].1) (num i)) (klP Tryz.prog d[i].1) = true := by
  rw [hput D _ _ _ t0.isMap wj wi]; split
  ·rfl
  ·exact hi0
 refine ⟨W2, W3, r1, r2, ?_, ?_, ⟨_, ownsMap_size o2 ?_, ?_, ?_⟩⟩
 ·have := (Fr.of_grown (a := W1.drew) m1.grown).wide (S' := fun k => k = mb) (fun k hk => by simpa using hk.symm)
  exact ⟨this.os, this.tape, this.output, this.size, this.block⟩
 ·have := (Fr.of_grown (a := W2.drew) m2.grown).wide (S' := fun k => k = mb) (fun k hk => by simpa using hk.symm)
  exact ⟨this.os, this.tape, this.output, this.size, this.block⟩
 ·rw [put_size t1 hi1, put_size t0 hj0, swapL_len]; exact hown.size_le
 ·intro k hk
  rw [hput _ _ _ _ t1.isMap wi hk, hput _ _ _ _ t0.isMap wj hk]
  have hm : k ∈ (swapL d i j).map Prod.fst ↔ k ∈ d.map Prod.fst := ((swapL_perm d i j hi hj).map Prod.fst).mem_iff
  rw [hm]
  split
  ·rename_i e; subst e; simp only [true_iff]; exact List.mem_map.2 ⟨_, List.getElem_mem hi, rfl⟩
  ·split
   ·rename_i e; subst e; simp only [true_iff]; exact List.mem_map.2 ⟨_, List.getElem_mem hj, rfl⟩
   ·exact hhas k hk
 ·intro t ht0
  have ht : t < d.length := by rw [swapL_len] at ht0; exact ht0
  have ht' := (hwf _ (List.getElem_mem ht)).1
  rw [swapL_get d i j t hi hj ht]
  by_cases e1 : t = j
  ·subst e1
   rw [if_pos rfl]
   exact Maps.atKey_put_same t1.isMap (kl_lit wi) _ _
  ·rw [if_neg e1]
   by_cases e2 : t = i
   ·subst e2
    rw [if_pos rfl, Maps.atKey_put_other (fun e => e1 (nodup_key hnd ht hj (kl_inj wj wi e).symm)) _ _]
    exact Maps.atKey_put_same t0.isMap (kl_lit wj) _ _
   ·rw [if_neg e2, Maps.atKey_put_other (fun e => e2 (nodup_key hnd ht hi (kl_inj ht' wi e))) _ _, Maps.atKey_put_other (fun e => e1 (nodup_key hnd ht hj (kl_inj ht' wj e))) _ _]
    exact hat t ht
end Go.Proofs.YtiaopafkfadmkaaGreat.Q
namespace Go.Proofs.YtiaopafkfadmkaaGreat.Q
open Go.RowKit Go.Sort
def nth (d : List M) (i : Nat) : M := d.getD i default
def key (d : List M) (i : Nat) : K := (nth d i).1
theorem nth_get (d : List M) (i : Nat) (h : i < d.length) : nth d i = d[i] := by simp [nth, h]
theorem nth_swapL (d : List M) (i j t : Nat) (hi : i < d.length) (hj : j < d.length) : nth (swapL d i j) t = if t = j then nth d i else if t = i then nth d j else nth d t := by
 by_cases ht : t < d.length
 ·rw [nth_get _ _ (by rw [swapL_len]; exact ht), swapL_get d i j t hi hj ht, nth_get _ _ hi, nth_get _ _ hj, nth_get _ _ ht]
 ·rw [if_neg (by omega), if_neg (by omega)]
  simp [nth, List.getD, List.getElem?_eq_none (show d.length ≤ t by omega), List.getElem?_eq_none (show (swapL d i j).length ≤ t by rw [swapL_len]; omega)]
theorem key_swapL (d : List M) (i j t : Nat) (hi : i < d.length) (hj : j < d.length) : key (swapL d i j) t = if t = j then key d i else if t = i then key d j else key d t := by
 unfold key
 rw [nth_swapL d i j t hi hj]
 split
 ·rfl
 ·split <;> rfl
def OK (d : List M) (n : Nat) : Prop := ∀ c, 0 < c → c < n → klt (key d c) (key d ((c - 1) / 2)) = false
def Exc (d : List M) (n i : Nat) : Prop :=
 (∀ c, 0 < c → c < n → c ≠ i → (c - 1) / 2 ≠ i → klt (key d c) (key d ((c - 1) / 2)) = false) ∧ (0 < i → ∀ c, 0 < c → c < n → (c - 1) / 2 = i → klt (key d c) (key d ((i - 1) / 2)) = false)
def UpOk (d : List M) (n i : Nat) : Prop := Exc d n i ∧ ∀ c, 0 < c → c < n → (c - 1) / 2 = i → klt (key d c) (key d i) = false
def Upper (d : List M) (i : Nat) : Prop := 0 < i → klt (key d i) (key d ((i - 1) / 2)) = false
theorem UpOk.ok {d : List M} {n i : Nat} (h : UpOk d n i) (hu : Upper d i) : OK d n := by
 intro c h0 hn
 by_cases e : c = i
 ·subst e; exact hu h0
 ·by_cases e2 : (c - 1) / 2 = i
  ·rw [e2]; exact h.2 c h0 hn e2
  ·exact h.1.1 c h0 hn e e2
theorem up_step {d : List M} {n j : Nat} (hn : n ≤ d.length) (hj : j < n) (h0 : 0 < j) (h : UpOk d n j) (hl : klt (key d j) (key d ((j - 1) / 2)) = true) : UpOk (swapL d ((j - 1) / 2) j) n ((j - 1) / 2) := by
 obtain ⟨i, hi⟩ : ∃ i, i = (j - 1) / 2 := ⟨_, rfl⟩
 rw [← hi] at hl ⊢
 have hij : i < j := by omega
 have hid : i < d.length := by omega
 have hjd : j < d.length := by omega
 have ks := fun t => key_swapL d i j t hid hjd
 have ki : key (swapL d i j) i = key d j := by rw [ks, if_neg (by omega), if_pos rfl]
 have kj : key (swapL d i j) j = key d i := by rw [ks, if_pos rfl]
 have ko : ∀ t, t ≠ i → t ≠ j → key (swapL d i j) t = key d t := fun t a b => by rw [ks, if_neg b, if_neg a]
 obtain ⟨⟨h1, h2⟩, h3⟩ := h
 refine ⟨⟨?_, ?_⟩, ?_⟩
 ·intro c c0 cn ci cp
  have cj : c ≠ j := fun e => cp (by rw [e]; exact hi.symm)
  rw [ko c ci cj]
  by_cases e : (c - 1) / 2 = j
  ·rw [e, kj]
   have := h2 h0 c c0 cn e
   rwa [← hi] at this
  ·rw [ko _ cp e]
   exact h1 c c0 cn cj e
 ·intro i0 c c0 cn cp
  rw [ko ((i - 1) / 2) (by omega) (by omega)]
  have hg : klt (key d i) (key d ((i - 1) / 2)) = false := h1 i i0 (by omega) (by omega) (by omega)
  by_cases e : c = j
  ·rw [e, kj]; exact hg
  ·rw [ko c (by omega) e]
   have := h1 c c0 cn e (by omega)
   rw [cp] at this
   exact kle_trans hg this
 ·intro c c0 cn cp
  rw [ki]
  by_cases e : c = j
  ·rw [e, kj]; exact klt_asymm hl
  ·rw [ko c (by omega) e]
   have := h1 c c0 cn e (by omega)
   rw [cp] at this
   cases e2 : klt (key d c) (key d j)
   ·rfl
   ·rw [klt_trans e2 hl] at this; cases this
theorem down_step {d : List M} {n i j : Nat} (hn : n ≤ d.length) (hj : j < n) (hp : (j - 1) / 2 = i) (h0 : 0 < j) (h : Exc d n i) (hs : ∀ c, 0 < c → c < n → (c - 1) / 2 = i → klt (key d c) (key d j) = false)
  (hl : klt (key d j) (key d i) = true) : Exc (swapL d i j) n j ∧ Upper (swapL d i j) j := by
 have hij : i < j := by omega
 have hid : i < d.length := by omega
 have hjd : j < d.length := by omega
 have ks := fun t => key_swapL d i j t hid hjd
 have ki : key (swapL d i j) i = key d j := by rw [ks, if_neg (by omega), if_pos rfl]
 have kj : key (swapL d i j) j = key d i := by rw [ks, if_pos rfl]
 have ko : ∀ t, t ≠ i → t ≠ j → key (swapL d i j) t = key d t := fun t a b => by rw [ks, if_neg b, if_neg a]
 obtain ⟨h1, h2⟩ := h
 refine ⟨⟨?_, ?_⟩, ?_⟩
 ·intro c c0 cn cj cp
  by_cases e : c = i
  ·rw [e, ki, ko ((i - 1) / 2) (by omega) (by omega)]
   exact h2 (by omega) j h0 hj hp
  ·rw [ko c e cj]
   by_cases e2 : (c - 1) / 2 = i
   ·rw [e2, ki]; exact hs c c0 cn e2
   ·rw [ko _ e2 cp]; exact h1 c c0 cn e e2
 ·intro _ c c0 cn cp
  rw [hp, ki, ko c (by omega) (by omega)]
  have := h1 c c0 cn (by omega) (by omega)
  rwa [cp] at this
 ·intro _
  rw [hp, ki, kj]
  exact klt_asymm hl
def Same (n : Nat) (d d' : List M) : Prop := d'.Perm d ∧ ∀ t, n ≤ t → nth d' t = nth d t
theorem Same.refl (n : Nat) (d : List M) : Same n d d := ⟨List.Perm.refl _, fun _ _ => rfl⟩
theorem Same.trans {n : Nat} {a b c : List M} (h : Same n a b) (g : Same n b c) : Same n a c := ⟨g.1.trans h.1, fun t ht => (g.2 t ht).trans (h.2 t ht)⟩
theorem Same.len {n : Nat} {d d' : List M} (h : Same n d d') : d'.length = d.length := h.1.length_eq
theorem same_swap {n : Nat} {d : List M} {i j : Nat} (hi : i < n) (hj : j < n) (hn : n ≤ d.length) : Same n d (swapL d i j) :=
 ⟨swapL_perm d i j (by omega) (by omega), fun t ht => by rw [nth_swapL d i j t (by omega) (by omega), if_neg (by omega), if_neg (by omega)]⟩
theorem ok_mono {d : List M} {n m : Nat} (h : OK d n) (hm : m ≤ n) : OK d m := fun c h0 hc => h c h0 (by omega)
theorem ok_first {d : List M} {n : Nat} (h : OK d n) : ∀ c, c < n → klt (key d c) (key d 0) = false := by
 intro c
 induction c using Nat.strongRecOn with
 | _ c ih =>
  intro hc
  by_cases e : c = 0
  ·subst e; exact klt_irrefl _
  ·exact kle_trans (ih ((c - 1) / 2) (by omega) (by omega)) (h c (by omega) hc)
theorem exc_swap {d : List M} {n i : Nat} (hn : n < d.length) (hi : i < n) (h : OK d (n + 1)) : Exc (swapL d i n) n i := by
 have ks := fun t => key_swapL d i n t (by omega) hn
 have ko : ∀ t, t ≠ i → t < n → key (swapL d i n) t = key d t := fun t a b => by rw [ks, if_neg (by omega), if_neg a]
 refine ⟨?_, ?_⟩
 ·intro c c0 cn ci cp
  rw [ko c ci cn, ko _ cp (by omega)]
  exact h c c0 (by omega)
 ·intro i0 c c0 cn cp
  rw [ko c (by omega) cn, ko ((i - 1) / 2) (by omega) (by omega)]
  have h1 := h c c0 (by omega)
  rw [cp] at h1
  exact kle_trans (h i i0 (by omega)) h1
theorem upok_append {d : List M} {m : M} (h : OK d d.length) : UpOk (d ++ [m]) (d ++ [m]).length d.length := by
 have ko : ∀ t, t < d.length → key (d ++ [m]) t = key d t := fun t ht => by
  unfold key
  rw [nth_get _ _ (by simp; omega), nth_get _ _ ht, List.getElem_append_left ht]
 refine ⟨⟨?_, ?_⟩, ?_⟩
 ·intro c c0 cn ci cp
  simp at cn
  rw [ko c (by omega), ko _ (by omega)]
  exact h c c0 (by omega)
 ·intro i0 c c0 cn cp
  simp at cn
  omega
 ·intro c c0 cn cp
  simp at cn
  omega
end Go.Proofs.YtiaopafkfadmkaaGreat.Q
namespace Go.Proofs.YtiaopafkfadmkaaGreat.Q
open Go.RowKit Go.Sort
def Srt (s : List M) : Prop := s.Pairwise (fun a b => klt a.1 b.1 = true)
def ins : List M → M → List M
 | [], m => [m]
 | x :: r, m => if klt m.1 x.1 = true then m :: x :: r else x :: ins r m
def del (s : List M) (k : K) : List M := s.filter (fun x => decide (x.1 ≠ k))
def low (s : List M) (t : Int) : List M := s.filter (fun x => decide (x.1.1 < t))
abbrev zeroM : M := ((0, 0, 0), 0, 0, 0)
def hasK (s : List M) (k : K) : Bool := s.any (fun x => decide (x.1 = k))
def fnd (s : List M) (k : K) : M := (s.find? (fun x => decide (x.1 = k))).getD zeroM
theorem hasK_iff (s : List M) (k : K) : hasK s k = true ↔ k ∈ s.map Prod.fst := by
 unfold hasK
 simp [List.any_eq_true]
theorem Srt.nodup {s : List M} (h : Srt s) : (s.map Prod.fst).Nodup := by
 unfold List.Nodup
 rw [List.pairwise_map]
 exact h.imp fun {a b} hab e => by rw [e, klt_irrefl] at hab; cases hab
theorem ins_perm (s : List M) (m : M) : (ins s m).Perm (s ++ [m]) := by
 induction s with
 | nil => exact List.Perm.refl _
 | cons x r ih =>
  unfold ins
  split
  ·exact (List.perm_append_singleton m (x :: r)).symm
  ·exact ih.cons x
theorem ins_mem {s : List M} {m y : M} : y ∈ ins s m ↔ y ∈ s ∨ y = m := by
 rw [(ins_perm s m).mem_iff]; simp
theorem ins_len (s : List M) (m : M) : (ins s m).length = s.length + 1 := by
 rw [(ins_perm s m).length_eq]; simp
theorem Srt.ins {s : List M} {m : M} (h : Srt s) (hn : m.1 ∉ s.map Prod.fst) : Srt (ins s m) := by
 induction s with
 | nil => exact List.pairwise_singleton _ _
 | cons x r ih =>
  obtain ⟨h1, h2⟩ := List.pairwise_cons.1 h
  simp only [List.map_cons, List.mem_cons, not_or] at hn
  unfold YtiaopafkfadmkaaGreat.Q.ins
  split
  ·rename_i hlt
   refine List.pairwise_cons.2 ⟨?_, h⟩
   intro y hy
   rcases List.mem_cons.1 hy with rfl | hy
   ·exact hlt
   ·exact klt_trans hlt (h1 y hy)
  ·rename_i hlt
   refine List.pairwise_cons.2 ⟨?_, ih h2 hn.2⟩
   intro y hy
   rcases ins_mem.1 hy with hy | rfl
   ·exact h1 y hy
   ·rcases klt_or hn.1 with g | g
    ·exact absurd g hlt
    ·exact g
theorem Srt.del {s : List M} (h : Srt s) (k : K) : Srt (del s k) := h.filter _
theorem srt_unique : ∀ {a b : List M}, Srt a → Srt b → a.Perm b → a = b
 | [], b, _, _, hp => by rw [List.nil_perm.1 hp]
 | x :: r, [], _, _, hp => by simp at hp
 | x :: r, y :: t, ha, hb, hp => by
  obtain ⟨a1, a2⟩ := List.pairwise_cons.1 ha
  obtain ⟨b1, b2⟩ := List.pairwise_cons.1 hb
  have hx : x ∈ y :: t := hp.mem_iff.1 (List.mem_cons_self ..)
  have hy : y ∈ x :: r := hp.mem_iff.2 (List.mem_cons_self ..)
  have e : x = y := by
   rcases List.mem_cons.1 hx with e | hx
   ·exact e
   ·rcases List.mem_cons.1 hy with e | hy
    ·exact e.symm
    ·have h1 := b1 x hx
     have h2 := a1 y hy
     rw [klt_asymm h1] at h2; cases h2
  subst e
  rw [srt_unique a2 b2 (List.Perm.cons_inv hp)]
theorem heap_first {d s : List M} {x : M} (hp : d.Perm (x :: s)) (ho : OK d d.length) (hs : Srt (x :: s)) : nth d 0 = x := by
 have hl : d.length = s.length + 1 := by rw [hp.length_eq]; simp
 have h0 : nth d 0 ∈ x :: s := by rw [nth_get d 0 (by omega)]; exact hp.mem_iff.1 (List.getElem_mem _)
 rcases List.mem_cons.1 h0 with e | h0
 ·exact e
 ·have h1 := (List.pairwise_cons.1 hs).1 _ h0
  have hx : x ∈ d := hp.mem_iff.2 (List.mem_cons_self ..)
  obtain ⟨c, hc, e⟩ := List.getElem_of_mem hx
  have h2 := ok_first ho c hc
  unfold key at h2
  rw [nth_get d c hc, e, h1] at h2
  cases h2
theorem perm_pop {d' d s : List M} {x : M} (h : (d' ++ [x]).Perm d) (hp : d.Perm (x :: s)) : d'.Perm s := by
 have h1 : (x :: d').Perm (x :: s) := ((List.perm_append_singleton x d').symm.trans h).trans hp
 exact List.Perm.cons_inv h1
theorem del_perm {s : List M} {x : M} (hs : (s.map Prod.fst).Nodup) (hx : x ∈ s) : s.Perm (x :: del s x.1) := by
 induction s with
 | nil => simp at hx
 | cons y r ih =>
  simp only [List.map_cons, List.nodup_cons] at hs
  rcases List.mem_cons.1 hx with rfl | hx
  ·have : del r x.1 = r := by
    unfold del
    rw [List.filter_eq_self]
    intro z hz
    simp only [ne_eq, decide_eq_true_eq]
    exact fun e => hs.1 (by rw [← e]; exact List.mem_map.2 ⟨z, hz, rfl⟩)
   rw [show del (x :: r) x.1 = del r x.1 by simp [del], this]
  ·have hne : y.1 ≠ x.1 := fun e => hs.1 (by rw [e]; exact List.mem_map.2 ⟨x, hx, rfl⟩)
   rw [show del (y :: r) x.1 = y :: del r x.1 by simp [del, hne]]
   exact ((ih hs.2 hx).cons y).trans (List.Perm.swap x y _)
theorem fnd_of {s : List M} {x : M} (hs : (s.map Prod.fst).Nodup) (hx : x ∈ s) : fnd s x.1 = x := by
 unfold fnd
 induction s with
 | nil => simp at hx
 | cons y r ih =>
  simp only [List.map_cons, List.nodup_cons] at hs
  rcases List.mem_cons.1 hx with rfl | hx
  ·simp
  ·have hne : y.1 ≠ x.1 := fun e => hs.1 (by rw [e]; exact List.mem_map.2 ⟨x, hx, rfl⟩)
   rw [List.find?_cons_of_neg (by simp [hne])]
   exact ih hs.2 hx
theorem perm_remove {d' d s : List M} {x : M} (h : (d' ++ [x]).Perm d) (hp : d.Perm s) (hs : Srt s) : d'.Perm (del s x.1) ∧ fnd s x.1 = x := by
 have hx : x ∈ s := (h.trans hp).mem_iff.1 (by simp)
 refine ⟨perm_pop h (hp.trans (del_perm hs.nodup hx)), fnd_of hs.nodup hx⟩
theorem hasK_perm {d s : List M} (h : d.Perm s) (k : K) : k ∈ d.map Prod.fst ↔ hasK s k = true := by
 rw [hasK_iff]; exact (h.map Prod.fst).mem_iff
theorem fnd_none {s : List M} {k : K} (h : hasK s k = false) : fnd s k = zeroM := by
 unfold fnd
 have : s.find? (fun x => decide (x.1 = k)) = none := by
  rw [List.find?_eq_none]
  intro x hx e
  have : hasK s k = true := List.any_eq_true.2 ⟨x, hx, e⟩
  rw [h] at this; cases this
 rw [this]; rfl
theorem del_none {s : List M} {k : K} (h : hasK s k = false) : del s k = s := by
 unfold del
 rw [List.filter_eq_self]
 intro x hx
 simp only [ne_eq, decide_eq_true_eq]
 intro e
 have : hasK s k = true := List.any_eq_true.2 ⟨x, hx, by simpa using e⟩
 rw [h] at this; cases this
theorem srt_of_sorted {l : List M} (hn : (l.map Prod.fst).Nodup) (h : l.Pairwise (fun a b => klt b.1 a.1 = false)) : Srt l := by
 have h2 : l.Pairwise (fun a b => a.1 ≠ b.1) := by
  have := hn
  unfold List.Nodup at this
  rwa [List.pairwise_map] at this
 exact (h.and h2).imp fun {a b} ⟨x, y⟩ => (klt_or y).elim id (fun g => by rw [x] at g; cases g)
end Go.Proofs.YtiaopafkfadmkaaGreat.Q
