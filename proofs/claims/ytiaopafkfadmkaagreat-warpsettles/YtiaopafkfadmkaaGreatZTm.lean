/- Joined: the texts that follow, each with its own sentence. -/
import Derived.Maps.AppendAt
import Derived.Maps.RangeWalk
import Derived.Maps.OwnSet
import Derived.Shelf.RegionOpen
import Derived.WalkKit
import Derived.WalkSpells
import Derived.WalkLawsBesides
import Derived.Below
import Derived.OwnWalk
import Derived.LoopTactic
import Derived.Outline
import Derived.RegionTactic
import Derived.Shelf.RegionOpenPlain
import Derived.Sort.WalkB12
import Derived.Deep.RegionHeld3
import Derived.Deep.RegionWith
import Derived.Deep.QuietTactic
import Derived.Deep.RegionLaw
import Derived.BigQuiet
import Derived.Lib.QuietBelow
import Derived.Lib.SliceRun
import Derived.Laws.AppendOwnNone
import Derived.Laws.Rows
import Derived.RowKit3
import Derived.Test.YtiaopafkfadmkaaGreatProg
import Derived.Laws.MakeOwn
set_option linter.unusedVariables false
set_option maxRecDepth 100000
namespace Go.Proofs.YtiaopafkfadmkaaGreat.C
open Go.RowKit Go.Shelf
theorem clt {W : World} {p : Addr} {v : Value} (hc : W.cell? p = some v) : p.block < W.heap.size := by
 rcases Nat.lt_or_ge p.block W.heap.size with g | g
 ·exact g
 ·simp [World.cell?, Array.getElem?_eq_none g] at hc
theorem al (w : World) (o : Obj) : Below w.heap.size w (w.alloc o) := (Below.refl _ w).alloc (Nat.le_refl _) _
theorem Below.on {w W W1 : World} (h : Below w.heap.size w W) (g : Below W.heap.size W W1) : Below w.heap.size w W1 := h.trans (g.mono h.size)
structure Fr (S : Nat → Prop) (w w' : World) : Prop where
 os : w'.os = w.os
 tape : w'.tape = w.tape
 output : w'.output = w.output
 size : w.heap.size ≤ w'.heap.size
 block : ∀ k, k < w.heap.size → ¬ S k → w'.heap[k]? = w.heap[k]?
theorem Fr.refl (S : Nat → Prop) (w : World) : Fr S w w := ⟨rfl, rfl, rfl, Nat.le_refl _, fun _ _ _ => rfl⟩
theorem Fr.trans {S S' : Nat → Prop} {a b c : World} (h : Fr S a b) (k : Fr S' b c) (hs : ∀ i, i < a.heap.size → S' i → S i) : Fr S a c :=
 ⟨k.os.trans h.os, k.tape.trans h.tape, k.output.trans h.output, Nat.le_trans h.size k.size, fun i hi hn => (k.block i (Nat.lt_of_lt_of_le hi h.size) (fun g => hn (hs i hi g))).trans (h.block i hi hn)⟩
theorem Fr.then {S : Nat → Prop} {a b c : World} (h : Fr S a b) (k : Fr S b c) : Fr S a c := h.trans k fun _ _ g => g
theorem Fr.wide {S S' : Nat → Prop} {a b : World} (h : Fr S a b) (hs : ∀ i, S i → S' i) : Fr S' a b :=
 ⟨h.os, h.tape, h.output, h.size, fun i hi hn => h.block i hi fun g => hn (hs i g)⟩
theorem Fr.of_below {S : Nat → Prop} {a b : World} (h : Below a.heap.size a b) : Fr S a b := ⟨h.os, h.tape, h.output, h.size, fun i hi _ => h.block i hi⟩
theorem Fr.below {S : Nat → Prop} {a b : World} {B : Nat} (h : Fr S a b) (hB : B ≤ a.heap.size) (hs : ∀ i, S i → B ≤ i) : Below B a b :=
 ⟨h.os, h.tape, h.output, h.size, fun i hi => h.block i (Nat.lt_of_lt_of_le hi hB) fun g => by have := hs i g; omega⟩
theorem Fr.drew {S : Nat → Prop} {a b : World} (h : Fr S a b) : Fr S a b.drew := ⟨h.os, h.tape, h.output, h.size, h.block⟩
theorem Fr.setCell {S : Nat → Prop} {a b : World} (h : Fr S a b) (p : Addr) (v : Value) (hp : S p.block ∨ a.heap.size ≤ p.block) : Fr S a (b.setCell p v) :=
 ⟨h.os, h.tape, h.output, by simpa using h.size, fun i hi hn => by
  rw [Below.heap_setCell _ _ _ _ (fun e => by subst e; rcases hp with g | g; exact hn g; omega)]
  exact h.block i hi hn⟩
theorem Fr.alloc {S : Nat → Prop} {a b : World} (h : Fr S a b) (o : Obj) : Fr S a (b.alloc o) :=
 ⟨h.os, h.tape, h.output, by have := h.size; simp; omega, fun i hi hn => by
  rw [Below.heap_alloc _ _ _ (Nat.lt_of_lt_of_le hi h.size)]
  exact h.block i hi hn⟩
theorem Fr.cell {S : Nat → Prop} {a b : World} (h : Fr S a b) {p : Addr} (hp : p.block < a.heap.size) (hn : ¬ S p.block) : b.cell? p = a.cell? p := World.cell?_of_block (h.block _ hp hn)
theorem Fr.frozen {S : Nat → Prop} {a b : World} (h : Fr S a b) {p : Addr} (hp : p.block < a.heap.size) (hn : ¬ S p.block) : b.frozen? p = a.frozen? p := World.frozen?_of_block (h.block _ hp hn)
end Go.Proofs.YtiaopafkfadmkaaGreat.C
namespace Go.Proofs.YtiaopafkfadmkaaGreat.C
open Go.RowKit Go.Shelf
def nthI (zs : List Int) (i : Nat) : Int := zs.getD i 0
def RdI (w : World) (a : Option Addr) (zs : List Int) : Prop := zs ≠ [] → ∃ b off, a = some ⟨b, off, none⟩ ∧ b < w.heap.size ∧ ∀ i, i < zs.length → w.cell? ⟨b, off + i, none⟩ = some (.int .i64 (nthI zs i))
theorem rdI_of_row {W : World} {b0 : Nat} {v : Value} {xs : List Int} (h : W.ownsRow b0 3 1 v xs.length (xs.map (Value.int .i64))) : ∃ a c, v = .slice a xs.length c ∧ RdI W a xs := by
 have h0 := h
 rcases h.2 with ⟨rfl, hk⟩ | ⟨g, cap, cur, rfl, _, hg, _, _, hs, h3⟩
 ·exact ⟨none, 0, by rw [hk], fun hz => absurd (List.eq_nil_of_length_eq_zero hk) hz⟩
 ·refine ⟨_, cap, rfl, fun _ => ⟨g, 0, rfl, (Array.getElem?_eq_some_iff.1 hg).1, fun i hi => ?_⟩⟩
  rw [Nat.zero_add, World.ownsRow.cellAt h0 _ (by omega)]
  simp [nthI, hi]
def cnt (t : Int) : Int := if t > 1099511627776 then 1125899906842624 else if t < 0 then 0 else t
theorem cnt_lo (t : Int) : 0 ≤ cnt t := by unfold cnt; split <;> (try split) <;> omega
theorem cnt_hi (t : Int) : cnt t ≤ 1125899906842624 := by unfold cnt; split <;> (try split) <;> omega
theorem cnt_big {t : Int} (h : 1099511627776 < t) : cnt t = 1125899906842624 := by unfold cnt; rw [if_pos h]
theorem cnt_mid {t : Int} (h0 : 0 ≤ t) (h : t ≤ 1099511627776) : cnt t = t := by
 unfold cnt; rw [if_neg (by omega), if_neg (by omega)]
theorem cnt_low {t : Int} (h : t < 0) : cnt t = 0 := by
 unfold cnt; rw [if_neg (by omega), if_pos h]
set_option maxHeartbeats 400000 in
theorem counted_any (t : Int) (w : World) :
  Calls Tryz.prog 128 #[.int .i64 t] w fun e w' => e = .returned (.int .i64 (cnt t)) ∧ w = w' := by
 by_cases h : 1099511627776 < t
 ·rw [cnt_big h]
  go_enter Tryz.func128, Tryz.ntmps128
  go_wp2
  go_ret
  exact ⟨rfl, rfl⟩
 ·by_cases h0 : t < 0
  ·rw [cnt_low h0]
   have e : max t 0 = 0 := by omega
   go_enter Tryz.func128, Tryz.ntmps128
   go_wp2
   go_ret
   exact ⟨rfl, rfl⟩
  ·rw [cnt_mid (by omega) (by omega)]
   have e : max t 0 = t := by omega
   go_enter Tryz.func128, Tryz.ntmps128
   go_wp2
   go_ret
   exact ⟨rfl, rfl⟩
set_option maxHeartbeats 400000 in
theorem time_any (t : Int) (w : World) :
  Calls Tryz.prog 129 #[.int .i64 t] w fun e w' => e = .returned (.int .i64 (cnt t)) ∧ w = w' := by
 by_cases h0 : t < 0
 ·rw [cnt_low h0]
  go_enter Tryz.func129, Tryz.ntmps129
  go_wp2
  go_ret
  exact ⟨rfl, rfl⟩
 ·by_cases h : 1099511627776 < t
  ·rw [cnt_big h]
   go_enter Tryz.func129, Tryz.ntmps129
   go_wp2
   go_ret
   exact ⟨rfl, rfl⟩
  ·rw [cnt_mid (by omega) (by omega)]
   go_enter Tryz.func129, Tryz.ntmps129
   go_wp2
   go_ret
   exact ⟨rfl, rfl⟩
def vadd (t d : Int) : Int := cnt (cnt t + cnt d)
theorem cnt_two (t : Int) : cnt t = 1125899906842624 ∨ cnt t ≤ 1099511627776 := by
 unfold cnt; split <;> (try split) <;> omega
set_option maxHeartbeats 400000 in
theorem add_any (t d : Int) (w : World) :
  Calls Tryz.prog 82 #[.int .i64 t, .int .i64 d] w fun e w' => e = .returned (.int .i64 (vadd t d)) ∧ w = w' := by
 have h1 := cnt_lo t
 have h2 := cnt_hi t
 have h3 := cnt_lo d
 have h4 := cnt_hi d
 go_enter Tryz.func82, Tryz.ntmps82
 go_wp2_with (go_at_call 128; refine (counted_any _ _).mono ?_; rintro e w' ⟨rfl, rfl⟩)
 go_ret
 exact ⟨rfl, rfl⟩
set_option maxHeartbeats 400000 in
theorem refadd_any (t d : Int) (w : World) :
  Calls Tryz.prog 83 #[.int .i64 t, .int .i64 d] w fun e w' => e = .returned (.int .i64 (vadd t d)) ∧ w = w' := by
 have h1 := cnt_lo t
 have h3 := cnt_lo d
 rcases cnt_two t with ht | ht
 ·have ev : vadd t d = 1125899906842624 := by unfold vadd; rw [ht]; exact cnt_big (by omega)
  rw [ev]
  have kb : (cnt t == 1125899906842624) = true := by simpa using ht
  clear ht
  go_enter Tryz.func83, Tryz.ntmps83
  go_wp2_with (go_at_call 129; refine (time_any _ _).mono ?_; rintro e w' ⟨rfl, rfl⟩)
  go_ret
  exact ⟨rfl, rfl⟩
 ·have ka : (cnt t == 1125899906842624) = false := by simp; omega
  rcases cnt_two d with hd | hd
  ·have ev : vadd t d = 1125899906842624 := by unfold vadd; rw [hd]; exact cnt_big (by omega)
   rw [ev]
   have kb : (cnt d == 1125899906842624) = true := by simpa using hd
   clear ht hd
   go_enter Tryz.func83, Tryz.ntmps83
   go_wp2_with (go_at_call 129; refine (time_any _ _).mono ?_; rintro e w' ⟨rfl, rfl⟩)
   go_ret
   exact ⟨rfl, rfl⟩
  ·have kb : (cnt d == 1125899906842624) = false := by simp; omega
   go_enter Tryz.func83, Tryz.ntmps83
   go_wp2_with (go_at_call 129; refine (time_any _ _).mono ?_; rintro e w' ⟨rfl, rfl⟩)
   go_ret
   exact ⟨rfl, rfl⟩
def okT (t : Int) : Bool := decide (0 ≤ t ∧ t ≤ 1099511627776 ∨ t = 1125899906842624)
set_option maxHeartbeats 400000 in
theorem within_any (t m : Int) (w : World) :
  Calls Tryz.prog 179 #[.int .i64 t, .int .i64 m] w fun e w' => e = .returned (.bool (decide (0 ≤ t ∧ t ≤ m))) ∧ w = w' := by
 by_cases h : 0 ≤ t
 ·by_cases h2 : t ≤ m
  ·have e : decide (0 ≤ t ∧ t ≤ m) = true := by simp; omega
   rw [e]
   go_enter Tryz.func179, Tryz.ntmps179
   go_wp2
   go_ret
   exact ⟨rfl, rfl⟩
  ·have e : decide (0 ≤ t ∧ t ≤ m) = false := by simp; omega
   rw [e]
   go_enter Tryz.func179, Tryz.ntmps179
   go_wp2
   go_ret
   exact ⟨rfl, rfl⟩
 ·have e : decide (0 ≤ t ∧ t ≤ m) = false := by simp; omega
  rw [e]
  go_enter Tryz.func179, Tryz.ntmps179
  go_wp2
  go_ret
  exact ⟨rfl, rfl⟩
set_option maxHeartbeats 400000 in
theorem valid_any (t : Int) (w : World) :
  Calls Tryz.prog 148 #[.int .i64 t] w fun e w' => e = .returned (.bool (okT t)) ∧ w = w' := by
 have C := within_any t 1099511627776
 by_cases h : 0 ≤ t ∧ t ≤ 1099511627776
 ·have e1 : decide (0 ≤ t ∧ t ≤ 1099511627776) = true := by simpa using h
  have e : okT t = true := by unfold okT; simp; omega
  rw [e]
  simp only [e1] at C
  clear h e1
  go_enter Tryz.func148, Tryz.ntmps148
  go_wp2_with (go_at_call 179; refine (C _).mono ?_; rintro e w' ⟨rfl, rfl⟩)
  go_ret
  exact ⟨rfl, rfl⟩
 ·have e1 : decide (0 ≤ t ∧ t ≤ 1099511627776) = false := by simpa using h
  simp only [e1] at C
  by_cases h2 : t = 1125899906842624
  ·have d : (t == 1125899906842624) = true := by simpa using h2
   have e : okT t = true := by unfold okT; simp; omega
   rw [e]
   clear h e1 h2
   go_enter Tryz.func148, Tryz.ntmps148
   go_wp2_with (go_at_call 179; refine (C _).mono ?_; rintro e w' ⟨rfl, rfl⟩)
   go_ret
   exact ⟨rfl, rfl⟩
  ·have d : (t == 1125899906842624) = false := by simpa using h2
   have e : okT t = false := by unfold okT; simp; omega
   rw [e]
   clear h e1 h2
   go_enter Tryz.func148, Tryz.ntmps148
   go_wp2_with (go_at_call 179; refine (C _).mono ?_; rintro e w' ⟨rfl, rfl⟩)
   go_ret
   exact ⟨rfl, rfl⟩
def lstI (zs : List Int) : Int := zs.foldl (fun m x => min m (cnt x)) 1125899906842624
theorem lstI_app (zs : List Int) (x : Int) : lstI (zs ++ [x]) = min (lstI zs) (cnt x) := by simp [lstI]
theorem takeI_succ (zs : List Int) (k : Nat) (h : k < zs.length) : zs.take (k + 1) = zs.take k ++ [nthI zs k] := by
 rw [List.take_add_one]
 simp [nthI, h]
set_option maxHeartbeats 400000 in
theorem least_any (w : World) (a : Option Addr) (c : Nat) (zs : List Int) (h : RdI w a zs) (hl : zs.length ≤ 100000) :
  Calls Tryz.prog 80 #[.slice a zs.length c] w fun e w' => e = .returned (.int .i64 (lstI zs)) ∧ w = w' := by
 have HR : Hid _ := h
 clear h
 go_enter Tryz.func80, Tryz.ntmps80
 go_wp2
 go_loop [3, 8] (fun n i => ∃ k : Nat, k ≤ zs.length ∧ i = .int .i64 k ∧ n = .int .i64 (lstI (zs.take k))) (fun _ i => zs.length - (intOf i).toNat)
 case atStart => exact ⟨0, Nat.zero_le _, rfl, rfl⟩
 case round =>
  obtain ⟨k, hk, rfl, rfl⟩ := hrel
  by_cases hlt : k < zs.length
  ·obtain ⟨b, off, rfl, hb, hc⟩ := HR.out (by intro e; rw [e] at hlt; simp at hlt)
   have hcell := hc k hlt
   obtain ⟨x, HX⟩ : ∃ x, Hid (nthI zs k = x) := ⟨_, rfl⟩
   obtain ⟨m, HM⟩ : ∃ m, Hid (lstI (zs.take k) = m) := ⟨_, rfl⟩
   rw [HX.out] at hcell
   have HS : Hid (lstI (zs.take (k + 1)) = min m (cnt x)) := by show _ = _; rw [takeI_succ zs k hlt, lstI_app, HX.out, HM.out]
   rw [HM.out]
   clear hc
   go_wp2_with (go_at_call 128; refine (counted_any _ _).mono ?_; rintro e w' ⟨rfl, rfl⟩)
   go_round
   case rel => exact ⟨k + 1, by omega, by go_num, by rw [HS.out]⟩
   case measure => simp [intOf]; omega
  ·obtain rfl : k = zs.length := by omega
   rw [List.take_length]
   go_wp2
   go_ret
   exact ⟨rfl, rfl⟩
end Go.Proofs.YtiaopafkfadmkaaGreat.C
namespace Go.Proofs.YtiaopafkfadmkaaGreat.C
open Go.RowKit Go.Shelf
def isCl (n me : Nat) (j : Int) : Bool := decide (0 ≤ j ∧ j < n ∧ j ≠ me)
def upC (c : Int → Int) (j t : Int) : Int → Int := fun i => if i = j then t else c i
theorem upC_at (c : Int → Int) (j t : Int) : upC c j t j = t := by simp [upC]
theorem upC_out (c : Int → Int) {i j : Int} (t : Int) (h : i ≠ j) : upC c j t i = c i := by simp [upC, h]
def hrE (n me : Nat) (c : Int → Int) (j t : Int) : Int := if isCl n me j = true ∧ okT t = true then (if t < c j then 110 else 0) else 1
def bndK (me : Nat) (c : Int → Int) : Nat → Int
 | 0 => 1125899906842624
 | k + 1 => if k = me then bndK me c k else min (bndK me c k) (c k)
def okC (n me : Nat) (c : Int → Int) : Prop := ∀ j, isCl n me j = true → okT (c j) = true
theorem hr0 {n me : Nat} {c : Int → Int} {j t : Int} (h : hrE n me c j t = 0) : isCl n me j = true ∧ okT t = true ∧ c j ≤ t := by
 unfold hrE at h
 split at h
 ·rename_i g
  split at h
  ·cases h
  ·exact ⟨g.1, g.2, by omega⟩
 ·cases h
theorem bndK_hi (me : Nat) (c : Int → Int) : ∀ k, bndK me c k ≤ 1125899906842624
 | 0 => by simp [bndK]
 | k + 1 => by
  have ih := bndK_hi me c k
  unfold bndK
  split
  ·exact ih
  ·omega
theorem bndK_is (me : Nat) (c : Int → Int) : ∀ k, bndK me c k = 1125899906842624 ∨ ∃ j : Nat, j < k ∧ j ≠ me ∧ bndK me c k = c j
 | 0 => Or.inl rfl
 | k + 1 => by
  have ih := bndK_is me c k
  unfold bndK
  split
  ·rcases ih with h | ⟨j, h1, h2, h3⟩
   ·exact Or.inl h
   ·exact Or.inr ⟨j, by omega, h2, h3⟩
  ·rename_i g
   by_cases e : bndK me c k ≤ c k
   ·have : min (bndK me c k) (c k) = bndK me c k := by omega
    rw [this]
    rcases ih with h | ⟨j, h1, h2, h3⟩
    ·exact Or.inl h
    ·exact Or.inr ⟨j, by omega, h2, h3⟩
   ·exact Or.inr ⟨k, by omega, g, by omega⟩
abbrev num (i : Int) : DataW Unit := .lit (.int .i64 i)
theorem keyed3 : Maps.Keyed Tryz.prog 3 := Maps.int_keyed Tryz.underlying3
theorem ownsMap_size {w : World} {b n m : Nat} {D : DataW Unit} (h : w.ownsMap Tryz.prog 3 (plainElem Tryz.prog 3) b n D) (hm : Maps.size D ≤ m) : w.ownsMap Tryz.prog 3 (plainElem Tryz.prog 3) b m D := by
 obtain ⟨es, clock, h1, h2, h3, rfl⟩ := h
 refine ⟨es, clock, h1, h2, ?_, rfl⟩
 simpa [Maps.size, length_sorted] using hm
structure MapC (w : World) (b m : Nat) (P : Int → Bool) (c : Int → Int) (D : DataW Unit) : Prop where
 own : w.ownsMap Tryz.prog 3 (plainElem Tryz.prog 3) b m D
 has : ∀ j : Int, Maps.has D (.int .i64 j) = P j
 val : ∀ j : Int, P j = true → ∀ z, D.atKey (.int .i64 j) z = num (c j)
theorem MapC.lt {w : World} {b m : Nat} {P : Int → Bool} {c : Int → Int} {D : DataW Unit} (h : MapC w b m P c D) : b < w.heap.size := h.own.lt
theorem MapC.keep {S : Nat → Prop} {w w' : World} {b m : Nat} {P : Int → Bool} {c : Int → Int} {D : DataW Unit} (h : MapC w b m P c D) (hf : Fr S w w') (hb : ¬ S b) : MapC w' b m P c D := by
 obtain ⟨es, clock, h1, h2⟩ := h.own
 exact ⟨⟨es, clock, (hf.block b (Array.getElem?_eq_some_iff.1 h1).1 hb).trans h1, h2⟩, h.has, h.val⟩
theorem cellB {W : World} {b : Nat} {cs : Array Value} {T : TypeId} {fz : Nat × Nat} (h : W.heap[b]? = some (.cells cs T fz)) (i : Nat) : W.cell? ⟨b, i, none⟩ = cs[i]? := by simp [World.cell?, h]
theorem zero3 (W : World) : (zeroValue 3).run Tryz.prog W = .ok (.int .i64 0) W := by kernel_rfl
end Go.Proofs.YtiaopafkfadmkaaGreat.C
namespace Go.Proofs.YtiaopafkfadmkaaGreat.C
open Go.RowKit Go.Shelf
theorem keyI {j : Int} (hj : (Lit.int .i64 j).wf = true) : keyOf Tryz.prog 3 (.int .i64 j) = some (.int .i64 j) := Maps.keyOf_int_mk Tryz.underlying3 hj
theorem MapC.look {w : World} {b m : Nat} {P : Int → Bool} {c : Int → Int} {D : DataW Unit} (h : MapC w b m P c D) {j : Int} (hj : (Lit.int .i64 j).wf = true) :
  (Instr.lookup 96 (.map (some b)) (.int .i64 j) true).run Tryz.prog w = .ok (.tuple #[.int .i64 (if P j = true then c j else 0), .bool (P j)]) w := by
 obtain ⟨v, ps, hrun, hv⟩ := World.ownsMap.look_ok (H := Unit) h.own keyed3 Tryz.underlying96 (zero3 _) (plainElem_int (H := Unit) Tryz.underlying3 (a := 0) (by decide)) (keyI hj)
 obtain ⟨x, rfl, hc, _⟩ := plainElem_int_inv Tryz.underlying3 hv
 rw [h.has j] at hrun
 have e := congrArg Prod.fst hc
 simp only at e
 cases hp : P j
 ·rw [hp] at hrun
  rw [Maps.atKey_of_not_has (by rw [h.has j]; exact hp)] at e
  have e2 : (0 : Int) = x := by simpa using e
  subst e2
  exact hrun
 ·rw [hp] at hrun
  rw [h.val j hp] at e
  have e2 : c j = x := by simpa using e
  subst e2
  exact hrun
theorem Fr.of_grown {a b : World} {r : Option Nat} (h : a.grownBy b r) : Fr (fun k => r = some k) a b := ⟨h.os, h.tape, h.output, h.size, fun k hk hn => h.block k hk (fun e => hn e.symm)⟩
theorem lit_ne {i j : Int} (h : i ≠ j) : Lit.int .i64 i ≠ Lit.int .i64 j := fun e => h (by cases e; rfl)
theorem MapC.store {w : World} {b m : Nat} {P : Int → Bool} {c : Int → Int} {D : DataW Unit} (h : MapC w b m P c D) (hm : m < 100) {j t : Int} (hj : (Lit.int .i64 j).wf = true) (ht : (Lit.int .i64 t).wf = true) :
  ∃ W2 D2, (Instr.mapUpdate 96 (.map (some b)) (.int .i64 j) (.int .i64 t)).run Tryz.prog w = .ok () W2 ∧ MapC W2 b (if P j = true then m else m + 1) (fun i => P i || i == j) (upC c j t) D2 ∧ Fr (fun k => k = b) w W2 ∧ W2.heap.size = w.heap.size := by
 obtain ⟨W2, r1, o1, m1⟩ := World.ownsMap.store (H := Unit) h.own keyed3 Tryz.underlying96 (by unfold maxLen; omega) (keyI hj) (plainElem_int (H := Unit) Tryz.underlying3 (a := t) ht)
 have tD := h.own.tidy keyed3
 refine ⟨W2, D.put (.int .i64 j) (num t), r1, ⟨?_, fun i => ?_, fun i hi z => ?_⟩, (Fr.of_grown m1.grown).wide (fun k hk => by simpa using hk.symm), by obtain ⟨es, clock, es', clock', hb, rfl⟩ := m1; simp [ChangeMaps.setBlock]⟩
 ·refine ownsMap_size o1 ?_
  have hs := h.own.size_le
  rw [Maps.size_put tD, h.has j]
  cases P j <;> simp <;> omega
 ·by_cases e : i = j
  ·subst e; rw [Maps.has_put_same (k := .int .i64 i) tD.isMap trivial]; simp
  ·rw [Maps.has_put_other (lit_ne e), h.has i]; simp [e]
 ·by_cases e : i = j
  ·subst e; rw [Maps.atKey_put_same (k := .int .i64 i) tD.isMap trivial, upC_at]
  ·rw [Maps.atKey_put_other (lit_ne e), upC_out _ _ e]
   exact h.val i (by simpa [e] using hi) z
end Go.Proofs.YtiaopafkfadmkaaGreat.C
namespace Go.Proofs.YtiaopafkfadmkaaGreat.C
open Go.RowKit Go.Shelf
structure Lw (n me : Nat) (c : Int → Int) (left : Lit → Bool) (m : Int) : Prop where
 le : ∀ j, isCl n me j = true → left (.int .i64 j) = false → m ≤ c j
 hi : m ≤ 1125899906842624
 is : m = 1125899906842624 ∨ ∃ j, isCl n me j = true ∧ m = c j
end Go.Proofs.YtiaopafkfadmkaaGreat.C
namespace Go.Proofs.YtiaopafkfadmkaaGreat.C
open Go.RowKit Go.Shelf
def low (me j : Nat) (i : Int) : Bool := isCl j me i
end Go.Proofs.YtiaopafkfadmkaaGreat.C
namespace Go.Proofs.YtiaopafkfadmkaaGreat.C
open Go.RowKit Go.Shelf
end Go.Proofs.YtiaopafkfadmkaaGreat.C
namespace Go.Proofs.YtiaopafkfadmkaaGreat.C
open Go.RowKit Go.Shelf Go.Sort
theorem infoI : (Tryz.prog.info? 3).map (fun i => (i.zero, i.size, i.bytes)) = some (some (.int .i64 0), 1, 8) := by kernel_rfl
end Go.Proofs.YtiaopafkfadmkaaGreat.C
