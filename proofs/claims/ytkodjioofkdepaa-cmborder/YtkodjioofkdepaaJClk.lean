/- Joined: the texts that follow, each with its own sentence. -/
import Derived.Maps.AppendAt
import Derived.Maps.RangeWalk
import Derived.Maps.OwnSet
import Derived.Shelf.RegionOpen
import Derived.WalkKit
import Derived.WalkSpells
import Derived.WalkLawsBesides
import Derived.Below
import Derived.OwnWalk
import Derived.LoopTactic
import Derived.Outline
import Derived.RegionTactic
import Derived.Shelf.RegionOpenPlain
import Derived.Sort.WalkB12
import Derived.Deep.RegionHeld3
import Derived.Deep.RegionWith
import Derived.Deep.QuietTactic
import Derived.Deep.RegionLaw
import Derived.BigQuiet
import Derived.Lib.QuietBelow
import Derived.Lib.SliceRun
import Derived.Laws.AppendOwnNone
import Derived.Laws.Rows
import Derived.RowKit3
import Derived.Test.YtkodjioofkdepaaProg
import Derived.Laws.MakeOwn
/- Proved: what stays while something is written. -/
namespace Go.Proofs.Ytkodjioofkdepaa.C
open Go.RowKit Go.Shelf
set_option linter.unusedVariables false
set_option maxRecDepth 100000

/-! ### What stays -/
theorem clt {W : World} {p : Addr} {v : Value} (hc : W.cell? p = some v) : p.block < W.heap.size := by
  rcases Nat.lt_or_ge p.block W.heap.size with g | g
  · exact g
  · simp [World.cell?, Array.getElem?_eq_none g] at hc
theorem al (w : World) (o : Obj) : Below w.heap.size w (w.alloc o) := (Below.refl _ w).alloc (Nat.le_refl _) _
theorem Below.on {w W W1 : World} (h : Below w.heap.size w W) (g : Below W.heap.size W W1) : Below w.heap.size w W1 := h.trans (g.mono h.size)
/-- w2 is w1 but for new blocks and for what lies in the blocks of S. -/
structure Fr (S : Nat → Prop) (w w' : World) : Prop where
  os : w'.os = w.os
  tape : w'.tape = w.tape
  output : w'.output = w.output
  size : w.heap.size ≤ w'.heap.size
  block : ∀ k, k < w.heap.size → ¬ S k → w'.heap[k]? = w.heap[k]?
theorem Fr.refl (S : Nat → Prop) (w : World) : Fr S w w := ⟨rfl, rfl, rfl, Nat.le_refl _, fun _ _ _ => rfl⟩
theorem Fr.trans {S S' : Nat → Prop} {a b c : World} (h : Fr S a b) (k : Fr S' b c) (hs : ∀ i, i < a.heap.size → S' i → S i) : Fr S a c :=
  ⟨k.os.trans h.os, k.tape.trans h.tape, k.output.trans h.output, Nat.le_trans h.size k.size, fun i hi hn => (k.block i (Nat.lt_of_lt_of_le hi h.size) (fun g => hn (hs i hi g))).trans (h.block i hi hn)⟩
theorem Fr.then {S : Nat → Prop} {a b c : World} (h : Fr S a b) (k : Fr S b c) : Fr S a c := h.trans k fun _ _ g => g
theorem Fr.wide {S S' : Nat → Prop} {a b : World} (h : Fr S a b) (hs : ∀ i, S i → S' i) : Fr S' a b :=
  ⟨h.os, h.tape, h.output, h.size, fun i hi hn => h.block i hi fun g => hn (hs i g)⟩
theorem Fr.of_below {S : Nat → Prop} {a b : World} (h : Below a.heap.size a b) : Fr S a b := ⟨h.os, h.tape, h.output, h.size, fun i hi _ => h.block i hi⟩
theorem Fr.below {S : Nat → Prop} {a b : World} {B : Nat} (h : Fr S a b) (hB : B ≤ a.heap.size) (hs : ∀ i, S i → B ≤ i) : Below B a b :=
  ⟨h.os, h.tape, h.output, h.size, fun i hi => h.block i (Nat.lt_of_lt_of_le hi hB) fun g => by have := hs i g; omega⟩
theorem Fr.drew {S : Nat → Prop} {a b : World} (h : Fr S a b) : Fr S a b.drew := ⟨h.os, h.tape, h.output, h.size, h.block⟩
theorem Fr.setCell {S : Nat → Prop} {a b : World} (h : Fr S a b) (p : Addr) (v : Value) (hp : S p.block ∨ a.heap.size ≤ p.block) : Fr S a (b.setCell p v) :=
  ⟨h.os, h.tape, h.output, by simpa using h.size, fun i hi hn => by
    rw [Below.heap_setCell _ _ _ _ (fun e => by subst e; rcases hp with g | g; exact hn g; omega)]
    exact h.block i hi hn⟩
theorem Fr.alloc {S : Nat → Prop} {a b : World} (h : Fr S a b) (o : Obj) : Fr S a (b.alloc o) :=
  ⟨h.os, h.tape, h.output, by have := h.size; simp; omega, fun i hi hn => by
    rw [Below.heap_alloc _ _ _ (Nat.lt_of_lt_of_le hi h.size)]
    exact h.block i hi hn⟩
theorem Fr.cell {S : Nat → Prop} {a b : World} (h : Fr S a b) {p : Addr} (hp : p.block < a.heap.size) (hn : ¬ S p.block) : b.cell? p = a.cell? p := World.cell?_of_block (h.block _ hp hn)
theorem Fr.frozen {S : Nat → Prop} {a b : World} (h : Fr S a b) {p : Addr} (hp : p.block < a.heap.size) (hn : ¬ S p.block) : b.frozen? p = a.frozen? p := World.frozen?_of_block (h.block _ hp hn)

end Go.Proofs.Ytkodjioofkdepaa.C
/- Proved: contracts of the functions that reckon with times; no condition. -/
namespace Go.Proofs.Ytkodjioofkdepaa.C
open Go.RowKit Go.Shelf
set_option linter.unusedVariables false
set_option maxRecDepth 100000

def nthI (zs : List Int) (i : Nat) : Int := zs.getD i 0
/-- A slice of integers that can be read. -/
def RdI (w : World) (a : Option Addr) (zs : List Int) : Prop := zs ≠ [] → ∃ b off, a = some ⟨b, off, none⟩ ∧ b < w.heap.size ∧ ∀ i, i < zs.length → w.cell? ⟨b, off + i, none⟩ = some (.int .i64 (nthI zs i))
theorem rdI_of_row {W : World} {b0 : Nat} {v : Value} {xs : List Int} (h : W.ownsRow b0 3 1 v xs.length (xs.map (Value.int .i64))) : ∃ a c, v = .slice a xs.length c ∧ RdI W a xs := by
  have h0 := h
  rcases h.2 with ⟨rfl, hk⟩ | ⟨g, cap, cur, rfl, _, hg, _, _, hs, h3⟩
  · exact ⟨none, 0, by rw [hk], fun hz => absurd (List.eq_nil_of_length_eq_zero hk) hz⟩
  · refine ⟨_, cap, rfl, fun _ => ⟨g, 0, rfl, (Array.getElem?_eq_some_iff.1 hg).1, fun i hi => ?_⟩⟩
    rw [Nat.zero_add, World.ownsRow.cellAt h0 _ (by omega)]
    simp [nthI, hi]
/-- What a number counts as where a time is asked for. -/
def cnt (t : Int) : Int := if t > 1099511627776 then 1125899906842624 else if t < 0 then 0 else t
theorem cnt_lo (t : Int) : 0 ≤ cnt t := by unfold cnt; split <;> (try split) <;> omega
theorem cnt_hi (t : Int) : cnt t ≤ 1125899906842624 := by unfold cnt; split <;> (try split) <;> omega
theorem cnt_big {t : Int} (h : 1099511627776 < t) : cnt t = 1125899906842624 := by unfold cnt; rw [if_pos h]
theorem cnt_mid {t : Int} (h0 : 0 ≤ t) (h : t ≤ 1099511627776) : cnt t = t := by
  unfold cnt; rw [if_neg (by omega), if_neg (by omega)]
theorem cnt_low {t : Int} (h : t < 0) : cnt t = 0 := by
  unfold cnt; rw [if_neg (by omega), if_pos h]

set_option maxHeartbeats 400000 in
theorem counted_any (t : Int) (w : World) :
    Calls Try.prog 71 #[.int .i64 t] w fun e w' => e = .returned (.int .i64 (cnt t)) ∧ w = w' := by
  by_cases h : 1099511627776 < t
  · rw [cnt_big h]
    go_enter Try.func71, Try.ntmps71
    go_wp2
    go_ret
    exact ⟨rfl, rfl⟩
  · by_cases h0 : t < 0
    · rw [cnt_low h0]
      have e : max t 0 = 0 := by omega
      go_enter Try.func71, Try.ntmps71
      go_wp2
      go_ret
      exact ⟨rfl, rfl⟩
    · rw [cnt_mid (by omega) (by omega)]
      have e : max t 0 = t := by omega
      go_enter Try.func71, Try.ntmps71
      go_wp2
      go_ret
      exact ⟨rfl, rfl⟩
def vadd (t d : Int) : Int := cnt (cnt t + cnt d)
theorem cnt_two (t : Int) : cnt t = 1125899906842624 ∨ cnt t ≤ 1099511627776 := by
  unfold cnt; split <;> (try split) <;> omega
set_option maxHeartbeats 400000 in
theorem add_any (t d : Int) (w : World) :
    Calls Try.prog 46 #[.int .i64 t, .int .i64 d] w fun e w' => e = .returned (.int .i64 (vadd t d)) ∧ w = w' := by
  have h1 := cnt_lo t
  have h2 := cnt_hi t
  have h3 := cnt_lo d
  have h4 := cnt_hi d
  go_enter Try.func46, Try.ntmps46
  go_wp2_with (go_at_call 71; refine (counted_any _ _).mono ?_; rintro e w' ⟨rfl, rfl⟩)
  go_ret
  exact ⟨rfl, rfl⟩

/-- Which numbers are times. -/
def okT (t : Int) : Bool := decide (0 ≤ t ∧ t ≤ 1099511627776 ∨ t = 1125899906842624)
set_option maxHeartbeats 400000 in
theorem within_any (t m : Int) (w : World) :
    Calls Try.prog 60 #[.int .i64 t, .int .i64 m] w fun e w' => e = .returned (.bool (decide (0 ≤ t ∧ t ≤ m))) ∧ w = w' := by
  by_cases h : 0 ≤ t
  · by_cases h2 : t ≤ m
    · have e : decide (0 ≤ t ∧ t ≤ m) = true := by simp; omega
      rw [e]
      go_enter Try.func60, Try.ntmps60
      go_wp2
      go_ret
      exact ⟨rfl, rfl⟩
    · have e : decide (0 ≤ t ∧ t ≤ m) = false := by simp; omega
      rw [e]
      go_enter Try.func60, Try.ntmps60
      go_wp2
      go_ret
      exact ⟨rfl, rfl⟩
  · have e : decide (0 ≤ t ∧ t ≤ m) = false := by simp; omega
    rw [e]
    go_enter Try.func60, Try.ntmps60
    go_wp2
    go_ret
    exact ⟨rfl, rfl⟩
set_option maxHeartbeats 400000 in
theorem valid_any (t : Int) (w : World) :
    Calls Try.prog 38 #[.int .i64 t] w fun e w' => e = .returned (.bool (okT t)) ∧ w = w' := by
  have C := within_any t 1099511627776
  by_cases h : 0 ≤ t ∧ t ≤ 1099511627776
  · have e1 : decide (0 ≤ t ∧ t ≤ 1099511627776) = true := by simpa using h
    have e : okT t = true := by unfold okT; simp; omega
    rw [e]
    simp only [e1] at C
    clear h e1
    go_enter Try.func38, Try.ntmps38
    go_wp2_with (go_at_call 60; refine (C _).mono ?_; rintro e w' ⟨rfl, rfl⟩)
    go_ret
    exact ⟨rfl, rfl⟩
  · have e1 : decide (0 ≤ t ∧ t ≤ 1099511627776) = false := by simpa using h
    simp only [e1] at C
    by_cases h2 : t = 1125899906842624
    · have d : (t == 1125899906842624) = true := by simpa using h2
      have e : okT t = true := by unfold okT; simp; omega
      rw [e]
      clear h e1 h2
      go_enter Try.func38, Try.ntmps38
      go_wp2_with (go_at_call 60; refine (C _).mono ?_; rintro e w' ⟨rfl, rfl⟩)
      go_ret
      exact ⟨rfl, rfl⟩
    · have d : (t == 1125899906842624) = false := by simpa using h2
      have e : okT t = false := by unfold okT; simp; omega
      rw [e]
      clear h e1 h2
      go_enter Try.func38, Try.ntmps38
      go_wp2_with (go_at_call 60; refine (C _).mono ?_; rintro e w' ⟨rfl, rfl⟩)
      go_ret
      exact ⟨rfl, rfl⟩
/-- The least of some numbers, each as it counts; Inf of none. -/
def lstI (zs : List Int) : Int := zs.foldl (fun m x => min m (cnt x)) 1125899906842624
theorem lstI_app (zs : List Int) (x : Int) : lstI (zs ++ [x]) = min (lstI zs) (cnt x) := by simp [lstI]
theorem takeI_succ (zs : List Int) (k : Nat) (h : k < zs.length) : zs.take (k + 1) = zs.take k ++ [nthI zs k] := by
  rw [List.take_add_one]
  simp [nthI, h]

set_option maxHeartbeats 400000 in
theorem least_any (w : World) (a : Option Addr) (c : Nat) (zs : List Int) (h : RdI w a zs) (hl : zs.length ≤ 100000) :
    Calls Try.prog 47 #[.slice a zs.length c] w fun e w' => e = .returned (.int .i64 (lstI zs)) ∧ w = w' := by
  have HR : Hid _ := h
  clear h
  go_enter Try.func47, Try.ntmps47
  go_wp2
  go_loop [3, 8] (fun n i => ∃ k : Nat, k ≤ zs.length ∧ i = .int .i64 k ∧ n = .int .i64 (lstI (zs.take k))) (fun _ i => zs.length - (intOf i).toNat)
  case atStart => exact ⟨0, Nat.zero_le _, rfl, rfl⟩
  case round =>
    obtain ⟨k, hk, rfl, rfl⟩ := hrel
    by_cases hlt : k < zs.length
    · obtain ⟨b, off, rfl, hb, hc⟩ := HR.out (by intro e; rw [e] at hlt; simp at hlt)
      have hcell := hc k hlt
      obtain ⟨x, HX⟩ : ∃ x, Hid (nthI zs k = x) := ⟨_, rfl⟩
      obtain ⟨m, HM⟩ : ∃ m, Hid (lstI (zs.take k) = m) := ⟨_, rfl⟩
      rw [HX.out] at hcell
      have HS : Hid (lstI (zs.take (k + 1)) = min m (cnt x)) := by show _ = _; rw [takeI_succ zs k hlt, lstI_app, HX.out, HM.out]
      rw [HM.out]
      clear hc
      go_wp2_with (go_at_call 71; refine (counted_any _ _).mono ?_; rintro e w' ⟨rfl, rfl⟩)
      go_round
      case rel => exact ⟨k + 1, by omega, by go_num, by rw [HS.out]⟩
      case measure => simp [intOf]; omega
    · obtain rfl : k = zs.length := by omega
      rw [List.take_length]
      go_wp2
      go_ret
      exact ⟨rfl, rfl⟩
end Go.Proofs.Ytkodjioofkdepaa.C
/- Proved: clocks as plain data, and how the program's lie in memory. -/
namespace Go.Proofs.Ytkodjioofkdepaa.C
open Go.RowKit Go.Shelf
set_option linter.unusedVariables false
set_option maxRecDepth 100000

/-! ### Plain data: n federates, me among them; c: where each clock is; t: what was told -/
def isCl (n me : Nat) (j : Int) : Bool := decide (0 ≤ j ∧ j < n ∧ j ≠ me)
theorem isCl_iff {n me : Nat} {j : Int} : isCl n me j = true ↔ 0 ≤ j ∧ j < n ∧ j ≠ me := by simp [isCl]
theorem isCl_no {n me : Nat} {j : Int} : isCl n me j = false ↔ ¬ (0 ≤ j ∧ j < n ∧ j ≠ me) := by simp [isCl]
theorem isCl_me (n me : Nat) : isCl n me me = false := by simp [isCl]
def upC (c : Int → Int) (j t : Int) : Int → Int := fun i => if i = j then t else c i
theorem upC_at (c : Int → Int) (j t : Int) : upC c j t j = t := by simp [upC]
theorem upC_out (c : Int → Int) {i j : Int} (t : Int) (h : i ≠ j) : upC c j t i = c i := by simp [upC, h]
def hrE (n me : Nat) (c : Int → Int) (j t : Int) : Int := if isCl n me j = true ∧ okT t = true then (if t < c j then 110 else 0) else 1
def hrC (n me : Nat) (c : Int → Int) (j t : Int) : Int → Int := if hrE n me c j t = 0 then upC c j t else c
def atC (n me : Nat) (c : Int → Int) (j : Int) : Int := if isCl n me j = true then c j else -1
/-- The least of the clocks of the first k federates. -/
def bndK (me : Nat) (c : Int → Int) : Nat → Int
  | 0 => 1125899906842624
  | k + 1 => if k = me then bndK me c k else min (bndK me c k) (c k)
def bnd (n me : Nat) (c : Int → Int) : Int := bndK me c n
def prm (n me : Nat) (c : Int → Int) (first look : Int) : Int := vadd (lstI [first, bnd n me c]) look
def tlT (n me : Nat) (c : Int → Int) (t first look : Int) : Int := if prm n me c first look ≤ t then t else prm n me c first look
def tlB (n me : Nat) (c : Int → Int) (t first look : Int) : Bool := decide (t < prm n me c first look)
/-- Clocks that are times. -/
def okC (n me : Nat) (c : Int → Int) : Prop := ∀ j, isCl n me j = true → okT (c j) = true
theorem okT_lo {t : Int} (h : okT t = true) : 0 ≤ t := by unfold okT at h; simp at h; omega
theorem okT_hi {t : Int} (h : okT t = true) : t ≤ 1125899906842624 := by unfold okT at h; simp at h; omega
theorem hr0 {n me : Nat} {c : Int → Int} {j t : Int} (h : hrE n me c j t = 0) : isCl n me j = true ∧ okT t = true ∧ c j ≤ t := by
  unfold hrE at h
  split at h
  · rename_i g
    split at h
    · cases h
    · exact ⟨g.1, g.2, by omega⟩
  · cases h
theorem okC.hear {n me : Nat} {c : Int → Int} (h : okC n me c) (j t : Int) : okC n me (hrC n me c j t) := by
  unfold hrC
  split
  · rename_i g
    intro i hi
    by_cases e : i = j
    · subst e; rw [upC_at]; exact (hr0 g).2.1
    · rw [upC_out _ _ e]; exact h i hi
  · exact h
theorem bndK_lo {n me : Nat} {c : Int → Int} (h : okC n me c) : ∀ k, k ≤ n → 0 ≤ bndK me c k
  | 0, _ => by simp [bndK]
  | k + 1, hk => by
    have ih := bndK_lo h k (by omega)
    unfold bndK
    split
    · exact ih
    · rename_i g
      have := okT_lo (h k (isCl_iff.2 ⟨by omega, by omega, by omega⟩))
      omega
theorem bndK_hi (me : Nat) (c : Int → Int) : ∀ k, bndK me c k ≤ 1125899906842624
  | 0 => by simp [bndK]
  | k + 1 => by
    have ih := bndK_hi me c k
    unfold bndK
    split
    · exact ih
    · omega
theorem bnd_lo {n me : Nat} {c : Int → Int} (h : okC n me c) : 0 ≤ bnd n me c := bndK_lo h n (Nat.le_refl _)
theorem bnd_hi (n me : Nat) (c : Int → Int) : bnd n me c ≤ 1125899906842624 := bndK_hi me c n
theorem bndK_le {me : Nat} {c : Int → Int} : ∀ {k : Nat} {j : Nat}, j < k → j ≠ me → bndK me c k ≤ c j
  | k + 1, j, hj, hm => by
    unfold bndK
    by_cases e : j = k
    · subst e
      rw [if_neg hm]
      omega
    · have ih := bndK_le (c := c) (k := k) (j := j) (by omega) hm
      split
      · exact ih
      · omega
theorem bndK_is (me : Nat) (c : Int → Int) : ∀ k, bndK me c k = 1125899906842624 ∨ ∃ j : Nat, j < k ∧ j ≠ me ∧ bndK me c k = c j
  | 0 => Or.inl rfl
  | k + 1 => by
    have ih := bndK_is me c k
    unfold bndK
    split
    · rcases ih with h | ⟨j, h1, h2, h3⟩
      · exact Or.inl h
      · exact Or.inr ⟨j, by omega, h2, h3⟩
    · rename_i g
      by_cases e : bndK me c k ≤ c k
      · have : min (bndK me c k) (c k) = bndK me c k := by omega
        rw [this]
        rcases ih with h | ⟨j, h1, h2, h3⟩
        · exact Or.inl h
        · exact Or.inr ⟨j, by omega, h2, h3⟩
      · exact Or.inr ⟨k, by omega, g, by omega⟩
theorem bnd_le {n me : Nat} {c : Int → Int} {j : Int} (h : isCl n me j = true) : bnd n me c ≤ c j := by
  obtain ⟨h0, h1, h2⟩ := isCl_iff.1 h
  obtain ⟨k, rfl⟩ := Int.eq_ofNat_of_zero_le h0
  exact bndK_le (by omega) (by omega)
/-- The bound is known by what it is. -/
theorem bnd_eq {n me : Nat} {c : Int → Int} {m : Int} (h1 : ∀ j, isCl n me j = true → m ≤ c j) (h2 : m ≤ 1125899906842624) (h3 : m = 1125899906842624 ∨ ∃ j, isCl n me j = true ∧ m = c j) : bnd n me c = m := by
  have hb := bnd_hi n me c
  rcases bndK_is me c n with e | ⟨j, g1, g2, g3⟩
  · change bnd n me c = _ at e
    rcases h3 with h | ⟨j, hj, hm⟩
    · omega
    · have := bnd_le (c := c) hj; omega
  · change bnd n me c = _ at g3
    have := h1 j (isCl_iff.2 ⟨by omega, by omega, by omega⟩)
    rcases h3 with h | ⟨i, hi, hm⟩
    · omega
    · have := bnd_le (c := c) hi; omega
theorem bnd_none {n me : Nat} {c : Int → Int} (h : ∀ j, isCl n me j = false) : bnd n me c = 1125899906842624 :=
  bnd_eq (fun j hj => by rw [h j] at hj; cases hj) (Int.le_refl _) (Or.inl rfl)

/-! ### How the program's lie -/
abbrev num (i : Int) : DataW Unit := .lit (.int .i64 i)
theorem keyed3 : Maps.Keyed Try.prog 3 := Maps.int_keyed Try.underlying3
abbrev mT : TypeId := 73
theorem ownsMap_size {w : World} {b n m : Nat} {D : DataW Unit} (h : w.ownsMap Try.prog 3 (plainElem Try.prog 3) b n D) (hm : Maps.size D ≤ m) : w.ownsMap Try.prog 3 (plainElem Try.prog 3) b m D := by
  obtain ⟨es, clock, h1, h2, h3, rfl⟩ := h
  refine ⟨es, clock, h1, h2, ?_, rfl⟩
  simpa [Maps.size, length_sorted] using hm
/-- The map at block b has the clocks of those j that P tells of. -/
structure MapC (w : World) (b m : Nat) (P : Int → Bool) (c : Int → Int) (D : DataW Unit) : Prop where
  own : w.ownsMap Try.prog 3 (plainElem Try.prog 3) b m D
  has : ∀ j : Int, Maps.has D (.int .i64 j) = P j
  val : ∀ j : Int, P j = true → ∀ z, D.atKey (.int .i64 j) z = num (c j)
theorem MapC.lt {w : World} {b m : Nat} {P : Int → Bool} {c : Int → Int} {D : DataW Unit} (h : MapC w b m P c D) : b < w.heap.size := h.own.lt
theorem MapC.keep {S : Nat → Prop} {w w' : World} {b m : Nat} {P : Int → Bool} {c : Int → Int} {D : DataW Unit} (h : MapC w b m P c D) (hf : Fr S w w') (hb : ¬ S b) : MapC w' b m P c D := by
  obtain ⟨es, clock, h1, h2⟩ := h.own
  exact ⟨⟨es, clock, (hf.block b (Array.getElem?_eq_some_iff.1 h1).1 hb).trans h1, h2⟩, h.has, h.val⟩
/-- Clocks in memory: a record at block b, its map at block mb. -/
structure PC (n me : Nat) (c : Int → Int) (t : Int) (b mb : Nat) (W : World) : Prop where
  blk : W.heap[b]? = some (.cells #[.map (some mb), .int .i64 t] 75 (0, 0))
  map : ∃ D, MapC W mb 8 (isCl n me) c D
  ok : okC n me c
  tl : 0 ≤ t
  th : t ≤ 1125899906842624
  hn : n ≤ 8
theorem PC.lt {n me : Nat} {c : Int → Int} {t : Int} {b mb : Nat} {W : World} (h : PC n me c t b mb W) : b < W.heap.size := (Array.getElem?_eq_some_iff.1 h.blk).1
theorem PC.mlt {n me : Nat} {c : Int → Int} {t : Int} {b mb : Nat} {W : World} (h : PC n me c t b mb W) : mb < W.heap.size := by obtain ⟨D, hD⟩ := h.map; exact hD.lt
theorem PC.ne {n me : Nat} {c : Int → Int} {t : Int} {b mb : Nat} {W : World} (h : PC n me c t b mb W) : mb ≠ b := by
  obtain ⟨D, hD⟩ := h.map
  obtain ⟨es, clock, h1, _⟩ := hD.own
  intro e
  rw [e, h.blk] at h1
  cases h1
theorem cellB {W : World} {b : Nat} {cs : Array Value} {T : TypeId} {fz : Nat × Nat} (h : W.heap[b]? = some (.cells cs T fz)) (i : Nat) : W.cell? ⟨b, i, none⟩ = cs[i]? := by simp [World.cell?, h]
theorem PC.c0 {n me : Nat} {c : Int → Int} {t : Int} {b mb : Nat} {W : World} (h : PC n me c t b mb W) : W.cell? ⟨b, 0, none⟩ = some (.map (some mb)) := cellB h.blk 0
theorem PC.c1 {n me : Nat} {c : Int → Int} {t : Int} {b mb : Nat} {W : World} (h : PC n me c t b mb W) : W.cell? ⟨b, 1, none⟩ = some (.int .i64 t) := cellB h.blk 1
theorem PC.froz {n me : Nat} {c : Int → Int} {t : Int} {b mb : Nat} {W : World} (h : PC n me c t b mb W) (i : Nat) : W.frozen? ⟨b, i, none⟩ = false := by simp [World.frozen?, h.blk]
theorem PC.keep {S : Nat → Prop} {n me : Nat} {c : Int → Int} {t : Int} {b mb : Nat} {W W2 : World} (h : PC n me c t b mb W) (hf : Fr S W W2) (h1 : ¬ S b) (h2 : ¬ S mb) : PC n me c t b mb W2 := by
  obtain ⟨D, hD⟩ := h.map
  exact ⟨(hf.block b h.lt h1).trans h.blk, ⟨D, hD.keep hf h2⟩, h.ok, h.tl, h.th, h.hn⟩
theorem PC.below {n me : Nat} {c : Int → Int} {t : Int} {b mb : Nat} {W W2 : World} (h : PC n me c t b mb W) (hb : Below W.heap.size W W2) : PC n me c t b mb W2 :=
  h.keep (Fr.of_below (S := fun _ => False) hb) (fun g => g) (fun g => g)
theorem PC.drew {n me : Nat} {c : Int → Int} {t : Int} {b mb : Nat} {W : World} (h : PC n me c t b mb W) : PC n me c t b mb W.drew := h.keep (Fr.drew (Fr.refl (fun _ => False) W)) (fun g => g) (fun g => g)
theorem zero3 (W : World) : (zeroValue 3).run Try.prog W = .ok (.int .i64 0) W := by kernel_rfl
end Go.Proofs.Ytkodjioofkdepaa.C
/- Proved: contracts of what reads and writes one clock: At, Told, Hear. -/
namespace Go.Proofs.Ytkodjioofkdepaa.C
open Go.RowKit Go.Shelf
set_option linter.unusedVariables false
set_option maxRecDepth 100000

theorem keyI {j : Int} (hj : (Lit.int .i64 j).wf = true) : keyOf Try.prog 3 (.int .i64 j) = some (.int .i64 j) := Maps.keyOf_int_mk Try.underlying3 hj
theorem MapC.look {w : World} {b m : Nat} {P : Int → Bool} {c : Int → Int} {D : DataW Unit} (h : MapC w b m P c D) {j : Int} (hj : (Lit.int .i64 j).wf = true) :
    (Instr.lookup 73 (.map (some b)) (.int .i64 j) true).run Try.prog w = .ok (.tuple #[.int .i64 (if P j = true then c j else 0), .bool (P j)]) w := by
  obtain ⟨v, ps, hrun, hv⟩ := World.ownsMap.look_ok (H := Unit) h.own keyed3 Try.underlying73 (zero3 _) (plainElem_int (H := Unit) Try.underlying3 (a := 0) (by decide)) (keyI hj)
  obtain ⟨x, rfl, hc, _⟩ := plainElem_int_inv Try.underlying3 hv
  rw [h.has j] at hrun
  have e := congrArg Prod.fst hc
  simp only at e
  cases hp : P j
  · rw [hp] at hrun
    rw [Maps.atKey_of_not_has (by rw [h.has j]; exact hp)] at e
    have e2 : (0 : Int) = x := by simpa using e
    subst e2
    exact hrun
  · rw [hp] at hrun
    rw [h.val j hp] at e
    have e2 : c j = x := by simpa using e
    subst e2
    exact hrun
theorem Fr.of_grown {a b : World} {r : Option Nat} (h : a.grownBy b r) : Fr (fun k => r = some k) a b := ⟨h.os, h.tape, h.output, h.size, fun k hk hn => h.block k hk (fun e => hn e.symm)⟩
theorem lit_ne {i j : Int} (h : i ≠ j) : Lit.int .i64 i ≠ Lit.int .i64 j := fun e => h (by cases e; rfl)
theorem MapC.store {w : World} {b m : Nat} {P : Int → Bool} {c : Int → Int} {D : DataW Unit} (h : MapC w b m P c D) (hm : m < 100) {j t : Int} (hj : (Lit.int .i64 j).wf = true) (ht : (Lit.int .i64 t).wf = true) :
    ∃ W2 D2, (Instr.mapUpdate 73 (.map (some b)) (.int .i64 j) (.int .i64 t)).run Try.prog w = .ok () W2 ∧ MapC W2 b (if P j = true then m else m + 1) (fun i => P i || i == j) (upC c j t) D2 ∧ Fr (fun k => k = b) w W2 ∧ W2.heap.size = w.heap.size := by
  obtain ⟨W2, r1, o1, m1⟩ := World.ownsMap.store (H := Unit) h.own keyed3 Try.underlying73 (by unfold maxLen; omega) (keyI hj) (plainElem_int (H := Unit) Try.underlying3 (a := t) ht)
  have tD := h.own.tidy keyed3
  refine ⟨W2, D.put (.int .i64 j) (num t), r1, ⟨?_, fun i => ?_, fun i hi z => ?_⟩, (Fr.of_grown m1.grown).wide (fun k hk => by simpa using hk.symm), by obtain ⟨es, clock, es', clock', hb, rfl⟩ := m1; simp [ChangeMaps.setBlock]⟩
  · refine ownsMap_size o1 ?_
    have hs := h.own.size_le
    rw [Maps.size_put tD, h.has j]
    cases P j <;> simp <;> omega
  · by_cases e : i = j
    · subst e; rw [Maps.has_put_same (k := .int .i64 i) tD.isMap trivial]; simp
    · rw [Maps.has_put_other (lit_ne e), h.has i]; simp [e]
  · by_cases e : i = j
    · subst e; rw [Maps.atKey_put_same (k := .int .i64 i) tD.isMap trivial, upC_at]
    · rw [Maps.atKey_put_other (lit_ne e), upC_out _ _ e]
      exact h.val i (by simpa [e] using hi) z

set_option maxHeartbeats 1000000 in
theorem at_any {n me : Nat} {c : Int → Int} {t : Int} {b mb : Nat} {w : World} (h : PC n me c t b mb w) (j : Int) (hj : (Lit.int .i64 j).wf = true) :
    Calls Try.prog 39 #[.pointer (some ⟨b, 0, none⟩), .int .i64 j] w fun e w' => e = .returned (.int .i64 (atC n me c j)) ∧ w = w' := by
  have c0 := h.c0
  obtain ⟨D, hD⟩ := h.map
  have lk := hD.look hj
  unfold atC
  cases hi : isCl n me j
  · simp only [hi] at lk
    simp only [Bool.false_eq_true, if_false] at lk ⊢
    clear hD
    go_enter Try.func39, Try.ntmps39
    go_wp2
    go_ret
    exact ⟨rfl, rfl⟩
  · simp only [hi] at lk
    simp only [if_true] at lk ⊢
    clear hD
    go_enter Try.func39, Try.ntmps39
    go_wp2
    go_ret
    exact ⟨rfl, rfl⟩
theorem wf_of {t : Int} (h0 : 0 ≤ t) (h1 : t ≤ 1125899906842624) : (Lit.int .i64 t).wf = true := WalkArith.wf_i64 (by omega)
theorem PC.stored {n me : Nat} {c : Int → Int} {t : Int} {b mb : Nat} {w : World} (h : PC n me c t b mb w) {j x : Int} (hj : isCl n me j = true) (hx : okT x = true) (hw : (Lit.int .i64 j).wf = true) :
    ∃ W2, (Instr.mapUpdate 73 (.map (some mb)) (.int .i64 j) (.int .i64 x)).run Try.prog w = .ok () W2 ∧ PC n me (upC c j x) t b mb W2 ∧ Fr (fun k => k = mb) w W2 := by
  obtain ⟨D, hD⟩ := h.map
  obtain ⟨W2, D2, r, hm, hf, _⟩ := hD.store (by omega) hw (wf_of (okT_lo hx) (okT_hi hx))
  rw [if_pos hj] at hm
  have eP : (fun i => isCl n me i || i == j) = isCl n me := by
    funext i
    by_cases e : i = j
    · subst e; simp [hj]
    · simp [e]
  rw [eP] at hm
  refine ⟨W2, r, ⟨(hf.block b h.lt (fun e => h.ne e.symm)).trans h.blk, ⟨D2, hm⟩, fun i hi => ?_, h.tl, h.th, h.hn⟩, hf⟩
  by_cases e : i = j
  · subst e; rw [upC_at]; exact hx
  · rw [upC_out _ _ e]; exact h.ok i hi

set_option maxHeartbeats 1000000 in
theorem hear_any {n me : Nat} {c : Int → Int} {t : Int} {b mb : Nat} {w : World} (h : PC n me c t b mb w) (j x : Int) (hj : (Lit.int .i64 j).wf = true) :
    Calls Try.prog 20 #[.pointer (some ⟨b, 0, none⟩), .int .i64 j, .int .i64 x] w fun e w' => e = .returned (.int .i64 (hrE n me c j x)) ∧ PC n me (hrC n me c j x) t b mb w' ∧ Fr (fun k => k = mb) w w' := by
  have c0 := h.c0
  have HP : Hid _ := h
  obtain ⟨D, hD⟩ := h.map
  have lk := hD.look hj
  cases hi : isCl n me j
  · have e : hrE n me c j x = 1 := by unfold hrE; rw [if_neg (by simp [hi])]
    have e2 : hrC n me c j x = c := by unfold hrC; rw [if_neg (by rw [e]; decide)]
    rw [e, e2]
    simp only [hi] at lk
    simp only [Bool.false_eq_true, if_false] at lk
    clear hD h e e2
    go_enter Try.func20, Try.ntmps20
    go_wp2
    go_ret
    exact ⟨rfl, HP.out, Fr.refl _ _⟩
  · simp only [hi] at lk
    simp only [if_true] at lk
    have V := valid_any x
    cases hv : okT x
    · have e : hrE n me c j x = 1 := by unfold hrE; rw [if_neg (by simp [hv])]
      have e2 : hrC n me c j x = c := by unfold hrC; rw [if_neg (by rw [e]; decide)]
      rw [e, e2]
      simp only [hv] at V
      clear hD h e e2
      go_enter Try.func20, Try.ntmps20
      go_wp2_with (go_at_call 38; refine (V _).mono ?_; rintro e w' ⟨rfl, rfl⟩)
      go_ret
      exact ⟨rfl, HP.out, Fr.refl _ _⟩
    · simp only [hv] at V
      obtain ⟨y, hy⟩ : ∃ y, c j = y := ⟨_, rfl⟩
      rw [hy] at lk
      by_cases hlt : x < y
      · have e : hrE n me c j x = 110 := by unfold hrE; rw [if_pos ⟨hi, hv⟩, hy, if_pos hlt]
        have e2 : hrC n me c j x = c := by unfold hrC; rw [if_neg (by rw [e]; decide)]
        rw [e, e2]
        clear hD h e e2 hy
        go_enter Try.func20, Try.ntmps20
        go_wp2_with (go_at_call 38; refine (V _).mono ?_; rintro e w' ⟨rfl, rfl⟩)
        go_ret
        exact ⟨rfl, HP.out, Fr.refl _ _⟩
      · have e : hrE n me c j x = 0 := by unfold hrE; rw [if_pos ⟨hi, hv⟩, hy, if_neg hlt]
        have e2 : hrC n me c j x = upC c j x := by unfold hrC; rw [if_pos e]
        rw [e, e2]
        obtain ⟨W2, hu, hp2, hf2⟩ := h.stored hi hv hj
        have HQ : Hid _ := hp2
        clear hD h e e2 hy hp2
        go_enter Try.func20, Try.ntmps20
        go_wp2_with (go_at_call 38; refine (V _).mono ?_; rintro e w' ⟨rfl, rfl⟩)
        go_ret
        exact ⟨rfl, HQ.out, hf2⟩
end Go.Proofs.Ytkodjioofkdepaa.C
/- Proved: contracts of Bound and of the closure in it, whatever the order in which the map is gone through. -/
namespace Go.Proofs.Ytkodjioofkdepaa.C
open Go.RowKit Go.Shelf
set_option linter.unusedVariables false
set_option maxRecDepth 100000

set_option maxHeartbeats 1000000 in
theorem lower_any {w : World} {q : Nat} {m : Int} (hb : w.heap[q]? = some (.cells #[.int .i64 m] 3 (0, 0))) (x : Int) :
    Calls Try.prog 19 #[.int .i64 x, .pointer (some ⟨q, 0, none⟩)] w fun e w' => e = .returned (.tuple #[]) ∧ w' = w.setCell ⟨q, 0, none⟩ (.int .i64 (min m x)) := by
  have hc : w.cell? ⟨q, 0, none⟩ = some (.int .i64 m) := cellB hb 0
  have hf : w.frozen? ⟨q, 0, none⟩ = false := by simp [World.frozen?, hb]
  clear hb
  go_enter Try.func19, Try.ntmps19
  go_wp2
  go_end0
  exact ⟨rfl, rfl⟩
theorem box_set {w : World} {q : Nat} {m : Int} (hb : w.heap[q]? = some (.cells #[.int .i64 m] 3 (0, 0))) (x : Int) : (w.setCell ⟨q, 0, none⟩ (.int .i64 x)).heap[q]? = some (.cells #[.int .i64 x] 3 (0, 0)) := by
  rw [heap_setCell_same w q 0 _ _ _ hb]
  rfl
/-- What is known of the least while the map is gone through: those that came. -/
structure Lw (n me : Nat) (c : Int → Int) (left : Lit → Bool) (m : Int) : Prop where
  le : ∀ j, isCl n me j = true → left (.int .i64 j) = false → m ≤ c j
  hi : m ≤ 1125899906842624
  is : m = 1125899906842624 ∨ ∃ j, isCl n me j = true ∧ m = c j
theorem Lw.step {n me : Nat} {c : Int → Int} {left : Lit → Bool} {m : Int} (h : Lw n me c left m) {x : Int} (hx : isCl n me x = true) : Lw n me c (fun z => left z && !z.sameKey (.int .i64 x)) (min m (c x)) := by
  refine ⟨fun j hj hl => ?_, ?_, ?_⟩
  · by_cases e : j = x
    · subst e; omega
    · have : left (.int .i64 j) = false := by
        rw [Maps.sameKey_ne (lit_ne e)] at hl
        simpa using hl
      have := h.le j hj this
      omega
  · have := h.hi; omega
  · by_cases e : m ≤ c x
    · have e2 : min m (c x) = m := by omega
      rw [e2]; exact h.is
    · exact Or.inr ⟨x, hx, by omega⟩

set_option maxRecDepth 100000 in
set_option maxHeartbeats 2000000 in
theorem bound_any {n me : Nat} {c : Int → Int} {t : Int} {b mb : Nat} {w : World} (h : PC n me c t b mb w) :
    Calls Try.prog 8 #[.pointer (some ⟨b, 0, none⟩)] w fun e w' => e = .returned (.int .i64 (bnd n me c)) ∧ Below w.heap.size w w' := by
  have hlt := h.lt
  have hml := h.mlt
  have c0 := h.c0
  obtain ⟨D, hD⟩ := h.map
  have HD : Hid _ := hD
  have eg : ∀ args w, (callFunc 19 args).run Try.prog w = .ok (.enter 19 args) w := enters_of Try.func19 (by kernel_rfl) rfl
  have hown : (w.alloc (.cells #[.int .i64 1125899906842624] 3)).ownsMap Try.prog 3 (plainElem Try.prog 3) mb 8 D := hD.own.alloc _
  have hown0 : Hid _ := hown
  clear hD h hown
  go_enter Try.func8, Try.ntmps8
  go_wp2_with (first
    | (at_range; refine wpList_range_own _ rfl _ 73 rfl 3 3 keyed3 Try.underlying73 _ mb 8 _ rfl hown0.out ?_; intro w0 hrg0 hg0 hs0)
    | go_in)
  have e1 : (w.alloc (.cells #[.int .i64 1125899906842624] 3)).heap.size = w.heap.size + 1 := by simp
  rw [e1] at hrg0
  go_frame
  simp only [e1]
  go_loopw [6] (fun _ wr => ∃ (left : Lit → Bool) (cnt : Nat) (m : Int), Hid (wr.ranges Try.prog 3 (plainElem Try.prog 3) mb (w.heap.size + 1) 8 D left cnt) ∧ Hid (Lw n me c left m) ∧ wr.heap[w.heap.size]? = some (.cells #[.int .i64 m] 3 (0, 0)) ∧ Hid (Below w.heap.size w wr))
    (fun _ wr => wr.rangeLeft mb (w.heap.size + 1))
  case atStart =>
    refine ⟨_, _, 1125899906842624, hrg0, ⟨fun j hj hl => ?_, Int.le_refl _, Or.inl rfl⟩, (hg0.block w.heap.size (by simp) (by simp)).trans ((MapKept.heap_alloc w _).1), ?_⟩
    · rw [HD.out.has j, hj] at hl; cases hl
    · have f0 := (Fr.of_grown hg0).wide (S' := fun _ => False) (fun k hk => by cases hk)
      exact (al w _).trans (f0.below (by simp) (fun i g => g.elim))
  case round =>
    obtain ⟨left, cnt, m, HR, HL, hbx, HB⟩ := hrel
    go_wp2_with (first
      | (at_next; refine wpList_next_ranges_ii _ rfl _ rfl 3 3 .i64 .i64 keyed3 Try.underlying3 Try.underlying3 mb (w.heap.size + 1) 8 _ _ _ rfl HR.out ?_ ?_)
      | go_in)
    · intro _ hl0
      have hc : wr.cell? ⟨w.heap.size, 0, none⟩ = some (.int .i64 m) := cellB hbx 0
      have hm : bnd n me c = m := bnd_eq (fun j hj => HL.out.le j hj (hl0 _)) HL.out.hi HL.out.is
      rw [← hm] at hc
      clear hm
      go_wp2
      go_ret
      exact ⟨rfl, HB.out⟩
    · intro x y w1 cnt1 hwx hwc hlx hat hrg1 hlt1 hg1 hs1 hen
      have hx : isCl n me x = true := by rw [← HD.out.has x]; exact Maps.has_true_of_atKey hat
      have hy : y = c x := by
        have e := (hat .nil).symm.trans (HD.out.val x hx .nil)
        simpa using e
      have HL1 : Hid (Lw n me c (fun z => left z && !z.sameKey (.int .i64 x)) (min m y)) := by rw [hy]; exact HL.out.step hx
      have hbx1 : w1.heap[w.heap.size]? = some (.cells #[.int .i64 m] 3 (0, 0)) := (hg1.block w.heap.size (Array.getElem?_eq_some_iff.1 hbx).1 (by simp)).trans hbx
      have HR1 : Hid (w1.ranges Try.prog 3 (plainElem Try.prog 3) mb (w.heap.size + 1) 8 D (fun z => left z && !z.sameKey (.int .i64 x)) cnt1) := hrg1
      have HG1 : Hid _ := hg1
      have HC : Hid _ := hlt1
      clear hrg1 hlt1 hg1 hs1 hat hlx hwx hwc hx hy
      go_wp2_with (go_at_call 19; refine (lower_any hbx1 _).mono ?_; rintro e w2 ⟨rfl, hw2⟩; have HW2 : Hid _ := hw2; clear hw2)
      have f2 : Fr (fun k => k = w.heap.size) w1 w2 := by rw [HW2.out]; exact (Fr.refl _ w1).setCell _ _ (Or.inl rfl)
      have HR2 : Hid (w2.ranges Try.prog 3 (plainElem Try.prog 3) mb (w.heap.size + 1) 8 D (fun z => left z && !z.sameKey (.int .i64 x)) cnt1) :=
        World.ranges.kept HR1.out (row := some w.heap.size) ⟨f2.os, f2.tape, f2.output, f2.size, fun k hk hn => f2.block k hk (fun e => hn (by rw [e]))⟩ (by intro e; cases e; omega) (by intro e; simp at e)
      go_roundw
      case rel =>
        refine ⟨_, cnt1, min m y, HR2.out, HL1.out, ?_, ?_⟩
        · rw [HW2.out]; exact box_set hbx1 _
        · have f1 := (Fr.of_grown HG1.out).below (B := w.heap.size) (HB.out.size) (fun i e => by cases e; omega)
          exact (HB.out.trans f1).trans (f2.below (Nat.le_trans HB.out.size f1.size) (fun i e => by omega))
      case measure => rw [HR2.out.left_eq, HR.out.left_eq]; exact HC.out
end Go.Proofs.Ytkodjioofkdepaa.C
/- Proved: contracts of Tell and New. -/
namespace Go.Proofs.Ytkodjioofkdepaa.C
open Go.RowKit Go.Shelf
set_option linter.unusedVariables false
set_option maxRecDepth 100000

theorem lst_lo (a b : Int) : 0 ≤ lstI [a, b] := by
  have h1 := cnt_lo a
  have h2 := cnt_lo b
  simp [lstI]
  omega
theorem prm_lo (n me : Nat) (c : Int → Int) (first look : Int) : 0 ≤ prm n me c first look := cnt_lo _
theorem prm_hi (n me : Nat) (c : Int → Int) (first look : Int) : prm n me c first look ≤ 1125899906842624 := cnt_hi _
theorem tlT_up (n me : Nat) (c : Int → Int) (t first look : Int) : t ≤ tlT n me c t first look := by unfold tlT; split <;> omega
theorem tlT_lo {n me : Nat} {c : Int → Int} {t first look : Int} (h : 0 ≤ t) : 0 ≤ tlT n me c t first look := by have := tlT_up n me c t first look; omega
theorem tlT_hi {n me : Nat} {c : Int → Int} {t first look : Int} (h : t ≤ 1125899906842624) : tlT n me c t first look ≤ 1125899906842624 := by
  have := prm_hi n me c first look
  unfold tlT; split <;> omega
theorem rd_two {w : World} {q : Nat} {a b : Int} {T : TypeId} (h : w.heap[q]? = some (.cells #[.int .i64 a, .int .i64 b] T (0, 0))) : RdI w (some ⟨q, 0, none⟩) [a, b] := fun _ =>
  ⟨q, 0, rfl, (Array.getElem?_eq_some_iff.1 h).1, fun i hi => by
    rw [cellB h]
    match i, hi with
    | 0, _ => rfl
    | 1, _ => rfl⟩
theorem PC.say {n me : Nat} {c : Int → Int} {t : Int} {b mb : Nat} {W : World} (h : PC n me c t b mb W) {x : Int} (h0 : 0 ≤ x) (h1 : x ≤ 1125899906842624) : PC n me c x b mb (W.setCell ⟨b, 1, none⟩ (.int .i64 x)) := by
  obtain ⟨D, hD⟩ := h.map
  refine ⟨?_, ⟨D, hD.keep ((Fr.refl (fun k => k = b) W).setCell _ _ (Or.inl rfl)) h.ne⟩, h.ok, h0, h1, h.hn⟩
  rw [heap_setCell_same W b 1 _ _ _ h.blk]
  rfl

set_option maxRecDepth 100000 in
set_option maxHeartbeats 2000000 in
theorem tell_any {n me : Nat} {c : Int → Int} {t : Int} {b mb : Nat} {w : World} (h : PC n me c t b mb w) (first look : Int) :
    Calls Try.prog 28 #[.pointer (some ⟨b, 0, none⟩), .int .i64 first, .int .i64 look] w fun e w' => e = .returned (.tuple #[.int .i64 (tlT n me c t first look), .bool (tlB n me c t first look)]) ∧ PC n me c (tlT n me c t first look) b mb w' ∧ Fr (fun k => k = b) w w' := by
  have BD := bound_any h
  have HP : Hid (PC n me c t b mb w) := h
  obtain ⟨B, hB⟩ : ∃ B, bnd n me c = B := ⟨_, rfl⟩
  obtain ⟨p, hp⟩ : ∃ p, prm n me c first look = p := ⟨_, rfl⟩
  obtain ⟨q, hq⟩ : ∃ q, lstI [first, B] = q := ⟨_, rfl⟩
  have hp2 : vadd q look = p := by rw [← hp, ← hq, ← hB]; rfl
  have hp0 : 0 ≤ p := by rw [← hp]; exact prm_lo ..
  have hp1 : p ≤ 1125899906842624 := by rw [← hp]; exact prm_hi ..
  rw [hB] at BD
  have LS : ∀ W : World, Calls Try.prog 47 #[.slice (some ⟨W.heap.size, 0, none⟩) 2 2] (W.alloc (.cells #[.int .i64 first, .int .i64 B] 3)) fun e w' => e = .returned (.int .i64 q) ∧ (W.alloc (.cells #[.int .i64 first, .int .i64 B] 3)) = w' := fun W => by
    rw [← hq]
    exact least_any _ (some ⟨W.heap.size, 0, none⟩) 2 [first, B] (rd_two (MapKept.heap_alloc W _).1) (by simp)
  have AD : ∀ W : World, Calls Try.prog 46 #[.int .i64 q, .int .i64 look] W fun e w' => e = .returned (.int .i64 p) ∧ W = w' := fun W => by rw [← hp2]; exact add_any q look W
  unfold tlT tlB
  rw [hp]
  clear hp hp2 hq hB h
  by_cases hle : p ≤ t
  · have d : decide (t < p) = false := by simp; omega
    rw [if_pos hle, d]
    go_enter Try.func28, Try.ntmps28
    go_wp2_with (first | (go_at_call 8; refine BD.mono ?_; rintro e w1 ⟨rfl, b1⟩; have HB1 : Hid (Below w.heap.size w (w1.alloc (.cells #[.int .i64 first, .int .i64 B] 3))) := Below.on b1 (al w1 _); have c1 := (HP.out.below HB1.out).c1; clear b1) | (go_at_call 47; refine (LS _).mono ?_; rintro e w2 ⟨rfl, rfl⟩) | (go_at_call 46; refine (AD _).mono ?_; rintro e w3 ⟨rfl, rfl⟩))
    go_ret2
    exact ⟨rfl, HP.out.below HB1.out, Fr.of_below HB1.out⟩
  · have d : decide (t < p) = true := by simp; omega
    rw [if_neg hle, d]
    go_enter Try.func28, Try.ntmps28
    go_wp2_with (first | (go_at_call 8; refine BD.mono ?_; rintro e w1 ⟨rfl, b1⟩; have HB1 : Hid (Below w.heap.size w (w1.alloc (.cells #[.int .i64 first, .int .i64 B] 3))) := Below.on b1 (al w1 _); have c1 := (HP.out.below HB1.out).c1; have f1 := (HP.out.below HB1.out).froz 1; clear b1) | (go_at_call 47; refine (LS _).mono ?_; rintro e w2 ⟨rfl, rfl⟩) | (go_at_call 46; refine (AD _).mono ?_; rintro e w3 ⟨rfl, rfl⟩))
    go_ret2
    exact ⟨rfl, (HP.out.below HB1.out).say hp0 hp1, (Fr.of_below HB1.out).setCell _ _ (Or.inl rfl)⟩

/-! ### New -/
def noC : Int → Int := fun _ => 0
theorem noC_ok (n me : Nat) : okC n me noC := fun _ _ => by show okT 0 = true; decide
theorem no_up (j : Int) : upC noC j 0 = noC := by funext i; simp [upC, noC]
/-- The clocks of those below j, but for me. -/
def low (me j : Nat) (i : Int) : Bool := isCl j me i
theorem low_step {me j : Nat} (h : j ≠ me) : (fun i : Int => isCl j me i || i == (j : Int)) = isCl (j + 1) me := by
  funext i
  unfold isCl
  by_cases e : i = (j : Int)
  · subst e
    have : decide (0 ≤ (j : Int) ∧ (j : Int) < ((j + 1 : Nat) : Int) ∧ (j : Int) ≠ (me : Int)) = true := by simp; omega
    rw [this]; simp
  · have e2 : (i == (j : Int)) = false := by simpa using e
    rw [e2, Bool.or_false]
    apply decide_eq_decide.2
    omega
theorem low_me (me : Nat) : isCl me me = isCl (me + 1) me := by
  funext i
  unfold isCl
  apply decide_eq_decide.2
  omega
theorem low_none (me : Nat) : isCl 0 me = fun _ => false := by
  funext i
  unfold isCl
  simp
  omega
theorem run_makeHint (w : World) (k : Int) (h : 0 ≤ k) (h2 : k ≤ 8) : (Instr.makeMap 73 (some (.int .i64 k))).run Try.prog w = .ok (.map (some w.heap.size)) (w.alloc (.map #[] 0)) := by
  simp [Instr.makeMap, run_underlying Try.underlying73, asInt, asIntOf, Result.andThen]

set_option maxRecDepth 100000 in
set_option maxHeartbeats 2000000 in
theorem new_no (w : World) (n me : Int) (h : ¬ (1 ≤ n ∧ n ≤ 8 ∧ 0 ≤ me ∧ me < n)) :
    Calls Try.prog 16 #[.int .i64 n, .int .i64 me] w fun e w' => e = .returned (.tuple #[.pointer none, .int .i64 1]) ∧ w = w' := by
  by_cases h1 : n < 1
  · go_enter Try.func16, Try.ntmps16
    go_wp2
    go_ret2
    exact ⟨rfl, rfl⟩
  by_cases h2 : 8 < n
  · go_enter Try.func16, Try.ntmps16
    go_wp2
    go_ret2
    exact ⟨rfl, rfl⟩
  by_cases h3 : me < 0
  · go_enter Try.func16, Try.ntmps16
    go_wp2
    go_ret2
    exact ⟨rfl, rfl⟩
  have h4 : n ≤ me := by omega
  clear h
  go_enter Try.func16, Try.ntmps16
  go_wp2
  go_ret2
  exact ⟨rfl, rfl⟩

set_option maxRecDepth 100000 in
set_option maxHeartbeats 2000000 in
theorem new_ok (w : World) (n me : Nat) (h1 : 1 ≤ n) (h2 : n ≤ 8) (h3 : me < n) :
    Calls Try.prog 16 #[.int .i64 n, .int .i64 me] w fun e w' => e = .returned (.tuple #[.pointer (some ⟨w.heap.size + 1, 0, none⟩), .int .i64 0]) ∧ PC n me noC 0 (w.heap.size + 1) w.heap.size w' ∧ Below w.heap.size w w' := by
  have mk := run_makeHint w ((n : Int) - 1) (by omega) (by omega)
  have hn8 : (n : Int) ≤ 8 := by omega
  have hn1 : (1 : Int) ≤ n := by omega
  have hmn : (me : Int) < n := by omega
  go_enter Try.func16, Try.ntmps16
  go_wp2
  go_loopw [27] (fun s27 wr => ∃ j : Nat, s27 = .int .i64 j ∧ j ≤ n ∧ Hid (∃ D, MapC wr w.heap.size j (isCl j me) noC D) ∧ Hid (Below w.heap.size w wr) ∧ wr.heap.size = w.heap.size + 1) (fun s27 _ => n - (intOf s27).toNat)
  case atStart =>
    refine ⟨0, rfl, Nat.zero_le _, ⟨.map [], World.ownsMap_made _ _ _ _, fun i => ?_, fun i hi => ?_⟩, al w _, by simp⟩
    · rw [low_none]; rfl
    · rw [low_none] at hi; cases hi
  case round =>
    obtain ⟨j, rfl, hj, HM, HB, hsz⟩ := hrel
    by_cases hlt : j < n
    · have hlt' : (j : Int) < (n : Int) := by omega
      by_cases hm : j = me
      · have d : ((j : Int) != (me : Int)) = false := by simp [hm]
        have HM2 : Hid (∃ D, MapC wr w.heap.size (j + 1) (isCl (j + 1) me) noC D) := by
          obtain ⟨D, hD⟩ := HM.out
          refine ⟨D, hD.own.mono (by omega), ?_, ?_⟩
          · subst hm; rw [← low_me]; exact hD.has
          · subst hm; rw [← low_me]; exact hD.val
        clear hm
        go_wp2
        go_roundw
        case rel => exact ⟨j + 1, by go_num, by omega, HM2.out, HB.out, hsz⟩
        case measure => simp [intOf]; omega
      · have d : ((j : Int) != (me : Int)) = true := by simp; omega
        obtain ⟨D, hD⟩ := HM.out
        obtain ⟨W2, D2, hu, hm2, hf, hs2⟩ := hD.store (by omega) (j := j) (t := 0) (wf_of (by omega) (by omega)) (by decide)
        have HM2 : Hid (∃ D, MapC W2 w.heap.size (j + 1) (isCl (j + 1) me) noC D) := by
          rw [low_step hm, no_up] at hm2
          exact ⟨D2, hm2.own.mono (by split <;> omega), hm2.has, hm2.val⟩
        have HB2 : Hid (Below w.heap.size w W2) := HB.out.trans (hf.below HB.out.size (fun i e => by omega))
        clear hD hm2 hf
        go_wp2
        go_roundw
        case rel => exact ⟨j + 1, by go_num, by omega, HM2.out, HB2.out, hs2.trans hsz⟩
        case measure => simp [intOf]; omega
    · obtain rfl : j = n := by omega
      go_wp2
      go_ret2
      have hb := Below.on HB.out (al wr (.cells #[.map (some w.heap.size), .int .i64 0] 75))
      have h0 : (wr.alloc (.cells #[.map (some w.heap.size), .int .i64 0] 75)).heap[w.heap.size + 1]? = some (.cells #[.map (some w.heap.size), .int .i64 0] 75) := by rw [← hsz]; exact (MapKept.heap_alloc wr _).1
      obtain ⟨D, hD⟩ := HM.out
      refine ⟨?_, ⟨h0, ⟨D, (hD.own.alloc _).mono (by omega), hD.has, hD.val⟩, noC_ok _ _, by decide, by decide, h2⟩, hb⟩
      first | rfl | (rw [← hsz]; rfl)
end Go.Proofs.Ytkodjioofkdepaa.C
/- Proved: the document's clocks: how they lie in memory, and the contracts of At, Told, Hear, Bound, Tell. -/
namespace Go.Proofs.Ytkodjioofkdepaa.C
open Go.RowKit Go.Shelf
set_option linter.unusedVariables false
set_option maxRecDepth 100000

/-- Where a number stands: below, beyond, me, or a clock. -/
theorem four (n me : Nat) (j : Int) : (j < 0 ∧ isCl n me j = false) ∨ (0 ≤ j ∧ (n : Int) ≤ j ∧ isCl n me j = false) ∨ (0 ≤ j ∧ j < n ∧ j = me ∧ isCl n me j = false) ∨ ∃ k : Nat, j = k ∧ k < n ∧ k ≠ me ∧ isCl n me j = true := by
  by_cases h0 : j < 0
  · exact .inl ⟨h0, isCl_no.2 (by omega)⟩
  by_cases h1 : (n : Int) ≤ j
  · exact .inr (.inl ⟨by omega, h1, isCl_no.2 (by omega)⟩)
  by_cases h2 : j = me
  · exact .inr (.inr (.inl ⟨by omega, by omega, h2, isCl_no.2 (by omega)⟩))
  · obtain ⟨k, rfl⟩ := Int.eq_ofNat_of_zero_le (show 0 ≤ j by omega)
    exact .inr (.inr (.inr ⟨k, rfl, by omega, by omega, isCl_iff.2 ⟨by omega, by omega, h2⟩⟩))

end Go.Proofs.Ytkodjioofkdepaa.C
/- Proved: the contract of New of the document's clocks;  -/
namespace Go.Proofs.Ytkodjioofkdepaa.C
open Go.RowKit Go.Shelf Go.Sort
set_option linter.unusedVariables false
set_option maxRecDepth 100000

theorem infoI : (Try.prog.info? 3).map (fun i => (i.zero, i.size, i.bytes)) = some (some (.int .i64 0), 1, 8) := by kernel_rfl
theorem make_n (w : World) (n : Nat) (h : n ≤ 8) : ∃ cs : Array Value, (∀ k, k < n → cs[k]? = some (.int .i64 0)) ∧ (Instr.makeSlice 28 (.int .i64 (n : Int)) (.int .i64 (n : Int))).run Try.prog w = .ok (.slice (some ⟨w.heap.size, 0, none⟩) n n) (w.alloc (.cells cs 3)) := by
  obtain ⟨i0, hi, hz0, hz1, hz2⟩ := info_parts infoI
  have := run_makeSlice (P := Try.prog) w 28 3 i0 _ Try.underlying28 hi hz0 .i64 .i64 (n : Int) (n : Int) (by omega) (by omega) (by rw [hz1]; simp; omega) (by rw [hz2]; omega) (by omega)
  rw [hz1] at this
  refine ⟨_, fun k hk => ?_, by simpa using this⟩
  simp [madeCells, Value.cells, hk, Nat.mod_one]
end Go.Proofs.Ytkodjioofkdepaa.C
