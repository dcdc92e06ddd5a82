/- Proved: keys and messages as plain data, their order, how a row of messages lies in memory, and what stays while other blocks are written. -/
import Derived.Test.YtkodjioofkdepaaProg
import Derived.WalkKit
import Derived.WalkSpells
import Derived.Below
import Derived.OwnWalk
import Derived.Laws.OwnMore
import Derived.Maps.AppendAt
import Derived.Maps.OwnSet
import Derived.Maps.Views
import Derived.DeepKeys4
import Derived.Shelf.GgSortFunc.RowK
import Derived.Shelf.GgSortFunc.InsertionK
namespace Go.Proofs.Ytkodjioofkdepaa.Q
open Go.RowKit Go.Sort
set_option linter.unusedVariables false

abbrev K := Int × Int × Int
abbrev M := K × Int × Int × Int
def enc (m : M) : List Value := [.int .i64 m.1.1, .int .i64 m.1.2.1, .int .i64 m.1.2.2, .int .i64 m.2.1, .int .i64 m.2.2.1, .int .i64 m.2.2.2]
theorem enc_len (m : M) : (enc m).length = 6 := rfl
theorem enc_one (m : M) : ∀ v ∈ enc m, v.oneCell' = true := by
  intro v hv
  simp [enc] at hv
  rcases hv with rfl | rfl | rfl | rfl | rfl | rfl <;> rfl
abbrev kv (k : K) : Value := .agg #[.int .i64 k.1, .int .i64 k.2.1, .int .i64 k.2.2]
abbrev mv (m : M) : Value := .agg #[.int .i64 m.1.1, .int .i64 m.1.2.1, .int .i64 m.1.2.2, .int .i64 m.2.1, .int .i64 m.2.2.1, .int .i64 m.2.2.2]
def i64 (x : Int) : Prop := -9223372036854775808 ≤ x ∧ x ≤ 9223372036854775807
def kwf (k : K) : Prop := i64 k.1 ∧ i64 k.2.1 ∧ i64 k.2.2
def mwf (m : M) : Prop := kwf m.1 ∧ i64 m.2.1 ∧ i64 m.2.2.1 ∧ i64 m.2.2.2

/-! ### The order of keys -/
def cmpI (x y : Int) : Int := if x < y then -1 else if y < x then 1 else 0
def or3 (a b c : Int) : Int := if a ≠ 0 then a else if b ≠ 0 then b else c
def kcmp (a b : K) : Int := or3 (cmpI a.1 b.1) (cmpI a.2.1 b.2.1) (cmpI a.2.2 b.2.2)
def klt (a b : K) : Bool := decide (kcmp a b < 0)
theorem klt_iff (a b : K) : klt a b = true ↔ (a.1 < b.1 ∨ (a.1 = b.1 ∧ (a.2.1 < b.2.1 ∨ (a.2.1 = b.2.1 ∧ a.2.2 < b.2.2)))) := by
  unfold klt kcmp or3 cmpI
  rw [decide_eq_true_iff]
  repeat' split
  all_goals omega
theorem klt_false_iff (a b : K) : klt a b = false ↔ ¬ (a.1 < b.1 ∨ (a.1 = b.1 ∧ (a.2.1 < b.2.1 ∨ (a.2.1 = b.2.1 ∧ a.2.2 < b.2.2)))) := by
  rw [← klt_iff]; simp
theorem klt_irrefl (a : K) : klt a a = false := by rw [klt_false_iff]; omega
theorem klt_trans {a b c : K} (h : klt a b = true) (g : klt b c = true) : klt a c = true := by rw [klt_iff] at *; omega
theorem klt_asymm {a b : K} (h : klt a b = true) : klt b a = false := by rw [klt_iff] at h; rw [klt_false_iff]; omega
theorem kle_trans {a b c : K} (h : klt b a = false) (g : klt c b = false) : klt c a = false := by rw [klt_false_iff] at *; omega
theorem klt_of_lt_of_le {a b c : K} (h : klt a b = true) (g : klt c b = false) : klt a c = true := by rw [klt_iff] at *; rw [klt_false_iff] at g; omega
theorem keq_of {a b : K} (h : klt a b = false) (g : klt b a = false) : a = b := by
  rw [klt_false_iff] at h g
  obtain ⟨a1, a2, a3⟩ := a
  obtain ⟨b1, b2, b3⟩ := b
  simp only [Prod.mk.injEq] at *
  omega
theorem klt_or {a b : K} (h : a ≠ b) : klt a b = true ∨ klt b a = true := by
  cases h1 : klt a b
  · cases h2 : klt b a
    · exact absurd (keq_of h1 h2) h
    · exact .inr rfl
  · exact .inl rfl
theorem kcmp_self (a : K) : kcmp a a = 0 := by unfold kcmp or3 cmpI; simp
theorem kcmp_pos (a b : K) : 0 < kcmp a b ↔ klt b a = true := by
  rw [klt_iff]
  unfold kcmp or3 cmpI
  repeat' split
  all_goals omega
theorem kcmp_neg (a b : K) : kcmp a b < 0 ↔ klt a b = true := by unfold klt; rw [decide_eq_true_iff]

/-! ### What stays -/
/-- w2 is w1 but for new blocks and for what lies in the blocks of S. -/
structure Fr (S : Nat → Prop) (w w' : World) : Prop where
  os : w'.os = w.os
  tape : w'.tape = w.tape
  output : w'.output = w.output
  size : w.heap.size ≤ w'.heap.size
  block : ∀ k, k < w.heap.size → ¬ S k → w'.heap[k]? = w.heap[k]?

theorem Fr.refl (S : Nat → Prop) (w : World) : Fr S w w := ⟨rfl, rfl, rfl, Nat.le_refl _, fun _ _ _ => rfl⟩
theorem Fr.trans {S S' : Nat → Prop} {a b c : World} (h : Fr S a b) (k : Fr S' b c) (hs : ∀ i, i < a.heap.size → S' i → S i) : Fr S a c :=
  ⟨k.os.trans h.os, k.tape.trans h.tape, k.output.trans h.output, Nat.le_trans h.size k.size, fun i hi hn => (k.block i (Nat.lt_of_lt_of_le hi h.size) (fun g => hn (hs i hi g))).trans (h.block i hi hn)⟩
theorem Fr.then {S : Nat → Prop} {a b c : World} (h : Fr S a b) (k : Fr S b c) : Fr S a c := h.trans k fun _ _ g => g
theorem Fr.wide {S S' : Nat → Prop} {a b : World} (h : Fr S a b) (hs : ∀ i, S i → S' i) : Fr S' a b :=
  ⟨h.os, h.tape, h.output, h.size, fun i hi hn => h.block i hi fun g => hn (hs i g)⟩
theorem Fr.of_below {S : Nat → Prop} {a b : World} (h : Below a.heap.size a b) : Fr S a b := ⟨h.os, h.tape, h.output, h.size, fun i hi _ => h.block i hi⟩
theorem Fr.below {S : Nat → Prop} {a b : World} {B : Nat} (h : Fr S a b) (hB : B ≤ a.heap.size) (hs : ∀ i, S i → B ≤ i) : Below B a b :=
  ⟨h.os, h.tape, h.output, h.size, fun i hi => h.block i (Nat.lt_of_lt_of_le hi hB) fun g => by have := hs i g; omega⟩
theorem Fr.of_grown {a b : World} {r : Option Nat} (h : a.grownBy b r) : Fr (fun i => r = some i) a b := ⟨h.os, h.tape, h.output, h.size, fun i hi hn => h.block i hi fun e => hn e.symm⟩
theorem Fr.alloc {S : Nat → Prop} {a b : World} (h : Fr S a b) (o : Obj) : Fr S a (b.alloc o) :=
  ⟨h.os, h.tape, h.output, by simp; have := h.size; omega, fun i hi hn => by rw [Below.heap_alloc _ _ _ (Nat.lt_of_lt_of_le hi h.size)]; exact h.block i hi hn⟩
theorem Fr.drew {S : Nat → Prop} {a b : World} (h : Fr S a b) : Fr S a b.drew := ⟨h.os, h.tape, h.output, h.size, h.block⟩
theorem Fr.drewN {S : Nat → Prop} {a b : World} (h : Fr S a b) (n : Nat) : Fr S a (b.drewN n) := ⟨h.os, h.tape, h.output, h.size, h.block⟩
theorem Fr.setCell {S : Nat → Prop} {a b : World} (h : Fr S a b) (p : Addr) (v : Value) (hp : S p.block ∨ a.heap.size ≤ p.block) : Fr S a (b.setCell p v) :=
  ⟨h.os, h.tape, h.output, by simpa using h.size, fun i hi hn => by
    rw [Below.heap_setCell _ _ _ _ (fun e => by subst e; rcases hp with g | g; exact hn g; omega)]
    exact h.block i hi hn⟩
theorem Fr.cell {S : Nat → Prop} {a b : World} (h : Fr S a b) {p : Addr} (hp : p.block < a.heap.size) (hn : ¬ S p.block) : b.cell? p = a.cell? p := World.cell?_of_block (h.block _ hp hn)
theorem Fr.frozen {S : Nat → Prop} {a b : World} (h : Fr S a b) {p : Addr} (hp : p.block < a.heap.size) (hn : ¬ S p.block) : b.frozen? p = a.frozen? p := World.frozen?_of_block (h.block _ hp hn)
theorem below_grow (w : World) (q : Nat) (os : Array Obj) : Below w.heap.size w (grow (w.drewN q) os) :=
  ⟨rfl, rfl, rfl, by simp [grow, World.drewN], fun k hk => by simp [grow, World.drewN, Array.getElem?_append, hk]⟩

/-! ### Rows of messages -/
def flat (l : List M) : List Value := l.flatMap enc
theorem flat_nil : flat [] = [] := rfl
theorem flat_len (l : List M) : (flat l).length = l.length * 6 := by
  induction l with
  | nil => rfl
  | cons x r ih => simp only [flat, List.flatMap_cons, List.length_append, enc_len, List.length_cons] at *; omega
theorem flat_append (a b : List M) : flat (a ++ b) = flat a ++ flat b := by simp [flat]
theorem flat_one (m : M) : flat [m] = enc m := by simp [flat]
theorem flat_take (l : List M) (n : Nat) : flat (l.take n) = (flat l).take (n * 6) := by
  by_cases h : n ≤ l.length
  · have e : flat l = flat (l.take n) ++ flat (l.drop n) := by rw [← flat_append, List.take_append_drop]
    have h2 : (flat (l.take n)).length = n * 6 := by rw [flat_len, List.length_take]; congr 1; omega
    rw [e, ← h2, List.take_left]
  · rw [List.take_of_length_le (by omega), List.take_of_length_le (by rw [flat_len]; omega)]
theorem flat_get (l : List M) (i c : Nat) (hi : i < l.length) (hc : c < 6) : (flat l)[i * 6 + c]? = (enc l[i])[c]? := by
  induction l generalizing i with
  | nil => simp at hi
  | cons x r ih =>
    rw [show flat (x :: r) = enc x ++ flat r by simp [flat]]
    cases i with
    | zero => rw [List.getElem?_append_left (by rw [enc_len]; omega)]; simp
    | succ j =>
      rw [List.getElem?_append_right (by rw [enc_len]; omega), enc_len, show (j + 1) * 6 + c - 6 = j * 6 + c by omega, ih j (by simpa using hi)]
      simp
theorem flat_one_cell (l : List M) : ∀ v ∈ flat l, v.oneCell' = true := by
  intro v hv
  obtain ⟨m, _, h⟩ := List.mem_flatMap.1 hv
  exact enc_one m v h
theorem flat_inj {a b : List M} (h : flat a = flat b) : a = b := by
  induction a generalizing b with
  | nil => cases b with
    | nil => rfl
    | cons y t => simp [flat, enc] at h
  | cons x r ih => cases b with
    | nil => simp [flat, enc] at h
    | cons y t =>
      rw [show flat (x :: r) = enc x ++ flat r by simp [flat], show flat (y :: t) = enc y ++ flat t by simp [flat]] at h
      obtain ⟨h1, h2⟩ := List.append_inj h (by rw [enc_len, enc_len])
      rw [ih h2]
      congr 1
      obtain ⟨⟨a1, a2, a3⟩, a4, a5, a6⟩ := x
      obtain ⟨⟨b1, b2, b3⟩, b4, b5, b6⟩ := y
      simpa [enc, and_assoc] using h1

/-- v is a slice of the messages l, in a row that is the program's own, not shared. -/
def Own (w : World) (v : Value) (l : List M) : Prop := w.ownsRow 0 36 6 v l.length (flat l)
/-- v is a slice of the messages l, wherever they lie. -/
def Rd (w : World) (v : Value) (l : List M) : Prop :=
  ∃ a cap, v = .slice a l.length cap ∧ (l ≠ [] → ∃ b off, a = some ⟨b, off, none⟩ ∧ b < w.heap.size ∧ ∀ i (h : i < l.length) c, c < 6 → w.cell? ⟨b, off + i * 6 + c, none⟩ = (enc l[i])[c]?)
def blkOf : Value → Option Nat
  | .slice (some a) _ _ => some a.block
  | _ => none
theorem blkOf_own {w : World} {v : Value} {l : List M} (h : Own w v l) : blkOf v = v.ownBlock := by
  rcases h.2 with ⟨rfl, _⟩ | ⟨g, cap, cur, rfl, _⟩ <;> rfl
theorem Own.rd {w : World} {v : Value} {l : List M} (h : Own w v l) : Rd w v l := by
  have h0 := h
  rcases h.2 with ⟨rfl, hn⟩ | ⟨g, cap, cur, rfl, _, hg, _⟩
  · exact ⟨none, 0, by rw [hn], fun hl => absurd (List.length_eq_zero_iff.1 hn) hl⟩
  · refine ⟨_, cap, rfl, fun _ => ⟨g, 0, rfl, (Array.getElem?_eq_some_iff.1 hg).1, fun i hi c hc => ?_⟩⟩
    rw [Nat.zero_add, World.ownsRow.cellAt h0 _ (by omega), flat_get l i c hi hc]
theorem Own.lt {w : World} {v : Value} {l : List M} (h : Own w v l) {g : Nat} (hg : v.ownBlock = some g) : g < w.heap.size := by
  rcases h.2 with ⟨rfl, hn⟩ | ⟨g', cap, cur, rfl, _, hh, _⟩
  · simp [Value.ownBlock] at hg
  · simp [Value.ownBlock] at hg
    subst hg
    exact (Array.getElem?_eq_some_iff.1 hh).1
theorem Own.keep {S : Nat → Prop} {w w' : World} {v : Value} {l : List M} (h : Own w v l) (hf : Fr S w w') (hd : ∀ g, v.ownBlock = some g → ¬ S g) : Own w' v l := by
  refine ⟨h.1, ?_⟩
  rcases h.2 with hn | ⟨g, cap, cur, rfl, hb2, hgg, rest⟩
  · exact .inl hn
  · exact .inr ⟨g, cap, cur, rfl, hb2, (hf.block g (Array.getElem?_eq_some_iff.1 hgg).1 (hd g rfl)).trans hgg, rest⟩
theorem Rd.keep {S : Nat → Prop} {w w' : World} {v : Value} {l : List M} (h : Rd w v l) (hf : Fr S w w') (hd : ∀ g, blkOf v = some g → ¬ S g) : Rd w' v l := by
  obtain ⟨a, cap, rfl, h⟩ := h
  refine ⟨a, cap, rfl, fun hl => ?_⟩
  obtain ⟨b, off, rfl, hb, hc⟩ := h hl
  exact ⟨b, off, rfl, Nat.lt_of_lt_of_le hb hf.size, fun i hi c hc6 => (hf.cell hb (hd b rfl)).trans (hc i hi c hc6)⟩
theorem Rd.lt {w : World} {v : Value} {l : List M} (h : Rd w v l) (hl : l ≠ []) : ∃ b, blkOf v = some b ∧ b < w.heap.size := by
  obtain ⟨a, cap, rfl, h⟩ := h
  obtain ⟨b, off, rfl, hb, _⟩ := h hl
  exact ⟨b, rfl, hb⟩

theorem info30 : (Try.prog.info? 36).map (fun i => (i.zero, i.size, i.bytes)) = some (some (mv ((0, 0, 0), 0, 0, 0)), 6, 48) := by kernel_rfl

/-- A row of the program's own holds its messages, as the library's kit of rows says it. -/
theorem Own.holds {w : World} {g cap : Nat} {l : List M} (h : Own w (.slice (some ⟨g, 0, none⟩) l.length cap) l) : HoldsK enc 6 w g 0 l.toArray := by
  intro j hj
  rw [size_flatK] at hj
  simp only [List.size_toArray] at hj
  have hq : j / 6 < l.length := Nat.div_lt_of_lt_mul (by omega)
  have hr : j % 6 < 6 := Nat.mod_lt _ (by omega)
  refine ⟨?_, World.ownsRow.frozenAt h (0 + j)⟩
  rw [get_flatK _ _ _ _ (by simpa using hj), Nat.zero_add, World.ownsRow.cellAt h j hj]
  have := flat_get l (j / 6) (j % 6) hq hr
  rw [Nat.mul_comm, Nat.div_add_mod] at this
  rw [this]
  simp only [id]
  rw [List.getElem?_eq_getElem (by rw [enc_len]; exact hr)]
  congr 1
  rw [getElem!_pos l.toArray (j / 6) (by simpa using hq)]
  simp only [List.getElem_toArray]
  rw [getElem!_pos (enc l[j / 6]) (j % 6) (by rw [enc_len]; exact hr)]
/-- And back, where the block has the same shape. -/
theorem own_of_holds {w w' : World} {g cap : Nat} {l l' : List M} (h : Own w (.slice (some ⟨g, 0, none⟩) l.length cap) l) (hl : l'.length = l.length) (hs : ∀ cur, w.heap[g]? = some (.cells cur 36 (0, 0)) → ∃ cur', w'.heap[g]? = some (.cells cur' 36 (0, 0)) ∧ cur'.size = cur.size)
    (hH : HoldsK enc 6 w' g 0 l'.toArray) : Own w' (.slice (some ⟨g, 0, none⟩) l'.length cap) l' := by
  rcases h.2 with ⟨h0, _⟩ | ⟨g', cap', cur, hv, hb, hg, hnc, hcm, hcs, ht⟩
  · simp at h0
  · simp at hv
    obtain ⟨rfl, rfl⟩ := hv
    obtain ⟨cur', hg', hsz⟩ := hs cur hg
    refine ⟨flat_len l', .inr ⟨g, cap, cur', rfl, hb, hg', by omega, hcm, by omega, ?_⟩⟩
    have hsz' : l'.length * 6 ≤ cur'.size := by rw [hsz, hcs, hl]; omega
    apply List.ext_getElem?
    intro j
    by_cases hj : j < l'.length * 6
    · have hq : j / 6 < l'.length := Nat.div_lt_of_lt_mul (by omega)
      have hr : j % 6 < 6 := Nat.mod_lt _ (by omega)
      rw [List.getElem?_take_of_lt hj]
      have h1 := (hH j (by rw [size_flatK]; simpa using hj)).1
      rw [get_flatK _ _ _ _ (by simpa using hj), Nat.zero_add] at h1
      simp only [World.cell?, hg', id] at h1
      have h2 : cur'.toList[j]? = cur'[j]? := by simp
      rw [h2]
      have h3 : cur'[j]? = some ((enc (l'.toArray[j / 6]!))[j % 6]!) := by simpa using h1
      rw [h3]
      have := flat_get l' (j / 6) (j % 6) hq hr
      rw [Nat.mul_comm, Nat.div_add_mod] at this
      rw [this, List.getElem?_eq_getElem (by rw [enc_len]; exact hr)]
      congr 1
      rw [getElem!_pos l'.toArray (j / 6) (by simpa using hq)]
      simp only [List.getElem_toArray]
      rw [getElem!_pos (enc l'[j / 6]) (j % 6) (by rw [enc_len]; exact hr)]
    · rw [List.getElem?_eq_none (by rw [List.length_take]; omega), List.getElem?_eq_none (by rw [flat_len]; omega)]
theorem mapBlock_shape (w : World) (g : Nat) (f : Array Value → Array Value) (hf : ∀ c, (f c).size = c.size) (cur : Array Value) (e : TypeId) (fr : Nat × Nat) (h : w.heap[g]? = some (.cells cur e fr)) : ∃ cur', (mapBlock w g f).heap[g]? = some (.cells cur' e fr) ∧ cur'.size = cur.size := by
  refine ⟨f cur, ?_, hf cur⟩
  simp [mapBlock, Array.getElem?_modify, h, onCells]
end Go.Proofs.Ytkodjioofkdepaa.Q
