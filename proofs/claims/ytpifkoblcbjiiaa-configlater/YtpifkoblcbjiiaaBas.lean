/- Proved: sends and rules as plain data, how they lie in memory, and what stays; which rule is found. -/
import Derived.WalkKit
import Derived.WalkSpells
import Derived.WalkLawsBesides
import Derived.Below
import Derived.OwnWalk
import Derived.OwnWalkIn
import Derived.Laws.OwnMore
import Derived.Maps.AppendAt
import Derived.Maps.OwnSet
import Derived.Maps.Views
import Derived.DeepKeys4
import Derived.Laws.AppendOwnNone
import Derived.Lib.SliceRun
import Derived.Deep.RegionHeld3
import Derived.Lib.QuietBelow
import Derived.Shelf.Abstract
import Derived.Test.YtpifkoblcbjiiaaProg
namespace Go.Proofs.Ytpifkoblcbjiiaa
open Go.RowKit
set_option linter.unusedVariables false

theorem clt' {w : World} {p : Addr} {v : Value} (h : w.cell? p = some v) : p.block < w.heap.size := by
  rcases Nat.lt_or_ge p.block w.heap.size with g | g
  · exact g
  · unfold World.cell? at h
    rw [Array.getElem?_eq_none g] at h
    cases h
def i64 (x : Int) : Prop := -9223372036854775808 ≤ x ∧ x ≤ 9223372036854775807
theorem i64_wf {x : Int} (h : i64 x) : (Lit.int .i64 x).wf = true := by unfold i64 at h; exact WalkArith.wf_i64 (by omega)

/-! ### Sends -/
/-- A send: its class, its delay, what it adds. -/
abbrev O := Int × Int × Int
def encO (o : O) : List Value := [.int .i64 o.1, .int .i64 o.2.1, .int .i64 o.2.2]
abbrev ov (o : O) : Value := .agg #[.int .i64 o.1, .int .i64 o.2.1, .int .i64 o.2.2]
theorem encO_len (o : O) : (encO o).length = 3 := rfl
theorem encO_one (o : O) : ∀ v ∈ encO o, v.oneCell' = true := by
  intro v hv
  simp [encO] at hv
  rcases hv with rfl | rfl | rfl <;> rfl
def nthO (l : List O) (i : Nat) : O := l.getD i (0, 0, 0)
def flatO (l : List O) : List Value := l.flatMap encO
theorem flatO_len (l : List O) : (flatO l).length = l.length * 3 := by
  induction l with
  | nil => rfl
  | cons x r ih => simp only [flatO, List.flatMap_cons, List.length_append, encO_len, List.length_cons] at *; omega
theorem flatO_append (a b : List O) : flatO (a ++ b) = flatO a ++ flatO b := by simp [flatO]
theorem flatO_get (l : List O) (i c : Nat) (hi : i < l.length) (hc : c < 3) : (flatO l)[i * 3 + c]? = (encO (nthO l i))[c]? := by
  induction l generalizing i with
  | nil => simp at hi
  | cons x r ih =>
    rw [show flatO (x :: r) = encO x ++ flatO r by simp [flatO]]
    cases i with
    | zero => rw [List.getElem?_append_left (by rw [encO_len]; omega)]; simp [nthO]
    | succ j =>
      rw [List.getElem?_append_right (by rw [encO_len]; omega), encO_len, show (j + 1) * 3 + c - 3 = j * 3 + c by omega, ih j (by simpa using hi)]
      simp [nthO]
theorem flatO_one (l : List O) : ∀ v ∈ flatO l, v.oneCell' = true := by
  intro v hv
  obtain ⟨m, _, h⟩ := List.mem_flatMap.1 hv
  exact encO_one m v h
theorem memO (l : List O) (x : O) : x ∈ l ↔ ∃ i, i < l.length ∧ nthO l i = x := by
  rw [List.mem_iff_getElem]
  constructor
  · rintro ⟨i, hi, rfl⟩; exact ⟨i, hi, by simp [nthO, hi]⟩
  · rintro ⟨i, hi, rfl⟩; exact ⟨i, hi, by simp [nthO, hi]⟩
/-- The sends l can be read at a. -/
def RdO (w : World) (a : Option Addr) (l : List O) : Prop :=
  l ≠ [] → ∃ b off, a = some ⟨b, off, none⟩ ∧ b < w.heap.size ∧ ∀ i, i < l.length → ∀ c, c < 3 → w.cell? ⟨b, off + i * 3 + c, none⟩ = (encO (nthO l i))[c]?
theorem RdO.below {w w' : World} {a : Option Addr} {l : List O} (h : RdO w a l) (hb : Below w.heap.size w w') : RdO w' a l := fun g => by
  obtain ⟨b, off, rfl, hB, hc⟩ := h g
  exact ⟨b, off, rfl, Nat.lt_of_lt_of_le hB hb.size, fun i hi c hc3 => (hb.cell (p := ⟨b, off + i * 3 + c, none⟩) hB).trans (hc i hi c hc3)⟩
theorem RdO.cells {w : World} {a : Option Addr} {l : List O} (h : RdO w a l) {i : Nat} (hi : i < l.length) {x : O} (hx : nthO l i = x) :
    ∃ b off, a = some ⟨b, off, none⟩ ∧ b < w.heap.size ∧ w.cell? ⟨b, off + i * 3, none⟩ = some (.int .i64 x.1) ∧ w.cell? ⟨b, off + i * 3 + 1, none⟩ = some (.int .i64 x.2.1) ∧ w.cell? ⟨b, off + i * 3 + 2, none⟩ = some (.int .i64 x.2.2) := by
  obtain ⟨b, off, rfl, hB, hc⟩ := h (by intro e; simp [e] at hi)
  subst hx
  exact ⟨b, off, rfl, hB, hc i hi 0 (by omega), hc i hi 1 (by omega), hc i hi 2 (by omega)⟩
theorem RdO.flat {w : World} {b off : Nat} {l : List O} (h : RdO w (some ⟨b, off, none⟩) l) : ∀ j u, (flatO l)[j]? = some u → w.cell? ⟨b, off + j, none⟩ = some u := fun j u hj => by
  have hj' : j < l.length * 3 := by have := (List.getElem?_eq_some_iff.1 hj).1; rwa [flatO_len] at this
  have hl : l ≠ [] := by intro e; simp [e] at hj'
  obtain ⟨b', off', e, hB, hc⟩ := h hl
  simp at e
  obtain ⟨rfl, rfl⟩ := e
  have hq : j / 3 < l.length := Nat.div_lt_of_lt_mul (by omega)
  have hr : j % 3 < 3 := Nat.mod_lt _ (by omega)
  have h1 := hc (j / 3) hq (j % 3) hr
  rw [← flatO_get l (j / 3) (j % 3) hq hr] at h1
  have e2 : j / 3 * 3 + j % 3 = j := by omega
  rw [Nat.add_assoc, e2] at h1
  rw [h1, hj]
/-- A row of sends that a call has made since w. -/
def RowO (w W : World) (v : Value) (l : List O) : Prop := W.ownsRow w.heap.size 55 3 v l.length (flatO l) ∧ Below w.heap.size w W
theorem RowO.below {w W W' : World} {v : Value} {l : List O} (h : RowO w W v l) (hb : Below W.heap.size W W') : RowO w W' v l := by
  refine ⟨⟨h.1.1, ?_⟩, h.2.trans (hb.mono h.2.size)⟩
  rcases h.1.2 with g | ⟨g, cap, cur, h1, h2, h3, h4⟩
  · exact .inl g
  · exact .inr ⟨g, cap, cur, h1, h2, (hb.block g (Array.getElem?_eq_some_iff.1 h3).1).trans h3, h4⟩
theorem RowO.nil (w : World) : RowO w w (.slice none 0 0) [] := ⟨World.ownsRow_nil _ _ _ _, Below.refl _ _⟩
theorem RowO.empty (w : World) : RowO w (w.alloc (.cells #[] 55)) (.slice (some ⟨w.heap.size, 0, none⟩) 0 0) [] := ⟨World.ownsRow_made w #[] 0 (Nat.le_refl _) (Nat.zero_le _) (by simp), (Below.refl _ _).alloc (Nat.le_refl _) _⟩
theorem RowO.rd {w W : World} {v : Value} {l : List O} (h : RowO w W v l) : ∃ a c, v = .slice a l.length c ∧ RdO W a l := by
  have h0 := h.1
  rcases h.1.2 with ⟨rfl, hn⟩ | ⟨g, cap, cur, rfl, _, hg, _⟩
  · exact ⟨none, 0, by rw [hn], fun hl => absurd (List.length_eq_zero_iff.1 hn) hl⟩
  · refine ⟨_, cap, rfl, fun _ => ⟨g, 0, rfl, (Array.getElem?_eq_some_iff.1 hg).1, fun i hi c hc => ?_⟩⟩
    rw [Nat.zero_add, World.ownsRow.cellAt h0 _ (by omega), flatO_get l i c hi hc]
/-- A row made since w is one made since an earlier world. -/
theorem RowO.since {w0 w W : World} {v : Value} {l : List O} (h : RowO w W v l) (hb : Below w0.heap.size w0 w) : RowO w0 W v l := by
  refine ⟨⟨h.1.1, ?_⟩, hb.trans (h.2.mono hb.size)⟩
  rcases h.1.2 with g | ⟨g, cap, cur, h1, h2, h3, h4⟩
  · exact .inl g
  · exact .inr ⟨g, cap, cur, h1, Nat.le_trans hb.size h2, h3, h4⟩
theorem infoO : (Try.prog.info? 55).map (fun i => (i.zero, i.size, i.bytes)) = some (some (ov (0, 0, 0)), 3, 24) := by kernel_rfl
theorem rowO_ge {w W : World} {v : Value} {l : List O} (h : RowO w W v l) {k : Nat} (e : v.ownBlock = some k) : w.heap.size ≤ k := by
  rcases h.1.2 with ⟨rfl, _⟩ | ⟨g, cap, cur, rfl, hg, _⟩
  · simp [Value.ownBlock] at e
  · simp [Value.ownBlock] at e; omega

/-! ### Rules -/
structure Rl where
  st : Int
  cl : Int
  nx : Int
  sa : Option Addr
  sc : Nat
  os : List O
def zeroR : Rl := ⟨0, 0, 0, none, 0, []⟩
def encR (r : Rl) : List Value := [.int .i64 r.st, .int .i64 r.cl, .int .i64 r.nx, .slice r.sa r.os.length r.sc]
def nthR (l : List Rl) (i : Nat) : Rl := l.getD i zeroR
theorem memR (l : List Rl) (x : Rl) : x ∈ l ↔ ∃ i, i < l.length ∧ nthR l i = x := by
  rw [List.mem_iff_getElem]
  constructor
  · rintro ⟨i, hi, rfl⟩; exact ⟨i, hi, by simp [nthR, hi]⟩
  · rintro ⟨i, hi, rfl⟩; exact ⟨i, hi, by simp [nthR, hi]⟩
theorem nthR_mem {l : List Rl} {i : Nat} (h : i < l.length) : nthR l i ∈ l := (memR l _).2 ⟨i, h, rfl⟩
/-- The numbers of a rule fit, and its sends can be read. -/
def okM (w : World) (r : Rl) : Prop := i64 r.st ∧ i64 r.cl ∧ RdO w r.sa r.os
/-- The rules l can be read at a. -/
def RdR (w : World) (a : Option Addr) (l : List Rl) : Prop :=
  (l ≠ [] → ∃ b off, a = some ⟨b, off, none⟩ ∧ b < w.heap.size ∧ ∀ i, i < l.length → ∀ c, c < 4 → w.cell? ⟨b, off + i * 4 + c, none⟩ = (encR (nthR l i))[c]?) ∧ ∀ r ∈ l, okM w r
theorem RdR.below {w w' : World} {a : Option Addr} {l : List Rl} (h : RdR w a l) (hb : Below w.heap.size w w') : RdR w' a l := by
  refine ⟨fun g => ?_, fun r hr => ⟨(h.2 r hr).1, (h.2 r hr).2.1, (h.2 r hr).2.2.below hb⟩⟩
  obtain ⟨b, off, rfl, hB, hc⟩ := h.1 g
  exact ⟨b, off, rfl, Nat.lt_of_lt_of_le hB hb.size, fun i hi c hc4 => (hb.cell (p := ⟨b, off + i * 4 + c, none⟩) hB).trans (hc i hi c hc4)⟩
theorem RdR.cells {w : World} {a : Option Addr} {l : List Rl} (h : RdR w a l) {i : Nat} (hi : i < l.length) {r : Rl} (hx : nthR l i = r) :
    ∃ b off, a = some ⟨b, off, none⟩ ∧ b < w.heap.size ∧ w.cell? ⟨b, off + i * 4, none⟩ = some (.int .i64 r.st) ∧ w.cell? ⟨b, off + i * 4 + 1, none⟩ = some (.int .i64 r.cl) ∧ w.cell? ⟨b, off + i * 4 + 2, none⟩ = some (.int .i64 r.nx) ∧ w.cell? ⟨b, off + i * 4 + 3, none⟩ = some (.slice r.sa r.os.length r.sc) := by
  obtain ⟨b, off, rfl, hB, hc⟩ := h.1 (by intro e; simp [e] at hi)
  subst hx
  exact ⟨b, off, rfl, hB, hc i hi 0 (by omega), hc i hi 1 (by omega), hc i hi 2 (by omega), hc i hi 3 (by omega)⟩
theorem RdR.at {w : World} {a : Option Addr} {l : List Rl} (h : RdR w a l) {i : Nat} (hi : i < l.length) {r : Rl} (hx : nthR l i = r) : okM w r := h.2 r (hx ▸ nthR_mem hi)

/-! ### Which rule is found -/
def isB (s c : Int) (r : Rl) : Bool := decide (r.st = s ∧ r.cl = c)
def fnd (l : List Rl) (s c : Int) : Int := if l.findIdx (isB s c) < l.length then (l.findIdx (isB s c) : Int) else -1
/-- The first place at which something holds. -/
def idxP (p : Rl → Bool) (l : List Rl) : Int := if l.findIdx p < l.length then (l.findIdx p : Int) else -1
theorem fnd_idx (l : List Rl) (s c : Int) : fnd l s c = idxP (isB s c) l := rfl
theorem findIdx_at {p : Rl → Bool} {l : List Rl} {k : Nat} (h : ∀ i, i < k → p (nthR l i) = false) (hk : k < l.length) (hp : p (nthR l k) = true) : l.findIdx p = k := by
  have e : ∀ i (hi : i < l.length), nthR l i = l[i] := fun i hi => by simp [nthR, hi]
  rw [e k hk] at hp
  rcases Nat.lt_trichotomy (l.findIdx p) k with g | g | g
  · have h1 := h _ g
    have hl : l.findIdx p < l.length := by omega
    rw [e _ hl, List.findIdx_getElem (w := hl)] at h1
    cases h1
  · exact g
  · have := List.not_of_lt_findIdx g
    rw [hp] at this
    cases this
theorem findIdx_no {p : Rl → Bool} {l : List Rl} (h : ∀ i, i < l.length → p (nthR l i) = false) : l.findIdx p = l.length := by
  rw [List.findIdx_eq_length]
  intro x hx
  obtain ⟨i, hi, rfl⟩ := (memR l x).1 hx
  exact h i hi
theorem idxP_at {p : Rl → Bool} {l : List Rl} {k : Nat} (h : ∀ i, i < k → p (nthR l i) = false) (hk : k < l.length) (hp : p (nthR l k) = true) : idxP p l = (k : Int) := by
  unfold idxP
  rw [findIdx_at h hk hp, if_pos hk]
theorem idxP_no {p : Rl → Bool} {l : List Rl} (h : ∀ i, i < l.length → p (nthR l i) = false) : idxP p l = -1 := by
  unfold idxP
  rw [findIdx_no h, if_neg (by omega)]
theorem idxP_cases (p : Rl → Bool) (l : List Rl) : (idxP p l = -1 ∧ ∀ r ∈ l, p r = false) ∨ ∃ k, k < l.length ∧ idxP p l = (k : Int) ∧ p (nthR l k) = true ∧ ∀ i, i < k → p (nthR l i) = false := by
  by_cases h : l.findIdx p < l.length
  · right
    refine ⟨_, h, by unfold idxP; rw [if_pos h], ?_, fun i hi => ?_⟩
    · rw [show nthR l (l.findIdx p) = l[l.findIdx p] by simp [nthR, h]]
      exact List.findIdx_getElem (w := h)
    · have := List.not_of_lt_findIdx hi
      rw [show nthR l i = l[i]'(by omega) by simp [nthR, show i < l.length by omega]]
      simpa using this
  · left
    refine ⟨by unfold idxP; rw [if_neg h], fun r hr => ?_⟩
    have : l.findIdx p = l.length := Nat.le_antisymm List.findIdx_le_length (by omega)
    rw [List.findIdx_eq_length] at this
    exact this r hr
theorem isB_true (s c : Int) (r : Rl) : isB s c r = true ↔ r.st = s ∧ r.cl = c := by unfold isB; simp
theorem isB_false (s c : Int) (r : Rl) : isB s c r = false ↔ ¬ (r.st = s ∧ r.cl = c) := by unfold isB; simp
/-- Which state, and which sends, a message of class c leads to in state s. -/
def stp (l : List Rl) (s c : Int) : Int × List O := if fnd l s c < 0 then (s, []) else ((nthR l (fnd l s c).toNat).nx, (nthR l (fnd l s c).toNat).os)
end Go.Proofs.Ytpifkoblcbjiiaa
