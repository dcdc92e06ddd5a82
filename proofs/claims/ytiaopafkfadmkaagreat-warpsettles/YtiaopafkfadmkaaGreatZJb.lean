/- Joined: the texts that follow, each with its own sentence. -/
import Derived.WalkKit
import Derived.WalkSpells
import Derived.WalkLawsBesides
import Derived.Below
import Derived.OwnWalk
import Derived.OwnWalkIn
import Derived.Laws.OwnMore
import Derived.Maps.AppendAt
import Derived.Maps.OwnSet
import Derived.Maps.Views
import Derived.DeepKeys4
import Derived.Laws.AppendOwnNone
import Derived.Lib.SliceRun
import Derived.Deep.RegionHeld3
import Derived.Lib.QuietBelow
import Derived.Shelf.Abstract
import Derived.Test.YtiaopafkfadmkaaGreatProg
import Derived.Deep.RegionLaw
set_option linter.unusedVariables false
set_option maxRecDepth 100000
namespace Go.Proofs.YtiaopafkfadmkaaGreat
open Go.RowKit
theorem clt' {w : World} {p : Addr} {v : Value} (h : w.cell? p = some v) : p.block < w.heap.size := by
 rcases Nat.lt_or_ge p.block w.heap.size with g | g
 ·exact g
 ·unfold World.cell? at h
  rw [Array.getElem?_eq_none g] at h
  cases h
def i64 (x : Int) : Prop := -9223372036854775808 ≤ x ∧ x ≤ 9223372036854775807
theorem i64_wf {x : Int} (h : i64 x) : (Lit.int .i64 x).wf = true := by unfold i64 at h; exact WalkArith.wf_i64 (by omega)
abbrev O := Int × Int × Int
def encO (o : O) : List Value := [.int .i64 o.1, .int .i64 o.2.1, .int .i64 o.2.2]
abbrev ov (o : O) : Value := .agg #[.int .i64 o.1, .int .i64 o.2.1, .int .i64 o.2.2]
theorem encO_len (o : O) : (encO o).length = 3 := rfl
theorem encO_one (o : O) : ∀ v ∈ encO o, v.oneCell' = true := by
 intro v hv
 simp [encO] at hv
 rcases hv with rfl | rfl | rfl <;> rfl
def nthO (l : List O) (i : Nat) : O := l.getD i (0, 0, 0)
def flatO (l : List O) : List Value := l.flatMap encO
theorem flatO_len (l : List O) : (flatO l).length = l.length * 3 := by
 induction l with
 | nil => rfl
 | cons x r ih => simp only [flatO, List.flatMap_cons, List.length_append, encO_len, List.length_cons] at *; omega
theorem flatO_append (a b : List O) : flatO (a ++ b) = flatO a ++ flatO b := by simp [flatO]
theorem flatO_get (l : List O) (i c : Nat) (hi : i < l.length) (hc : c < 3) : (flatO l)[i * 3 + c]? = (encO (nthO l i))[c]? := by
 induction l generalizing i with
 | nil => simp at hi
 | cons x r ih =>
  rw [show flatO (x :: r) = encO x ++ flatO r by simp [flatO]]
  cases i with
  | zero => rw [List.getElem?_append_left (by rw [encO_len]; omega)]; simp [nthO]
  | succ j =>
   rw [List.getElem?_append_right (by rw [encO_len]; omega), encO_len, show (j + 1) * 3 + c - 3 = j * 3 + c by omega, ih j (by simpa using hi)]
   simp [nthO]
theorem flatO_one (l : List O) : ∀ v ∈ flatO l, v.oneCell' = true := by
 intro v hv
 obtain ⟨m, _, h⟩ := List.mem_flatMap.1 hv
 exact encO_one m v h
theorem memO (l : List O) (x : O) : x ∈ l ↔ ∃ i, i < l.length ∧ nthO l i = x := by
 rw [List.mem_iff_getElem]
 constructor
 ·rintro ⟨i, hi, rfl⟩; exact ⟨i, hi, by simp [nthO, hi]⟩
 ·rintro ⟨i, hi, rfl⟩; exact ⟨i, hi, by simp [nthO, hi]⟩
def RdO (w : World) (a : Option Addr) (l : List O) : Prop :=
 l ≠ [] → ∃ b off, a = some ⟨b, off, none⟩ ∧ b < w.heap.size ∧ ∀ i, i < l.length → ∀ c, c < 3 → w.cell? ⟨b, off + i * 3 + c, none⟩ = (encO (nthO l i))[c]?
theorem RdO.below {w w' : World} {a : Option Addr} {l : List O} (h : RdO w a l) (hb : Below w.heap.size w w') : RdO w' a l := fun g => by
 obtain ⟨b, off, rfl, hB, hc⟩ := h g
 exact ⟨b, off, rfl, Nat.lt_of_lt_of_le hB hb.size, fun i hi c hc3 => (hb.cell (p := ⟨b, off + i * 3 + c, none⟩) hB).trans (hc i hi c hc3)⟩
theorem RdO.cells {w : World} {a : Option Addr} {l : List O} (h : RdO w a l) {i : Nat} (hi : i < l.length) {x : O} (hx : nthO l i = x) :
  ∃ b off, a = some ⟨b, off, none⟩ ∧ b < w.heap.size ∧ w.cell? ⟨b, off + i * 3, none⟩ = some (.int .i64 x.1) ∧ w.cell? ⟨b, off + i * 3 + 1, none⟩ = some (.int .i64 x.2.1) ∧ w.cell? ⟨b, off + i * 3 + 2, none⟩ = some (.int .i64 x.2.2) := by
 obtain ⟨b, off, rfl, hB, hc⟩ := h (by intro e; simp [e] at hi)
 subst hx
 exact ⟨b, off, rfl, hB, hc i hi 0 (by omega), hc i hi 1 (by omega), hc i hi 2 (by omega)⟩
theorem RdO.flat {w : World} {b off : Nat} {l : List O} (h : RdO w (some ⟨b, off, none⟩) l) : ∀ j u, (flatO l)[j]? = some u → w.cell? ⟨b, off + j, none⟩ = some u := fun j u hj => by
 have hj' : j < l.length * 3 := by have := (List.getElem?_eq_some_iff.1 hj).1; rwa [flatO_len] at this
 have hl : l ≠ [] := by intro e; simp [e] at hj'
 obtain ⟨b', off', e, hB, hc⟩ := h hl
 simp at e
 obtain ⟨rfl, rfl⟩ := e
 have hq : j / 3 < l.length := Nat.div_lt_of_lt_mul (by omega)
 have hr : j % 3 < 3 := Nat.mod_lt _ (by omega)
 have h1 := hc (j / 3) hq (j % 3) hr
 rw [← flatO_get l (j / 3) (j % 3) hq hr] at h1
 have e2 : j / 3 * 3 + j % 3 = j := by omega
 rw [Nat.add_assoc, e2] at h1
 rw [h1, hj]
def RowO (w W : World) (v : Value) (l : List O) : Prop := W.ownsRow w.heap.size 147 3 v l.length (flatO l) ∧ Below w.heap.size w W
theorem RowO.below {w W W' : World} {v : Value} {l : List O} (h : RowO w W v l) (hb : Below W.heap.size W W') : RowO w W' v l := by
 refine ⟨⟨h.1.1, ?_⟩, h.2.trans (hb.mono h.2.size)⟩
 rcases h.1.2 with g | ⟨g, cap, cur, h1, h2, h3, h4⟩
 ·exact .inl g
 ·exact .inr ⟨g, cap, cur, h1, h2, (hb.block g (Array.getElem?_eq_some_iff.1 h3).1).trans h3, h4⟩
theorem RowO.nil (w : World) : RowO w w (.slice none 0 0) [] := ⟨World.ownsRow_nil _ _ _ _, Below.refl _ _⟩
theorem RowO.empty (w : World) : RowO w (w.alloc (.cells #[] 147)) (.slice (some ⟨w.heap.size, 0, none⟩) 0 0) [] := ⟨World.ownsRow_made w #[] 0 (Nat.le_refl _) (Nat.zero_le _) (by simp), (Below.refl _ _).alloc (Nat.le_refl _) _⟩
theorem RowO.rd {w W : World} {v : Value} {l : List O} (h : RowO w W v l) : ∃ a c, v = .slice a l.length c ∧ RdO W a l := by
 have h0 := h.1
 rcases h.1.2 with ⟨rfl, hn⟩ | ⟨g, cap, cur, rfl, _, hg, _⟩
 ·exact ⟨none, 0, by rw [hn], fun hl => absurd (List.length_eq_zero_iff.1 hn) hl⟩
 ·refine ⟨_, cap, rfl, fun _ => ⟨g, 0, rfl, (Array.getElem?_eq_some_iff.1 hg).1, fun i hi c hc => ?_⟩⟩
  rw [Nat.zero_add, World.ownsRow.cellAt h0 _ (by omega), flatO_get l i c hi hc]
theorem RowO.since {w0 w W : World} {v : Value} {l : List O} (h : RowO w W v l) (hb : Below w0.heap.size w0 w) : RowO w0 W v l := by
 refine ⟨⟨h.1.1, ?_⟩, hb.trans (h.2.mono hb.size)⟩
 rcases h.1.2 with g | ⟨g, cap, cur, h1, h2, h3, h4⟩
 ·exact .inl g
 ·exact .inr ⟨g, cap, cur, h1, Nat.le_trans hb.size h2, h3, h4⟩
theorem infoO : (Tryz.prog.info? 147).map (fun i => (i.zero, i.size, i.bytes)) = some (some (ov (0, 0, 0)), 3, 24) := by kernel_rfl
theorem rowO_ge {w W : World} {v : Value} {l : List O} (h : RowO w W v l) {k : Nat} (e : v.ownBlock = some k) : w.heap.size ≤ k := by
 rcases h.1.2 with ⟨rfl, _⟩ | ⟨g, cap, cur, rfl, hg, _⟩
 ·simp [Value.ownBlock] at e
 ·simp [Value.ownBlock] at e; omega
structure Rl where
 st : Int
 cl : Int
 nx : Int
 sa : Option Addr
 sc : Nat
 os : List O
def zeroR : Rl := ⟨0, 0, 0, none, 0, []⟩
def encR (r : Rl) : List Value := [.int .i64 r.st, .int .i64 r.cl, .int .i64 r.nx, .slice r.sa r.os.length r.sc]
def nthR (l : List Rl) (i : Nat) : Rl := l.getD i zeroR
theorem memR (l : List Rl) (x : Rl) : x ∈ l ↔ ∃ i, i < l.length ∧ nthR l i = x := by
 rw [List.mem_iff_getElem]
 constructor
 ·rintro ⟨i, hi, rfl⟩; exact ⟨i, hi, by simp [nthR, hi]⟩
 ·rintro ⟨i, hi, rfl⟩; exact ⟨i, hi, by simp [nthR, hi]⟩
theorem nthR_mem {l : List Rl} {i : Nat} (h : i < l.length) : nthR l i ∈ l := (memR l _).2 ⟨i, h, rfl⟩
def okM (w : World) (r : Rl) : Prop := i64 r.st ∧ i64 r.cl ∧ RdO w r.sa r.os
def RdR (w : World) (a : Option Addr) (l : List Rl) : Prop :=
 (l ≠ [] → ∃ b off, a = some ⟨b, off, none⟩ ∧ b < w.heap.size ∧ ∀ i, i < l.length → ∀ c, c < 4 → w.cell? ⟨b, off + i * 4 + c, none⟩ = (encR (nthR l i))[c]?) ∧ ∀ r ∈ l, okM w r
theorem RdR.below {w w' : World} {a : Option Addr} {l : List Rl} (h : RdR w a l) (hb : Below w.heap.size w w') : RdR w' a l := by
 refine ⟨fun g => ?_, fun r hr => ⟨(h.2 r hr).1, (h.2 r hr).2.1, (h.2 r hr).2.2.below hb⟩⟩
 obtain ⟨b, off, rfl, hB, hc⟩ := h.1 g
 exact ⟨b, off, rfl, Nat.lt_of_lt_of_le hB hb.size, fun i hi c hc4 => (hb.cell (p := ⟨b, off + i * 4 + c, none⟩) hB).trans (hc i hi c hc4)⟩
theorem RdR.cells {w : World} {a : Option Addr} {l : List Rl} (h : RdR w a l) {i : Nat} (hi : i < l.length) {r : Rl} (hx : nthR l i = r) :
  ∃ b off, a = some ⟨b, off, none⟩ ∧ b < w.heap.size ∧ w.cell? ⟨b, off + i * 4, none⟩ = some (.int .i64 r.st) ∧ w.cell? ⟨b, off + i * 4 + 1, none⟩ = some (.int .i64 r.cl) ∧ w.cell? ⟨b, off + i * 4 + 2, none⟩ = some (.int .i64 r.nx) ∧ w.cell? ⟨b, off + i * 4 + 3, none⟩ = some (.slice r.sa r.os.length r.sc) := by
 obtain ⟨b, off, rfl, hB, hc⟩ := h.1 (by intro e; simp [e] at hi)
 subst hx
 exact ⟨b, off, rfl, hB, hc i hi 0 (by omega), hc i hi 1 (by omega), hc i hi 2 (by omega), hc i hi 3 (by omega)⟩
theorem RdR.at {w : World} {a : Option Addr} {l : List Rl} (h : RdR w a l) {i : Nat} (hi : i < l.length) {r : Rl} (hx : nthR l i = r) : okM w r := h.2 r (hx ▸ nthR_mem hi)
def isB (s c : Int) (r : Rl) : Bool := decide (r.st = s ∧ r.cl = c)
def fnd (l : List Rl) (s c : Int) : Int := if l.findIdx (isB s c) < l.length then (l.findIdx (isB s c) : Int) else -1
def idxP (p : Rl → Bool) (l : List Rl) : Int := if l.findIdx p < l.length then (l.findIdx p : Int) else -1
theorem fnd_idx (l : List Rl) (s c : Int) : fnd l s c = idxP (isB s c) l := rfl
theorem findIdx_at {p : Rl → Bool} {l : List Rl} {k : Nat} (h : ∀ i, i < k → p (nthR l i) = false) (hk : k < l.length) (hp : p (nthR l k) = true) : l.findIdx p = k := by
 have e : ∀ i (hi : i < l.length), nthR l i = l[i] := fun i hi => by simp [nthR, hi]
 rw [e k hk] at hp
 rcases Nat.lt_trichotomy (l.findIdx p) k with g | g | g
 ·have h1 := h _ g
  have hl : l.findIdx p < l.length := by omega
  rw [e _ hl, List.findIdx_getElem (w := hl)] at h1
  cases h1
 ·exact g
 ·have := List.not_of_lt_findIdx g
  rw [hp] at this
  cases this
theorem findIdx_no {p : Rl → Bool} {l : List Rl} (h : ∀ i, i < l.length → p (nthR l i) = false) : l.findIdx p = l.length := by
 rw [List.findIdx_eq_length]
 intro x hx
 obtain ⟨i, hi, rfl⟩ := (memR l x).1 hx
 exact h i hi
theorem idxP_at {p : Rl → Bool} {l : List Rl} {k : Nat} (h : ∀ i, i < k → p (nthR l i) = false) (hk : k < l.length) (hp : p (nthR l k) = true) : idxP p l = (k : Int) := by
 unfold idxP
 rw [findIdx_at h hk hp, if_pos hk]
theorem idxP_no {p : Rl → Bool} {l : List Rl} (h : ∀ i, i < l.length → p (nthR l i) = false) : idxP p l = -1 := by
 unfold idxP
 rw [findIdx_no h, if_neg (by omega)]
theorem idxP_cases (p : Rl → Bool) (l : List Rl) : (idxP p l = -1 ∧ ∀ r ∈ l, p r = false) ∨ ∃ k, k < l.length ∧ idxP p l = (k : Int) ∧ p (nthR l k) = true ∧ ∀ i, i < k → p (nthR l i) = false := by
 by_cases h : l.findIdx p < l.length
 ·right
  refine ⟨_, h, by unfold idxP; rw [if_pos h], ?_, fun i hi => ?_⟩
  ·rw [show nthR l (l.findIdx p) = l[l.findIdx p] by simp [nthR, h]]
   exact List.findIdx_getElem (w := h)
  ·have := List.not_of_lt_findIdx hi
   rw [show nthR l i = l[i]'(by omega) by simp [nthR, show i < l.length by omega]]
   simpa using this
 ·left
  refine ⟨by unfold idxP; rw [if_neg h], fun r hr => ?_⟩
  have : l.findIdx p = l.length := Nat.le_antisymm List.findIdx_le_length (by omega)
  rw [List.findIdx_eq_length] at this
  exact this r hr
theorem isB_true (s c : Int) (r : Rl) : isB s c r = true ↔ r.st = s ∧ r.cl = c := by unfold isB; simp
theorem isB_false (s c : Int) (r : Rl) : isB s c r = false ↔ ¬ (r.st = s ∧ r.cl = c) := by unfold isB; simp
def stp (l : List Rl) (s c : Int) : Int × List O := if fnd l s c < 0 then (s, []) else ((nthR l (fnd l s c).toNat).nx, (nthR l (fnd l s c).toNat).os)
end Go.Proofs.YtiaopafkfadmkaaGreat
namespace Go.Proofs.YtiaopafkfadmkaaGreat
open Go.RowKit Go.Shelf
abbrev rv (r : Rl) : Value := .agg #[.int .i64 r.st, .int .i64 r.cl, .int .i64 r.nx, .slice r.sa r.os.length r.sc]
set_option maxHeartbeats 400000 in
theorem is_any (w : World) (r : Rl) (b1 b2 : Nat) (s c : Int) (h1 : w.cell? ⟨b1, 0, none⟩ = some (.int .i64 s)) (h2 : w.cell? ⟨b2, 0, none⟩ = some (.int .i64 c)) :
  Calls Tryz.prog 156 #[rv r, .pointer (some ⟨b1, 0, none⟩), .pointer (some ⟨b2, 0, none⟩)] w fun e w' => e = .returned (.bool (isB s c r)) ∧ Below w.heap.size w w' := by
 have l1 := clt' h1
 have l2 := clt' h2
 dsimp only at l1 l2
 obtain ⟨st, cl, nx, sa, sc, os⟩ := r
 by_cases e1 : st = s
 ·subst e1
  by_cases e2 : cl = c
  ·subst e2
   rw [show isB st cl ⟨st, cl, nx, sa, sc, os⟩ = true from (isB_true _ _ _).2 ⟨rfl, rfl⟩]
   dsimp only [rv]
   go_enter Tryz.func156, Tryz.ntmps156
   go_wp2
   go_ret
   exact ⟨rfl, (Below.refl _ _).alloc (Nat.le_refl _) _⟩
  ·rw [show isB st c ⟨st, cl, nx, sa, sc, os⟩ = false from (isB_false _ _ _).2 (fun g => e2 g.2)]
   have k1 : (cl == c) = false := by simpa using e2
   dsimp only [rv]
   go_enter Tryz.func156, Tryz.ntmps156
   go_wp2
   go_ret
   exact ⟨rfl, (Below.refl _ _).alloc (Nat.le_refl _) _⟩
 ·rw [show isB s c ⟨st, cl, nx, sa, sc, os⟩ = false from (isB_false _ _ _).2 (fun g => e1 g.1)]
  have k1 : (st == s) = false := by simpa using e1
  dsimp only [rv]
  go_enter Tryz.func156, Tryz.ntmps156
  go_wp2
  go_ret
  exact ⟨rfl, (Below.refl _ _).alloc (Nat.le_refl _) _⟩
set_option maxHeartbeats 1000000 in
theorem idx_find (w : World) (a : Option Addr) (cp : Nat) (l : List Rl) (b1 b2 : Nat) (s c : Int) (h : RdR w a l) (hl : l.length ≤ 1000) (h1 : w.cell? ⟨b1, 0, none⟩ = some (.int .i64 s)) (h2 : w.cell? ⟨b2, 0, none⟩ = some (.int .i64 c)) :
  Calls Tryz.prog 155 #[.slice a l.length cp, .func (.func 156) #[] #[.pointer (some ⟨b1, 0, none⟩), .pointer (some ⟨b2, 0, none⟩)]] w fun e w' => e = .returned (.int .i64 (fnd l s c)) ∧ Below w.heap.size w w' := by
 have l1 := clt' h1
 have l2 := clt' h2
 dsimp only at l1 l2
 have HR : Hid (RdR w a l) := h
 have H1 : Hid _ := h1
 have H2 : Hid _ := h2
 have eg : ∀ args w, (callFunc 156 args).run Tryz.prog w = .ok (.enter 156 args) w := enters_of Tryz.func156 (by kernel_rfl) rfl
 clear h h1 h2
 go_enter Tryz.func155, Tryz.ntmps155
 go_wp2_with fail
 go_loopw [8] (fun s8 wr => ∃ k : Nat, k ≤ l.length ∧ s8 = .int .i64 k ∧ Hid (∀ i, i < k → isB s c (nthR l i) = false) ∧ Below w.heap.size w wr) (fun s8 _ => l.length - (intOf s8).toNat)
 case atStart => exact ⟨0, Nat.zero_le _, rfl, (fun i hi => absurd hi (Nat.not_lt_zero _) : ∀ i, i < 0 → isB s c (nthR l i) = false), Below.refl _ _⟩
 case round =>
  obtain ⟨k, hk, rfl, HJ, hbw⟩ := hrel
  by_cases hkl : k < l.length
  ·have hk' : (k : Int) < (l.length : Int) := by omega
   obtain ⟨r, hr⟩ : ∃ r, nthR l k = r := ⟨_, rfl⟩
   obtain ⟨b, off, rfl, hB, x0, x1, x2, x3⟩ := (HR.out.below hbw).cells hkl hr
   have C := is_any wr r b1 b2 s c ((hbw.cell (p := ⟨b1, 0, none⟩) l1).trans H1.out) ((hbw.cell (p := ⟨b2, 0, none⟩) l2).trans H2.out)
   have HRE : Hid _ := hr
   clear hr
   cases hbit : isB s c r with
   | true =>
    rw [hbit] at C
    have HBT : Hid _ := hbit
    clear hbit
    obtain ⟨st, cl, nx, sa, sc, os⟩ := r
    dsimp only [rv] at C x0 x1 x2 x3
    go_wp2_with (go_at_call 156; refine C.mono ?_; rintro e w' ⟨rfl, hb1⟩)
    go_ret
    refine ⟨?_, hbw.trans (hb1.mono hbw.size)⟩
    rw [fnd_idx, idxP_at HJ.out hkl (by rw [HRE.out]; exact HBT.out)]
    rfl
   | false =>
    rw [hbit] at C
    have HBT : Hid _ := hbit
    clear hbit
    obtain ⟨st, cl, nx, sa, sc, os⟩ := r
    dsimp only [rv] at C x0 x1 x2 x3
    go_wp2_with (go_at_call 156; refine C.mono ?_; rintro e w' ⟨rfl, hb1⟩)
    go_roundw
    case rel =>
     refine ⟨k + 1, by omega, by go_num, ?_, hbw.trans (hb1.mono hbw.size)⟩
     refine (fun i hi => ?_ : ∀ i, i < k + 1 → isB s c (nthR l i) = false)
     by_cases e : i = k
     ·rw [e, HRE.out]; exact HBT.out
     ·exact HJ.out i (by omega)
    case measure => simp [intOf]; omega
  ·obtain rfl : k = l.length := by omega
   go_wp2
   go_ret
   refine ⟨?_, hbw⟩
   rw [fnd_idx, idxP_no HJ.out]
   rfl
set_option maxHeartbeats 400000 in
theorem find_any (w : World) (a : Option Addr) (cp : Nat) (l : List Rl) (s c : Int) (h : RdR w a l) (hl : l.length ≤ 1000) :
  Calls Tryz.prog 112 #[.slice a l.length cp, .int .i64 s, .int .i64 c] w fun e w' => e = .returned (.int .i64 (fnd l s c)) ∧ Below w.heap.size w w' := by
 have hb0 : Below w.heap.size w ((w.alloc (.cells #[.int .i64 s] 3)).alloc (.cells #[.int .i64 c] 3)) := ((Below.refl _ w).alloc (Nat.le_refl _) _).alloc (by simp) _
 have I := idx_find ((w.alloc (.cells #[.int .i64 s] 3)).alloc (.cells #[.int .i64 c] 3)) a cp l w.heap.size (w.heap.size + 1) s c (h.below hb0) hl
  (by rw [World.cell?_alloc_lt _ _ _ (by simp), World.cell?_alloc_new]; rfl)
  (by rw [show w.heap.size + 1 = (w.alloc (.cells #[.int .i64 s] 3)).heap.size by simp, World.cell?_alloc_new]; rfl)
 clear h
 go_enter Tryz.func112, Tryz.ntmps112
 go_wp2_with (go_at_call 155; refine I.mono ?_; rintro e w' ⟨rfl, hb1⟩)
 go_ret
 exact ⟨rfl, hb0.trans (hb1.mono hb0.size)⟩
set_option maxHeartbeats 1000000 in
theorem rfind_any (w : World) (a : Option Addr) (cp : Nat) (l : List Rl) (s c : Int) (h : RdR w a l) (hl : l.length ≤ 1000) :
  Calls Tryz.prog 87 #[.slice a l.length cp, .int .i64 s, .int .i64 c] w fun e w' => e = .returned (.int .i64 (fnd l s c)) ∧ w = w' := by
 have HR : Hid (RdR w a l) := h
 clear h
 go_enter Tryz.func87, Tryz.ntmps87
 go_wp2_with fail
 go_loopw [7] (fun s7 wr => ∃ k : Nat, k ≤ l.length ∧ s7 = .int .i64 k ∧ Hid (∀ i, i < k → isB s c (nthR l i) = false) ∧ wr = w) (fun s7 _ => l.length - (intOf s7).toNat)
 case atStart => exact ⟨0, Nat.zero_le _, rfl, (fun i hi => absurd hi (Nat.not_lt_zero _) : ∀ i, i < 0 → isB s c (nthR l i) = false), rfl⟩
 case round =>
  obtain ⟨k, hk, rfl, HJ, rfl⟩ := hrel
  by_cases hkl : k < l.length
  ·have hk' : (k : Int) < (l.length : Int) := by omega
   obtain ⟨r, hr⟩ : ∃ r, nthR l k = r := ⟨_, rfl⟩
   obtain ⟨b, off, rfl, hB, x0, x1, x2, x3⟩ := HR.out.cells hkl hr
   have HRE : Hid _ := hr
   clear hr x2 x3
   by_cases e1 : r.st = s
   ·by_cases e2 : r.cl = c
    ·have HBT : Hid _ := (isB_true s c r).2 ⟨e1, e2⟩
     rw [e1] at x0
     rw [e2] at x1
     clear e1 e2
     go_wp2
     go_ret
     refine ⟨?_, rfl⟩
     rw [fnd_idx, idxP_at HJ.out hkl (by rw [HRE.out]; exact HBT.out)]
     rfl
    ·have HBT : Hid _ := (isB_false s c r).2 (fun g => e2 g.2)
     have k1 : (r.cl == c) = false := by simpa using e2
     rw [e1] at x0
     clear e1
     go_wp2
     go_roundw
     case rel =>
      refine ⟨k + 1, by omega, by go_num, ?_, by first | rfl | trivial⟩
      refine (fun i hi => ?_ : ∀ i, i < k + 1 → isB s c (nthR l i) = false)
      by_cases e : i = k
      ·rw [e, HRE.out]; exact HBT.out
      ·exact HJ.out i (by omega)
     case measure => simp [intOf]; omega
   ·have HBT : Hid _ := (isB_false s c r).2 (fun g => e1 g.1)
    have k1 : (r.st == s) = false := by simpa using e1
    go_wp2
    go_roundw
    case rel =>
     refine ⟨k + 1, by omega, by go_num, ?_, by first | rfl | trivial⟩
     refine (fun i hi => ?_ : ∀ i, i < k + 1 → isB s c (nthR l i) = false)
     by_cases e : i = k
     ·rw [e, HRE.out]; exact HBT.out
     ·exact HJ.out i (by omega)
    case measure => simp [intOf]; omega
  ·obtain rfl : k = l.length := by omega
   go_wp2
   go_ret
   refine ⟨?_, rfl⟩
   rw [fnd_idx, idxP_no HJ.out]
   rfl
end Go.Proofs.YtiaopafkfadmkaaGreat
namespace Go.Proofs.YtiaopafkfadmkaaGreat
open Go.RowKit Go.Shelf
theorem append_O {w W : World} {v : Value} {a : Option Addr} {c : Nat} {l1 l2 : List O} (h1 : RowO w W v l1) (h2 : RdO W a l2) (hl1 : l1.length ≤ 100000) (hl2 : l2.length ≤ 100000) (ty : TypeId) (X : List O) (hX : l1 ++ l2 = X) :
  ∃ a' c' w', (Builtin.append_ #[72, 72] ty #[v, .slice a l2.length c]).run Tryz.prog W = .ok (.slice a' X.length c') w' ∧ RowO w w' (.slice a' X.length c') X := by
 obtain ⟨i0, hi0, hz0, hz1, hz2⟩ := info_parts infoO
 have fin : ∀ v' w', RowO w w' v' X → (Builtin.append_ #[72, 72] ty #[v, .slice a l2.length c]).run Tryz.prog W = .ok v' w' → ∃ a' c' w', (Builtin.append_ #[72, 72] ty #[v, .slice a l2.length c]).run Tryz.prog W = .ok (.slice a' X.length c') w' ∧ RowO w w' (.slice a' X.length c') X := fun v' w' h hr => by
  obtain ⟨a', c', rfl, _⟩ := h.rd
  exact ⟨a', c', w', hr, h⟩
 cases a with
 | none =>
  have hd : l2 = [] := Classical.byContradiction fun g => by
   obtain ⟨b, off, e, _⟩ := h2 g
   cases e
  subst hd
  rw [List.append_nil] at hX
  subst hX
  have hr := run_append_owned_none (P := Tryz.prog) W w.heap.size 72 ty 147 i0 3 Tryz.underlying72 hi0 v l1.length (flatO l1) h1.1
  exact fin _ _ h1 (by first | exact hr | (have := hr; simpa using this))
 | some ad =>
  obtain ⟨v', w', hr, h3, h4, h5, h6⟩ := run_append_own_at (P := Tryz.prog) W w.heap.size 72 ty 147 i0 _ 3 24 Tryz.underlying72 hi0 hz0 hz1 hz2 rfl (by decide) v l1.length (flatO l1) h1.1 ad l2.length c (flatO l2) (flatO_len l2) (fun j u hj => by
   have hj' : j < l2.length * 3 := by have := (List.getElem?_eq_some_iff.1 hj).1; rwa [flatO_len] at this
   obtain ⟨b, off, e, _⟩ := h2 (by intro e; simp [e] at hj')
   simp at e
   subst e
   rw [Addr.add_lit]
   exact h2.flat j u hj) (flatO_one _) (by unfold maxLen; omega) (by omega) h1.2.size
  refine fin v' w' ⟨?_, h1.2.grown h4 h1.2.size (fun k e => rowO_ge h1 e)⟩ hr
  rw [← hX, flatO_append, List.length_append]
  exact h3
theorem wpList_append_O (W : World) {ops : Array Oper} {rest : List Oper} {o : Oper} {a : Act} {Q : Exit → Act → World → Prop} (hgd : o.guard = none) (s x : Operand)
  (ho : o.op = .call { callee := .builtin .append, args := #[s, x], argTypes := #[72, 72] })
  (w : World) (v : Value) (ad : Option Addr) (c : Nat) (l1 l2 : List O) (hs : a.eval s = v) (hx : a.eval x = .slice ad l2.length c) (h1 : RowO w W v l1) (h2 : RdO W ad l2) (hl1 : l1.length ≤ 100000) (hl2 : l2.length ≤ 100000) (X : List O) (hX : l1 ++ l2 = X)
  (h : ∀ a' c' w', RowO w w' (.slice a' X.length c') X → wpList Tryz.prog ops Q rest (a.put o.dst (.slice a' X.length c')) w') :
  wpList Tryz.prog ops Q (o :: rest) a W := by
 refine wpList_plain hgd fun K hK => ?_
 obtain ⟨a', c', w', hr, h3⟩ := append_O (c := c) h1 h2 hl1 hl2 o.type X hX
 unfold Oper.wp execOp
 simp only [ho, resolve, invoke, builtin, Sem.run_bind, Sem.run_pure, Result.andThen_ok, List.map_toArray, List.map_cons, List.map_nil, hs, hx, hr]
 exact hK _ _ (h a' c' w' h3)
set_option maxHeartbeats 400000 in
theorem clone_any (w : World) (a : Option Addr) (c : Nat) (l : List O) (h : RdO w a l) (hl : l.length ≤ 1000) :
  Calls Tryz.prog 98 #[.slice a l.length c] w fun e w' => ∃ a' c', e = .returned (.slice a' l.length c') ∧ RowO w w' (.slice a' l.length c') l := by
 have q22 : ∀ (w : World) (a : Option Addr) (n c n' c' : Nat), (binOp .eql 72 (.slice a n c) (.slice none n' c')).run Tryz.prog w = .ok (.bool a.isNone) w := fun w a n c n' c' => Lib.run_eql_slice_nil w _ _ a n c n' c' Tryz.underlying72
 cases a with
 | none =>
  have hd : l = [] := Classical.byContradiction fun g => by
   obtain ⟨b, off, e, _⟩ := h g
   cases e
  subst hd
  have HN : Hid _ := RowO.nil w
  clear h
  go_enter Tryz.func98, Tryz.ntmps98
  go_wp2
  go_ret
  exact ⟨_, _, rfl, HN.out⟩
 | some ad =>
  have HE : Hid _ := RowO.empty w
  have H2 : Hid _ := h.below (RowO.empty w).2
  clear h
  go_enter Tryz.func98, Tryz.ntmps98
  go_wp2_with (at_builtin; refine wpList_append_O _ rfl _ _ rfl w _ _ _ [] l rfl rfl (Hid.out HE) (Hid.out H2) (by simp) (by omega) l rfl ?_; intro a' c' w' hr; have HR : Hid _ := hr; clear hr)
  go_ret
  exact ⟨_, _, rfl, HR.out⟩
theorem step_append_run {P : Program} {ops : Array Oper} {o : Oper} {a : Act} {w : World} {K : Act → World → Prop} {Q : Exit → Act → World → Prop} {E : Prop}
  (hg : o.guard = none) (s x : Operand) (t : TypeId) (hop : o.op = Op.call { callee := Callee.builtin Builtin.append, args := #[s, x], argTypes := #[t, t] })
  {v1 v2 v' : Value} {w' : World} (hs : a.eval s = v1) (hx : a.eval x = v2) (hrun : (Builtin.append_ #[t, t] o.type #[v1, v2]).run P w = .ok v' w')
  (hK : K (a.put o.dst v') w') :
  if Region.wanted o (yielded ops a.tmps) = true then Oper.wp P o a w K Q else E := by
 have hw : Region.wanted o (yielded ops a.tmps) = true := by simp [Region.wanted, hg]
 rw [if_pos hw]
 unfold Oper.wp
 simp [execOp, hop, resolve, invoke, builtin, hs, hx, hrun, Result.andThen]
 exact hK
def Lt (l : List Rl) : Prop := l.length ≤ 60 ∧ ∀ r ∈ l, r.os.length ≤ 20
end Go.Proofs.YtiaopafkfadmkaaGreat
namespace Go.Proofs.YtiaopafkfadmkaaGreat
open Go.RowKit Go.Shelf
theorem stp_no {l : List Rl} {s c : Int} (h : fnd l s c = -1) : stp l s c = (s, []) := by unfold stp; rw [h]; rfl
theorem stp_at {l : List Rl} {s c : Int} {k : Nat} (h : fnd l s c = (k : Int)) : stp l s c = ((nthR l k).nx, (nthR l k).os) := by
 unfold stp
 rw [h, if_neg (by omega)]
 simp
theorem stp_len {l : List Rl} (h : Lt l) (s c : Int) : (stp l s c).2.length ≤ 20 := by
 rcases idxP_cases (isB s c) l with ⟨e, _⟩ | ⟨k, hk, e, _⟩
 ·rw [stp_no e]; simp
 ·rw [stp_at e]; exact h.2 _ (nthR_mem hk)
set_option maxHeartbeats 1000000 in
theorem step_any (w : World) (a : Option Addr) (cp : Nat) (l : List Rl) (s c : Int) (h : RdR w a l) (hl : Lt l) :
  Calls Tryz.prog 63 #[.slice a l.length cp, .int .i64 s, .int .i64 c] w fun e w' => ∃ a' c', e = .returned (.tuple #[.int .i64 (stp l s c).1, .slice a' (stp l s c).2.length c']) ∧ RowO w w' (.slice a' (stp l s c).2.length c') (stp l s c).2 := by
 have mixed : Tryz.prog.follows .mixedOrders = true := by kernel_rfl
 have F := find_any w a cp l s c h (by have := hl.1; omega)
 rcases idxP_cases (isB s c) l with ⟨e, _⟩ | ⟨k, hk, e, _⟩
 ·rw [stp_no e]
  rw [← fnd_idx] at e
  rw [e] at F
  dsimp only
  clear h hl e
  go_enter Tryz.func63, Tryz.ntmps63
  go_wp2_with (go_at_call 112; refine F.mono ?_; rintro e w' ⟨rfl, hb1⟩)
  go_ret2
  exact ⟨_, _, rfl, (RowO.nil w).below hb1⟩
 ·rw [stp_at e]
  rw [← fnd_idx] at e
  rw [e] at F
  dsimp only
  obtain ⟨r, hr⟩ : ∃ r, nthR l k = r := ⟨_, rfl⟩
  rw [hr]
  have HR : Hid (RdR w a l) := h
  have HL : Hid (r.os.length ≤ 20) := hr ▸ hl.2 _ (nthR_mem hk)
  have hll := hl.1
  obtain ⟨b, off, rfl, _⟩ := h.cells hk hr
  have hk' : (k : Int) < (l.length : Int) := by omega
  have HX : Hid (∀ W, Below w.heap.size w W → W.cell? ⟨b, off + k * 4 + 2, none⟩ = some (.int .i64 r.nx) ∧ W.cell? ⟨b, off + k * 4 + 3, none⟩ = some (.slice r.sa r.os.length r.sc) ∧ RdO W r.sa r.os) := fun W hW => by
   obtain ⟨b', off', e, hB, x0, x1, x2, x3⟩ := (h.below hW).cells hk hr
   simp at e
   obtain ⟨rfl, rfl⟩ := e
   exact ⟨x2, x3, ((h.below hW).at hk hr).2.2⟩
  clear h hl e hr
  go_enter Tryz.func63, Tryz.ntmps63
  go_wp2_with fail
  refine F.mono ?_
  rintro e w1 ⟨rfl, hb1⟩
  obtain ⟨x2, x3, hrd⟩ := HX.out w1 hb1
  have K := clone_any w1.drew r.sa r.sc r.os (hrd.below ((Below.refl _ w1).drew)) (by have := HL.out; omega)
  have HB1 : Hid _ := hb1
  clear hrd F hb1
  go_wp2_with fail
  go_region_held3 (fun w' => w'.cell? ⟨b, off + k * 4 + 2, none⟩ = some (.int .i64 r.nx) ∧ w'.cell? ⟨b, off + k * 4 + 3, none⟩ = some (.slice r.sa r.os.length r.sc)) (go_keep) (first | (go_at_call 98; refine K.mono ?_; rintro e w2 ⟨a', c', rfl, hR⟩; have HRO : Hid _ := hR.since ((HB1.out).drew); obtain ⟨y2, y3, _⟩ := HX.out w2 (HRO.out).2; clear hR))
  all_goals go_wp2
  all_goals go_ret2
  all_goals exact ⟨_, _, rfl, HRO.out⟩
end Go.Proofs.YtiaopafkfadmkaaGreat
namespace Go.Proofs.YtiaopafkfadmkaaGreat
open Go.RowKit Go.Shelf
def inB (n m : Int) : Bool := decide (0 ≤ n ∧ n < m)
def okO (o : O) : Bool := inB o.1 16 && (inB o.2.1 1048577 && inB o.2.2 1000)
def okR (r : Rl) : Bool := inB r.st 8 && (inB r.cl 16 && (inB r.nx 8 && (decide (r.os.length ≤ 3) && r.os.all okO)))
set_option maxHeartbeats 400000 in
theorem isb_any (n m : Int) (w : World) :
  Calls Tryz.prog 194 #[.int .i64 n, .int .i64 m] w fun e w' => e = .returned (.bool (inB n m)) ∧ w = w' := by
 by_cases h : 0 ≤ n
 ·by_cases g : n < m
  ·rw [show inB n m = true from decide_eq_true ⟨h, g⟩]
   go_enter Tryz.func194, Tryz.ntmps194
   go_wp2
   go_ret
   exact ⟨rfl, rfl⟩
  ·rw [show inB n m = false from decide_eq_false (fun x => g x.2)]
   go_enter Tryz.func194, Tryz.ntmps194
   go_wp2
   go_ret
   exact ⟨rfl, rfl⟩
 ·rw [show inB n m = false from decide_eq_false (fun x => h x.1)]
  go_enter Tryz.func194, Tryz.ntmps194
  go_wp2
  go_ret
  exact ⟨rfl, rfl⟩
set_option maxHeartbeats 400000 in
theorem wrongO_any (w : World) (o : O) :
  Calls Tryz.prog 195 #[ov o] w fun e w' => e = .returned (.bool (!okO o)) ∧ Below w.heap.size w w' := by
 obtain ⟨p, q, r⟩ := o
 have e : okO (p, q, r) = (inB p 16 && (inB q 1048577 && inB r 1000)) := rfl
 rw [e]
 dsimp only [ov]
 clear e
 cases hx : inB p 16 with
 | false =>
  go_enter Tryz.func195, Tryz.ntmps195
  go_wp2_with (go_at_call 194; refine (isb_any _ _ _).mono ?_; rintro e w' ⟨rfl, rfl⟩)
  go_ret
  exact ⟨rfl, (Below.refl _ _).alloc (Nat.le_refl _) _⟩
 | true =>
  cases hy : inB q 1048577 with
  | false =>
   go_enter Tryz.func195, Tryz.ntmps195
   go_wp2_with (go_at_call 194; refine (isb_any _ _ _).mono ?_; rintro e w' ⟨rfl, rfl⟩)
   go_ret
   exact ⟨rfl, (Below.refl _ _).alloc (Nat.le_refl _) _⟩
  | true =>
   go_enter Tryz.func195, Tryz.ntmps195
   go_wp2_with (go_at_call 194; refine (isb_any _ _ _).mono ?_; rintro e w' ⟨rfl, rfl⟩)
   go_ret
   exact ⟨by cases inB r 1000 <;> rfl, (Below.refl _ _).alloc (Nat.le_refl _) _⟩
set_option maxHeartbeats 1000000 in
theorem idxO_any (w : World) (a : Option Addr) (cp : Nat) (l : List O) (h : RdO w a l) (hl : l.length ≤ 1000) :
  Calls Tryz.prog 198 #[.slice a l.length cp, .func (.func 195) #[] #[]] w fun e w' => ∃ r : Int, e = .returned (.int .i64 r) ∧ decide (0 ≤ r) = !l.all okO ∧ Below w.heap.size w w' := by
 have HR : Hid (RdO w a l) := h
 have eg : ∀ args w, (callFunc 195 args).run Tryz.prog w = .ok (.enter 195 args) w := enters_of Tryz.func195 (by kernel_rfl) rfl
 clear h
 go_enter Tryz.func198, Tryz.ntmps198
 go_wp2_with fail
 go_loopw [8] (fun s8 wr => ∃ k : Nat, k ≤ l.length ∧ s8 = .int .i64 k ∧ Hid (∀ i, i < k → okO (nthO l i) = true) ∧ Below w.heap.size w wr) (fun s8 _ => l.length - (intOf s8).toNat)
 case atStart => exact ⟨0, Nat.zero_le _, rfl, (fun i hi => absurd hi (Nat.not_lt_zero _) : ∀ i, i < 0 → okO (nthO l i) = true), Below.refl _ _⟩
 case round =>
  obtain ⟨k, hk, rfl, HJ, hbw⟩ := hrel
  by_cases hkl : k < l.length
  ·have hk' : (k : Int) < (l.length : Int) := by omega
   obtain ⟨o, ho⟩ : ∃ o, nthO l k = o := ⟨_, rfl⟩
   obtain ⟨b, off, rfl, hB, x0, x1, x2⟩ := (RdO.below HR.out hbw).cells hkl ho
   have C := wrongO_any wr o
   have HRE : Hid _ := ho
   clear ho
   cases hbit : okO o with
   | false =>
    rw [hbit] at C
    have HBT : Hid _ := hbit
    clear hbit
    obtain ⟨p, q, r⟩ := o
    dsimp only [ov] at C x0 x1 x2
    go_wp2_with (go_at_call 195; refine C.mono ?_; rintro e w' ⟨rfl, hb1⟩)
    go_ret
    refine ⟨_, rfl, ?_, hbw.trans (hb1.mono hbw.size)⟩
    have : l.all okO = false := by
     rw [List.all_eq_false]
     exact ⟨_, (memO l _).2 ⟨k, hkl, HRE.out⟩, by rw [HBT.out]; decide⟩
    rw [this]
    simp
   | true =>
    rw [hbit] at C
    have HBT : Hid _ := hbit
    clear hbit
    obtain ⟨p, q, r⟩ := o
    dsimp only [ov] at C x0 x1 x2
    go_wp2_with (go_at_call 195; refine C.mono ?_; rintro e w' ⟨rfl, hb1⟩)
    go_roundw
    case rel =>
     refine ⟨k + 1, by omega, by go_num, ?_, hbw.trans (hb1.mono hbw.size)⟩
     refine (fun i hi => ?_ : ∀ i, i < k + 1 → okO (nthO l i) = true)
     by_cases e : i = k
     ·rw [e, HRE.out]; exact HBT.out
     ·exact HJ.out i (by omega)
    case measure => simp [intOf]; omega
  ·obtain rfl : k = l.length := by omega
   go_wp2
   go_ret
   refine ⟨_, rfl, ?_, hbw⟩
   have : l.all okO = true := by
    rw [List.all_eq_true]
    intro x hx
    obtain ⟨i, hi, rfl⟩ := (memO l x).1 hx
    exact HJ.out i hi
   rw [this]
   rfl
theorem contO_any (w : World) (a : Option Addr) (cp : Nat) (l : List O) (h : RdO w a l) (hl : l.length ≤ 1000) :
  Calls Tryz.prog 176 #[.slice a l.length cp, .func (.func 195) #[] #[]] w fun e w' => e = .returned (.bool (!l.all okO)) ∧ Below w.heap.size w w' := by
 have I := idxO_any w a cp l h hl
 obtain ⟨B, hB⟩ : ∃ B, l.all okO = B := ⟨_, rfl⟩
 rw [hB] at I ⊢
 clear hB h
 go_enter Tryz.func176, Tryz.ntmps176
 go_wp2_with (go_at_call 198; refine I.mono ?_; rintro e w' ⟨r, rfl, hr, hb1⟩; have HR : Hid _ := hr; clear hr I)
 go_ret
 refine ⟨?_, hb1⟩
 have e := HR.out
 simp [e, Array.getD]
set_option maxHeartbeats 1000000 in
theorem wrong_any (w : World) (r : Rl) (h : RdO w r.sa r.os) (hl : r.os.length ≤ 1000) :
  Calls Tryz.prog 170 #[rv r] w fun e w' => e = .returned (.bool (!okR r)) ∧ Below w.heap.size w w' := by
 obtain ⟨st, cl, nx, sa, sc, os⟩ := r
 dsimp only at h hl
 have e : okR ⟨st, cl, nx, sa, sc, os⟩ = (inB st 8 && (inB cl 16 && (inB nx 8 && (decide (os.length ≤ 3) && os.all okO)))) := rfl
 have hb0 : Below w.heap.size w (w.alloc (.cells #[.int .i64 st, .int .i64 cl, .int .i64 nx, .slice sa os.length sc] 86)) := (Below.refl _ w).alloc (Nat.le_refl _) _
 have C4 := contO_any (w.alloc (.cells #[.int .i64 st, .int .i64 cl, .int .i64 nx, .slice sa os.length sc] 86)) sa sc os (h.below hb0) hl
 have HB0 : Hid _ := hb0
 rw [e]
 dsimp only [rv]
 obtain ⟨u, hu⟩ : ∃ u, os.all okO = u := ⟨_, rfl⟩
 rw [hu] at C4 ⊢
 clear hu e h hb0
 cases hx : inB st 8 with
 | false =>
  go_enter Tryz.func170, Tryz.ntmps170
  go_wp2_with (go_at_call 194; refine (isb_any _ _ _).mono ?_; rintro e w' ⟨rfl, rfl⟩)
  go_ret
  exact ⟨rfl, HB0.out⟩
 | true =>
  cases hy : inB cl 16 with
  | false =>
   go_enter Tryz.func170, Tryz.ntmps170
   go_wp2_with (go_at_call 194; refine (isb_any _ _ _).mono ?_; rintro e w' ⟨rfl, rfl⟩)
   go_ret
   exact ⟨rfl, HB0.out⟩
  | true =>
   cases hz : inB nx 8 with
   | false =>
    go_enter Tryz.func170, Tryz.ntmps170
    go_wp2_with (go_at_call 194; refine (isb_any _ _ _).mono ?_; rintro e w' ⟨rfl, rfl⟩)
    go_ret
    exact ⟨rfl, HB0.out⟩
   | true =>
    by_cases h3 : (3 : Int) < (os.length : Int)
    ·rw [decide_eq_false (show ¬ os.length ≤ 3 by omega)]
     go_enter Tryz.func170, Tryz.ntmps170
     go_wp2_with (go_at_call 194; refine (isb_any _ _ _).mono ?_; rintro e w' ⟨rfl, rfl⟩)
     go_ret
     exact ⟨rfl, HB0.out⟩
    ·rw [decide_eq_true (show os.length ≤ 3 by omega)]
     go_enter Tryz.func170, Tryz.ntmps170
     go_wp2_with (first | (go_at_call 194; refine (isb_any _ _ _).mono ?_; rintro e w' ⟨rfl, rfl⟩) | (go_at_call 176; refine C4.mono ?_; rintro e w1 ⟨rfl, hb1⟩))
     go_ret
     have h4 : decide ((3 : Int) < (os.length : Int)) = false := decide_eq_false (by omega)
     exact ⟨by cases u <;> simp [h4, Array.getD], (HB0.out).trans (hb1.mono (HB0.out).size)⟩
end Go.Proofs.YtiaopafkfadmkaaGreat
namespace Go.Proofs.YtiaopafkfadmkaaGreat
open Go.RowKit Go.Shelf
set_option maxHeartbeats 1000000 in
theorem idxW_any (w : World) (a : Option Addr) (cp : Nat) (l : List Rl) (h : RdR w a l) (hl : Lt l) :
  Calls Tryz.prog 155 #[.slice a l.length cp, .func (.func 170) #[] #[]] w fun e w' => ∃ r : Int, e = .returned (.int .i64 r) ∧ decide (0 ≤ r) = !l.all okR ∧ Below w.heap.size w w' := by
 have HR : Hid (RdR w a l) := h
 have HL : Hid _ := hl.2
 have hll := hl.1
 have eg : ∀ args w, (callFunc 170 args).run Tryz.prog w = .ok (.enter 170 args) w := enters_of Tryz.func170 (by kernel_rfl) rfl
 clear h hl
 go_enter Tryz.func155, Tryz.ntmps155
 go_wp2_with fail
 go_loopw [8] (fun s8 wr => ∃ k : Nat, k ≤ l.length ∧ s8 = .int .i64 k ∧ Hid (∀ i, i < k → okR (nthR l i) = true) ∧ Below w.heap.size w wr) (fun s8 _ => l.length - (intOf s8).toNat)
 case atStart => exact ⟨0, Nat.zero_le _, rfl, (fun i hi => absurd hi (Nat.not_lt_zero _) : ∀ i, i < 0 → okR (nthR l i) = true), Below.refl _ _⟩
 case round =>
  obtain ⟨k, hk, rfl, HJ, hbw⟩ := hrel
  by_cases hkl : k < l.length
  ·have hk' : (k : Int) < (l.length : Int) := by omega
   obtain ⟨r, hr⟩ : ∃ r, nthR l k = r := ⟨_, rfl⟩
   obtain ⟨b, off, rfl, hB, x0, x1, x2, x3⟩ := (RdR.below HR.out hbw).cells hkl hr
   have C := wrong_any wr r (RdR.at (RdR.below HR.out hbw) hkl hr).2.2 (by have := HL.out r (hr ▸ nthR_mem hkl); omega)
   have HRE : Hid _ := hr
   clear hr
   cases hbit : okR r with
   | false =>
    rw [hbit] at C
    have HBT : Hid _ := hbit
    clear hbit
    obtain ⟨st, cl, nx, sa, sc, os⟩ := r
    dsimp only [rv] at C x0 x1 x2 x3
    go_wp2_with (go_at_call 170; refine C.mono ?_; rintro e w' ⟨rfl, hb1⟩)
    go_ret
    refine ⟨_, rfl, ?_, hbw.trans (hb1.mono hbw.size)⟩
    have : l.all okR = false := by
     rw [List.all_eq_false]
     exact ⟨_, (memR l _).2 ⟨k, hkl, HRE.out⟩, by rw [HBT.out]; decide⟩
    rw [this]
    simp
   | true =>
    rw [hbit] at C
    have HBT : Hid _ := hbit
    clear hbit
    obtain ⟨st, cl, nx, sa, sc, os⟩ := r
    dsimp only [rv] at C x0 x1 x2 x3
    go_wp2_with (go_at_call 170; refine C.mono ?_; rintro e w' ⟨rfl, hb1⟩)
    go_roundw
    case rel =>
     refine ⟨k + 1, by omega, by go_num, ?_, hbw.trans (hb1.mono hbw.size)⟩
     refine (fun i hi => ?_ : ∀ i, i < k + 1 → okR (nthR l i) = true)
     by_cases e : i = k
     ·rw [e, HRE.out]; exact HBT.out
     ·exact HJ.out i (by omega)
    case measure => simp [intOf]; omega
  ·obtain rfl : k = l.length := by omega
   go_wp2
   go_ret
   refine ⟨_, rfl, ?_, hbw⟩
   have : l.all okR = true := by
    rw [List.all_eq_true]
    intro x hx
    obtain ⟨i, hi, rfl⟩ := (memR l x).1 hx
    exact HJ.out i hi
   rw [this]
   rfl
theorem contW_any (w : World) (a : Option Addr) (cp : Nat) (l : List Rl) (h : RdR w a l) (hl : Lt l) :
  Calls Tryz.prog 169 #[.slice a l.length cp, .func (.func 170) #[] #[]] w fun e w' => e = .returned (.bool (!l.all okR)) ∧ Below w.heap.size w w' := by
 have I := idxW_any w a cp l h hl
 have hll := hl.1
 obtain ⟨B, hB⟩ : ∃ B, l.all okR = B := ⟨_, rfl⟩
 rw [hB] at I ⊢
 clear hB h hl
 go_enter Tryz.func169, Tryz.ntmps169
 go_wp2_with (go_at_call 155; refine I.mono ?_; rintro e w' ⟨r, rfl, hr, hb1⟩; have HR : Hid _ := hr; clear hr I)
 go_ret
 refine ⟨?_, hb1⟩
 have e := HR.out
 simp [e, Array.getD]
abbrev T := Int × Int
abbrev tv (k : T) : Value := .agg #[.int .i64 k.1, .int .i64 k.2]
def twf (k : T) : Prop := i64 k.1 ∧ i64 k.2
theorem keyedT : Maps.Keyed Tryz.prog 248 := Maps.Keyed.of_law (deep_law_laid (m := 10) (by kernel_rfl) (by omega) (of_decide_eq_true (by kernel_rfl)) (by kernel_rfl) (by kernel_rfl))
theorem prog_types : ∃ m, Tryz.prog.types.size = m + 2 := by
 have h : decide (2 ≤ Tryz.prog.types.size) = true := by kernel_rfl
 have := of_decide_eq_true h
 exact ⟨Tryz.prog.types.size - 2, by omega⟩
def klP (P : Program) (k : T) : Lit := (keyOf P 248 (tv k)).getD (.int .i64 0)
theorem keyT : Tryz.prog.keyType 248 = true := by kernel_rfl
theorem keyLitsT (d : Nat) (a b : Int) (ha : (Lit.int .i64 a).wf = true) (hb : (Lit.int .i64 b).wf = true) : (Tryz.prog.keyLits (d + 2) 248 [.int .i64 a, .int .i64 b]).isSome = true := by
 have h3 : Tryz.prog.cellsOf 248 = 2 := by kernel_rfl
 have h1 : Tryz.prog.cellsOf 3 = 1 := by kernel_rfl
 unfold Program.keyLits
 simp only [Tryz.underlying248]
 rw [if_pos (by refine ⟨by rw [h3]; rfl, by simp⟩)]
 simp [h1, Program.keyLits, Tryz.underlying3, ha, hb]
theorem kl_some {k : T} (h : twf k) : keyOf Tryz.prog 248 (tv k) = some (klP Tryz.prog k) := by
 obtain ⟨m, hm⟩ := prog_types
 have h3 : Tryz.prog.cellsOf 248 = 2 := by kernel_rfl
 have hs : (keyOf Tryz.prog 248 (tv k)).isSome = true := by
  have hl := keyLitsT (m + 1) k.1 k.2 (i64_wf h.1) (i64_wf h.2)
  unfold keyOf
  simp only [Tryz.underlying248]
  rw [if_pos (by simp [keyT, Value.formed, Tryz.underlying248, h3]), hm]
  simp only [Value.cells, Option.isSome_map]
  exact hl
 unfold klP
 obtain ⟨l, hl⟩ := Option.isSome_iff_exists.1 hs
 rw [hl]; rfl
theorem kl_inj {a b : T} (ha : twf a) (hb : twf b) (h : klP Tryz.prog a = klP Tryz.prog b) : a = b := by
 have h1 := kl_some ha
 have h2 := kl_some hb
 rw [h] at h1
 have h3 := keyedT.inj h1 h2
 obtain ⟨a1, a2⟩ := a
 obtain ⟨b1, b2⟩ := b
 simpa [tv] using h3
theorem kl_lit {k : T} (h : twf k) : WideAt.IsKeyLit (klP Tryz.prog k) := keyedT.key (kl_some h)
def SetIs (w : World) (b : Nat) (ks : List T) : Prop :=
 ∃ D : DataW Unit, w.ownsMap Tryz.prog 248 (unitElem (H := Unit)) b ks.length D ∧ ∀ k, twf k → (Maps.has D (klP Tryz.prog k) = true ↔ k ∈ ks)
theorem SetIs.made (w : World) : SetIs (w.alloc (.map #[] 0)) w.heap.size [] :=
 ⟨.map [], World.ownsMap_made _ _ _ _, fun k _ => by simp [Maps.has]⟩
theorem SetIs.below {w w' : World} {b : Nat} {ks : List T} (h : SetIs w b ks) (hb : Below w.heap.size w w') : SetIs w' b ks := by
 obtain ⟨D, ⟨es, clock, h1, h2⟩, h3⟩ := h
 exact ⟨D, ⟨es, clock, (hb.block b (Array.getElem?_eq_some_iff.1 h1).1).trans h1, h2⟩, h3⟩
theorem SetIs.look {w : World} {b : Nat} {ks : List T} (h : SetIs w b ks) {k : T} (hk : twf k) :
  (Instr.lookup 246 (.map (some b)) (tv k) true).run Tryz.prog w = .ok (.tuple #[.agg #[], .bool (decide (k ∈ ks))]) w := by
 obtain ⟨D, hown, hhas⟩ := h
 have hb : Maps.has D (klP Tryz.prog k) = decide (k ∈ ks) := by
  cases e : Maps.has D (klP Tryz.prog k)
  ·symm; rw [decide_eq_false_iff_not]; intro g; rw [(hhas k hk).2 g] at e; cases e
  ·symm; rw [decide_eq_true_iff]; exact (hhas k hk).1 e
 obtain ⟨v, ps, hrun, hv⟩ := World.ownsMap.look_ok (H := Unit) hown keyedT Tryz.underlying246 (Tryz.zeroValue249 _) (unitElem_mk (H := Unit)) (kl_some hk)
 obtain ⟨rfl, _⟩ := unitElem_inv hv
 rw [hb] at hrun
 exact hrun
theorem ownsSet_size {w : World} {b n m : Nat} {D : DataW Unit} (h : w.ownsMap Tryz.prog 248 (unitElem (H := Unit)) b n D) (hm : Maps.size D ≤ m) : w.ownsMap Tryz.prog 248 (unitElem (H := Unit)) b m D := by
 obtain ⟨es, clock, h1, h2, h3, rfl⟩ := h
 refine ⟨es, clock, h1, h2, ?_, rfl⟩
 simpa [Maps.size, length_sorted] using hm
theorem SetIs.put {w0 w : World} {b : Nat} {ks : List T} (h : SetIs w b ks) (hB : Below w0.heap.size w0 w) (hb : w0.heap.size ≤ b) (hl : ks.length ≤ 1000) {k : T} (hk : twf k) (hn : k ∉ ks) :
  ∃ W1, (Instr.mapUpdate 246 (.map (some b)) (tv k) (.agg #[])).run Tryz.prog w = .ok () W1 ∧ SetIs W1 b (ks ++ [k]) ∧ Below w0.heap.size w0 W1 := by
 obtain ⟨D, hown, hhas⟩ := h
 have t0 := hown.tidy keyedT
 obtain ⟨W1, r1, o1, m1⟩ := World.ownsMap.store (H := Unit) hown keyedT Tryz.underlying246 (by unfold maxLen; omega) (kl_some hk) (unitElem_mk (H := Unit))
 have hno : Maps.has D (klP Tryz.prog k) = false := by
  cases e : Maps.has D (klP Tryz.prog k)
  ·rfl
  ·exact absurd ((hhas _ hk).1 e) hn
 refine ⟨W1, r1, ⟨_, ownsSet_size o1 ?_, ?_⟩, hB.grown m1.grown hB.size (fun k e => by simp at e; omega)⟩
 ·rw [Maps.size_put t0, if_neg (by simp [hno])]
  have := hown.size_le
  simp; omega
 ·intro j hj
  by_cases e : j = k
  ·subst e
   rw [Maps.has_put_same t0.isMap (kl_lit hj)]
   simp
  ·rw [Maps.has_put_other (fun h => e (kl_inj hj hk h)), hhas j hj]
   simp [e]
def key (r : Rl) : T := (r.st, r.cl)
theorem nth_key (l : List Rl) (k : Nat) (h : k < l.length) : (l.map key).take (k + 1) = (l.map key).take k ++ [key (nthR l k)] := by
 rw [List.take_add_one]
 congr 1
 simp [nthR, h]
set_option maxHeartbeats 1000000 in
theorem twice_any (w : World) (a : Option Addr) (cp : Nat) (l : List Rl) (h : RdR w a l) (hl : l.length ≤ 100) :
  Calls Tryz.prog 171 #[.slice a l.length cp] w fun e w' => e = .returned (.bool (!decide (l.map key).Nodup)) ∧ Below w.heap.size w w' := by
 have HR : Hid (RdR w a l) := h
 have hmm := @run_makeMap Tryz.prog
 have HS0 : Hid _ := SetIs.made w
 have hb0 : Hid (Below w.heap.size w (w.alloc (.map #[] 0))) := (Below.refl _ w).alloc (Nat.le_refl _) _
 obtain ⟨mb, hmb⟩ : ∃ mb, w.heap.size = mb := ⟨_, rfl⟩
 have HMB : Hid _ := hmb
 clear h
 go_enter Tryz.func171, Tryz.ntmps171
 go_wp2_with fail
 clear hmb hmm
 go_loopw [12] (fun s12 wr => ∃ k : Nat, k ≤ l.length ∧ s12 = .int .i64 k ∧ Hid (SetIs wr mb ((l.map key).take k) ∧ ((l.map key).take k).Nodup) ∧ Below w.heap.size w wr) (fun s12 _ => l.length - (intOf s12).toNat)
 case atStart => exact ⟨0, Nat.zero_le _, rfl, ((by rw [← HMB.out]; exact ⟨HS0.out, List.nodup_nil⟩) : SetIs _ mb _ ∧ _), hb0.out⟩
 case round =>
  obtain ⟨k, hk, rfl, HJ, hbw⟩ := hrel
  by_cases hkl : k < l.length
  ·have hk' : (k : Int) < (l.length : Int) := by omega
   obtain ⟨r, hr⟩ : ∃ r, nthR l k = r := ⟨_, rfl⟩
   obtain ⟨b, off, rfl, hB, x0, x1, x2, x3⟩ := (RdR.below HR.out hbw).cells hkl hr
   obtain ⟨w1, w2, _⟩ := RdR.at (RdR.below HR.out hbw) hkl hr
   have HRE : Hid _ := hr
   clear hr
   obtain ⟨st, cl, nx, sa, sc, os⟩ := r
   dsimp only at x0 x1 x2 x3 w1 w2
   have hkw : twf (st, cl) := ⟨w1, w2⟩
   obtain ⟨W2, hW2⟩ : ∃ W2, W2 = (wr.alloc (.cells #[.int .i64 st, .int .i64 cl, .int .i64 nx, .slice sa os.length sc] 86)).alloc (.cells #[.int .i64 st, .int .i64 cl] 248) := ⟨_, rfl⟩
   have hb2 : Below wr.heap.size wr W2 := by rw [hW2]; exact ((Below.refl _ wr).alloc (Nat.le_refl _) _).alloc (by simp) _
   have hS2 := (HJ.out).1.below hb2
   have L := hS2.look hkw
   dsimp only [tv] at L
   by_cases hin : (st, cl) ∈ (l.map key).take k
   ·rw [decide_eq_true hin] at L
    have HIN : Hid _ := hin
    have HB2 : Hid (Below w.heap.size w W2) := hbw.trans (hb2.mono hbw.size)
    rw [hW2] at L
    clear hin hS2 hb2 hkw w1 w2
    go_wp2
    go_ret
    refine ⟨?_, hW2 ▸ ((HB2.out).alloc (HB2.out).size _)⟩
    rw [decide_eq_false (fun hnd => ?_)]
    ·rfl
    ·have h1 : (l.map key).take (k + 1) = (l.map key).take k ++ [(st, cl)] := by rw [nth_key l k hkl, HRE.out]; rfl
     have h2 : ((l.map key).take (k + 1)).Nodup := hnd.sublist (List.take_sublist _ _)
     rw [h1, List.nodup_append] at h2
     exact h2.2.2 _ HIN.out _ (by simp) rfl
   ·rw [decide_eq_false hin] at L
    have hb3 : Below W2.heap.size W2 (W2.alloc (.cells #[] 249)) := (Below.refl _ W2).alloc (Nat.le_refl _) _
    have hw3 : Below w.heap.size w (W2.alloc (.cells #[] 249)) := (hbw.trans (hb2.mono hbw.size)).trans (hb3.mono (hbw.trans (hb2.mono hbw.size)).size)
    obtain ⟨W4, r4, s4, b4⟩ := (hS2.below hb3).put hw3 (by rw [HMB.out]; exact Nat.le_refl _) (by rw [List.length_take]; omega) hkw hin
    have HN : Hid (((l.map key).take (k + 1)).Nodup ∧ SetIs W4 mb ((l.map key).take (k + 1))) := by
     have h1 : (l.map key).take (k + 1) = (l.map key).take k ++ [(st, cl)] := by rw [nth_key l k hkl, HRE.out]; rfl
     rw [h1]
     refine ⟨List.nodup_append.2 ⟨(HJ.out).2, by simp, ?_⟩, s4⟩
     intro x hx y hy
     simp at hy
     subst hy
     exact fun e => hin (e ▸ hx)
    have HB4 : Hid _ := b4
    rw [hW2] at L r4
    dsimp only [tv] at r4
    clear hin hS2 hb2 hkw w1 w2 s4 b4 hb3 hw3 hW2
    go_wp2
    go_roundw
    case rel => exact ⟨k + 1, by omega, by go_num, (⟨(HN.out).2, (HN.out).1⟩ : SetIs _ mb _ ∧ _), HB4.out⟩
    case measure => simp [intOf]; omega
  ·obtain rfl : k = l.length := by omega
   go_wp2
   go_ret
   refine ⟨?_, hbw⟩
   have h1 := (HJ.out).2
   rw [List.take_of_length_le (by simp)] at h1
   rw [decide_eq_true h1]
   rfl
end Go.Proofs.YtiaopafkfadmkaaGreat
namespace Go.Proofs.YtiaopafkfadmkaaGreat
open Go.RowKit Go.Shelf
def chkB (l : List Rl) : Bool := decide (l.length ≤ 32) && (l.all okR && decide (l.map key).Nodup)
def chkE (l : List Rl) : Int := if chkB l = true then 0 else 70
set_option maxHeartbeats 400000 in
theorem check_any (w : World) (a : Option Addr) (cp : Nat) (l : List Rl) (h : RdR w a l) (hl : Lt l) :
  Calls Tryz.prog 139 #[.slice a l.length cp] w fun e w' => e = .returned (.int .i64 (chkE l)) ∧ Below w.heap.size w w' := by
 have C := contW_any w a cp l h hl
 have hll := hl.1
 have HT : Hid (∀ W, Below w.heap.size w W → Calls Tryz.prog 171 #[.slice a l.length cp] W fun e w' => e = .returned (.bool (!decide (l.map key).Nodup)) ∧ Below W.heap.size W w') := fun W hW => twice_any W a cp l (h.below hW) (by omega)
 unfold chkE chkB
 obtain ⟨x, hx⟩ : ∃ x, l.all okR = x := ⟨_, rfl⟩
 obtain ⟨y, hy⟩ : ∃ y, decide (l.map key).Nodup = y := ⟨_, rfl⟩
 simp only [hy] at HT
 rw [hx] at C
 rw [hx, hy]
 clear hx hy h hl
 by_cases h3 : (32 : Int) < (l.length : Int)
 ·rw [decide_eq_false (show ¬ l.length ≤ 32 by omega)]
  go_enter Tryz.func139, Tryz.ntmps139
  go_wp2
  go_ret
  exact ⟨rfl, Below.refl _ _⟩
 ·rw [decide_eq_true (show l.length ≤ 32 by omega)]
  have h4 : decide ((32 : Int) < (l.length : Int)) = false := decide_eq_false (by omega)
  cases x with
  | false =>
   go_enter Tryz.func139, Tryz.ntmps139
   go_wp2_with (go_at_call 169; refine C.mono ?_; rintro e w1 ⟨rfl, hb1⟩)
   go_ret
   exact ⟨rfl, hb1⟩
  | true =>
   cases y with
   | false =>
    go_enter Tryz.func139, Tryz.ntmps139
    go_wp2_with (first | (go_at_call 169; refine C.mono ?_; rintro e w1 ⟨rfl, hb1⟩; have T1 := HT.out w1 hb1; clear C) | (go_at_call 171; refine T1.mono ?_; rintro e w2 ⟨rfl, hb2⟩; clear T1))
    go_ret
    exact ⟨rfl, hb1.trans (hb2.mono hb1.size)⟩
   | true =>
    go_enter Tryz.func139, Tryz.ntmps139
    go_wp2_with (first | (go_at_call 169; refine C.mono ?_; rintro e w1 ⟨rfl, hb1⟩; have T1 := HT.out w1 hb1; clear C) | (go_at_call 171; refine T1.mono ?_; rintro e w2 ⟨rfl, hb2⟩; clear T1))
    go_ret
    exact ⟨rfl, hb1.trans (hb2.mono hb1.size)⟩
end Go.Proofs.YtiaopafkfadmkaaGreat
namespace Go.Proofs.YtiaopafkfadmkaaGreat
open Go.RowKit Go.Shelf Go.Sort
structure Veil (p : Prop) : Prop where
 out : p
end Go.Proofs.YtiaopafkfadmkaaGreat
