/- Proved: a net of links as plain data; how it lies in memory. -/
import Derived.Test.YtkngokpildoljaaRng
namespace Go.Proofs.Ytkngokpildoljaa
open Go.RowKit Go.Shelf
set_option linter.unusedVariables false

/-- What each link has. -/
abbrev Ln := Int → Int → List It
def isF (n : Nat) (a : Int) : Bool := decide (0 ≤ a) && decide (a < (n : Int))
def isL (n : Nat) (a b : Int) : Bool := isF n a && (isF n b && (a != b))
def okI (x : It) : Bool := (decide (0 ≤ x.k) && decide (x.k ≤ 2)) && ((x.co == 0) || (x.co == 1))
def updL (L : Ln) (a b : Int) (l : List It) : Ln := fun c d => if c = a ∧ d = b then l else L c d
def noL : Ln := fun _ _ => []
def sndE (n room : Nat) (L : Ln) (a b : Int) (x : It) : Int := if isL n a b = true ∧ okI x = true then (if (L a b).length = room then 2 else 0) else 1
def sndL (n room : Nat) (L : Ln) (a b : Int) (x : It) : Ln := if sndE n room L a b x = 0 then updL L a b (L a b ++ [x]) else L
def fstB (l : List It) : Bool := decide (0 < l.length)
def rcvL (L : Ln) (a b : Int) : Ln := updL L a b (L a b).tail
def roomN (n room : Nat) (L : Ln) (a b : Int) : Int := if isL n a b = true then (room : Int) - ((L a b).length : Int) else 0
theorem updL_at (L : Ln) (a b : Int) (l : List It) : updL L a b l a b = l := by simp [updL]
theorem updL_out (L : Ln) (a b : Int) (l : List It) {c d : Int} (h : ¬ (c = a ∧ d = b)) : updL L a b l c d = L c d := by unfold updL; rw [if_neg h]
theorem updL_self (L : Ln) (a b : Int) : updL L a b (L a b) = L := by
  funext c d
  by_cases h : c = a ∧ d = b
  · obtain ⟨rfl, rfl⟩ := h; rw [updL_at]
  · rw [updL_out L a b _ h]
theorem isF_iff (n : Nat) (a : Int) : isF n a = true ↔ 0 ≤ a ∧ a < (n : Int) := by simp [isF]
theorem isL_iff (n : Nat) (a b : Int) : isL n a b = true ↔ (0 ≤ a ∧ a < (n : Int)) ∧ (0 ≤ b ∧ b < (n : Int)) ∧ a ≠ b := by
  simp [isL, isF]
theorem nthT_tail (l : List It) (j : Nat) : nthT l.tail j = nthT l (j + 1) := by
  cases l <;> simp [nthT]
theorem nthT_left (l : List It) (x : It) (j : Nat) (h : j < l.length) : nthT (l ++ [x]) j = nthT l j := by
  simp [nthT, List.getElem?_append_left h]
theorem nthT_last (l : List It) (x : It) : nthT (l ++ [x]) l.length = x := by simp [nthT]

/-! ### A ring -/
structure RgS (f : Nat → Int) (p st : Nat) (l : List It) : Prop where
  s1 : st < 16
  s2 : f (p + 128) = st
  s3 : f (p + 129) = l.length
  s4 : l.length ≤ 16
  s5 : ∀ j, j < l.length → ItAt f (p + (st + j) % 16 * 8) (nthT l j)
def Rg (f : Nat → Int) (p : Nat) (l : List It) : Prop := ∃ st, RgS f p st l
theorem RgS.other {f g : Nat → Int} {p st : Nat} {l : List It} (h : RgS f p st l) (e : ∀ i, p ≤ i → i < p + 130 → g i = f i) : RgS g p st l where
  s1 := h.s1
  s2 := (e _ (by omega) (by omega)).trans h.s2
  s3 := (e _ (by omega) (by omega)).trans h.s3
  s4 := h.s4
  s5 := fun j hj => (h.s5 j hj).keep (fun i hi => e _ (by omega) (by omega))
theorem RgS.put {f : Nat → Int} {p st : Nat} {l : List It} (h : RgS f p st l) (hl : l.length < 16) (x : It) : RgS (upF (put8 f (p + (st + l.length) % 16 * 8) x) (p + 129) ((l.length : Int) + 1)) p st (l ++ [x]) where
  s1 := h.s1
  s2 := by
    have := h.s2
    rw [show upF (put8 f (p + (st + l.length) % 16 * 8) x) (p + 129) ((l.length : Int) + 1) (p + 128) = put8 f (p + (st + l.length) % 16 * 8) x (p + 128) by simp [upF], put8_out _ _ _ _ (by omega), this]
  s3 := by simp [upF]
  s4 := by simp; omega
  s5 := fun j hj => by
    have hs := h.s1
    simp at hj
    by_cases e : j = l.length
    · subst e
      rw [nthT_last]
      refine (put8_at f (p + (st + l.length) % 16 * 8) x).keep (fun i hi => ?_)
      have : p + (st + l.length) % 16 * 8 + i ≠ p + 129 := by omega
      simp [upF, this]
    · rw [nthT_left l x j (by omega)]
      refine (h.s5 j (by omega)).keep (fun i hi => ?_)
      have : p + (st + j) % 16 * 8 + i ≠ p + 129 := by omega
      rw [show upF (put8 f (p + (st + l.length) % 16 * 8) x) (p + 129) ((l.length : Int) + 1) (p + (st + j) % 16 * 8 + i) = put8 f (p + (st + l.length) % 16 * 8) x (p + (st + j) % 16 * 8 + i) by simp [upF, this]]
      have hne : (st + j) % 16 ≠ (st + l.length) % 16 := by omega
      exact put8_out _ _ _ _ (by omega)
theorem RgS.drop {f : Nat → Int} {p st : Nat} {l : List It} (h : RgS f p st l) (hl : 1 ≤ l.length) : RgS (upF (upF (put8 f (p + st * 8) it0) (p + 128) (((st + 1) % 16 : Nat) : Int)) (p + 129) ((l.length : Int) - 1)) p ((st + 1) % 16) l.tail where
  s1 := by omega
  s2 := by simp [upF]
  s3 := by simp [upF]; omega
  s4 := by have := h.s4; simp; omega
  s5 := fun j hj => by
    have hs := h.s1
    have h4 := h.s4
    simp at hj
    rw [nthT_tail]
    have e : ((st + 1) % 16 + j) % 16 = (st + (j + 1)) % 16 := by omega
    rw [e]
    refine (h.s5 (j + 1) (by omega)).keep (fun i hi => ?_)
    have h1 : p + (st + (j + 1)) % 16 * 8 + i ≠ p + 129 := by omega
    have h2 : p + (st + (j + 1)) % 16 * 8 + i ≠ p + 128 := by omega
    rw [show upF (upF (put8 f (p + st * 8) it0) (p + 128) (((st + 1) % 16 : Nat) : Int)) (p + 129) ((l.length : Int) - 1) (p + (st + (j + 1)) % 16 * 8 + i) = put8 f (p + st * 8) it0 (p + (st + (j + 1)) % 16 * 8 + i) by simp [upF, h1, h2]]
    have hne : (st + (j + 1)) % 16 ≠ st := by omega
    exact put8_out _ _ _ _ (by omega)

/-! ### A net -/
/-- n federates, room for so many, links as they may be. -/
structure OKL (n room : Nat) (L : Ln) : Prop where
  n1 : 1 ≤ n
  n8 : n ≤ 8
  r1 : 1 ≤ room
  r16 : room ≤ 16
  len : ∀ a b, (L a b).length ≤ room
  no : ∀ a b, isL n a b = false → L a b = []
structure NtF (n room : Nat) (L : Ln) (B : Nat) (w : World) (f : Nat → Int) : Prop where
  blk : Blk w B f
  f0 : f 0 = n
  f1 : f 1 = room
  rg : ∀ a b : Nat, a < 8 → b < 8 → Rg f (2 + a * 1040 + b * 130) (L a b)
  ok : OKL n room L
def Nt (n room : Nat) (L : Ln) (B : Nat) (w : World) : Prop := ∃ f, NtF n room L B w f
theorem Nt.ok {n room : Nat} {L : Ln} {B : Nat} {w : World} (h : Nt n room L B w) : OKL n room L := by
  obtain ⟨f, h⟩ := h; exact h.ok
theorem Nt.lt {n room : Nat} {L : Ln} {B : Nat} {w : World} (h : Nt n room L B w) : B < w.heap.size := by
  obtain ⟨f, h⟩ := h; exact h.blk.lt
theorem Nt.keep {S : Nat → Prop} {n room : Nat} {L : Ln} {B : Nat} {w w' : World} (h : Nt n room L B w) (hf : Fr S w w') (hn : ¬ S B) : Nt n room L B w' := by
  obtain ⟨f, h⟩ := h
  exact ⟨f, h.blk.keep hf hn, h.f0, h.f1, h.rg, h.ok⟩
theorem Nt.below {n room : Nat} {L : Ln} {B : Nat} {w w' : World} (h : Nt n room L B w) (hb : Below w.heap.size w w') : Nt n room L B w' := h.keep (Fr.of_below (S := fun _ => False) hb) (fun g => g)
theorem OKL.nil {n room : Nat} (h1 : 1 ≤ n) (h2 : n ≤ 8) (h3 : 1 ≤ room) (h4 : room ≤ 16) : OKL n room noL := ⟨h1, h2, h3, h4, fun _ _ => by simp [noL], fun _ _ _ => rfl⟩
theorem OKL.upd {n room : Nat} {L : Ln} (h : OKL n room L) {a b : Int} (hl : isL n a b = true) {l : List It} (hr : l.length ≤ room) : OKL n room (updL L a b l) where
  n1 := h.n1
  n8 := h.n8
  r1 := h.r1
  r16 := h.r16
  len := fun c d => by
    by_cases e : c = a ∧ d = b
    · obtain ⟨rfl, rfl⟩ := e; rw [updL_at]; exact hr
    · rw [updL_out _ _ _ _ e]; exact h.len c d
  no := fun c d hc => by
    by_cases e : c = a ∧ d = b
    · obtain ⟨rfl, rfl⟩ := e; rw [hl] at hc; cases hc
    · rw [updL_out _ _ _ _ e]; exact h.no c d hc
theorem far (a b c d : Nat) (ha : a < 8) (hb : b < 8) (hc : c < 8) (hd : d < 8) (h : ¬ (c = a ∧ d = b)) (i : Nat) (h1 : 2 + c * 1040 + d * 130 ≤ i) (h2 : i < 2 + c * 1040 + d * 130 + 130) : i < 2 + a * 1040 + b * 130 ∨ 2 + a * 1040 + b * 130 + 130 ≤ i := by omega
/-- One ring is another one. -/
theorem NtF.ring {n room : Nat} {L : Ln} {B : Nat} {w w' : World} {f g : Nat → Int} (h : NtF n room L B w f) {a b : Nat} (ha : a < 8) (hb : b < 8) (hl : isL n a b = true) {l : List It} (hr : l.length ≤ room) (hB : Blk w' B g)
    (ho : ∀ i, i < 2 + a * 1040 + b * 130 ∨ 2 + a * 1040 + b * 130 + 130 ≤ i → g i = f i) (hg : Rg g (2 + a * 1040 + b * 130) l) : Nt n room (updL L a b l) B w' := by
  refine ⟨g, hB, (ho 0 (by omega)).trans h.f0, (ho 1 (by omega)).trans h.f1, fun c d hc hd => ?_, h.ok.upd hl hr⟩
  by_cases e : c = a ∧ d = b
  · obtain ⟨rfl, rfl⟩ := e
    rw [updL_at]; exact hg
  · rw [updL_out _ _ _ _ (by omega)]
    obtain ⟨st, hst⟩ := h.rg c d hc hd
    exact ⟨st, hst.other (fun i h1 h2 => ho i (far a b c d ha hb hc hd e i h1 h2))⟩
theorem upF_out (f : Nat → Int) (i : Nat) (v : Int) (j : Nat) (h : j ≠ i) : upF f i v j = f j := by simp [upF, h]
end Go.Proofs.Ytkngokpildoljaa
