/- Proved: clocks as plain data, and how the program's lie in memory. -/
import Derived.Test.YtmhopjpbhdficaaTms
namespace Go.Proofs.Ytmhopjpbhdficaa
open Go.RowKit Go.Shelf
set_option linter.unusedVariables false

/-! ### Plain data: n federates, me among them; c: where each clock is; t: what was told -/
def isCl (n me : Nat) (j : Int) : Bool := decide (0 ≤ j ∧ j < n ∧ j ≠ me)
theorem isCl_iff {n me : Nat} {j : Int} : isCl n me j = true ↔ 0 ≤ j ∧ j < n ∧ j ≠ me := by simp [isCl]
theorem isCl_no {n me : Nat} {j : Int} : isCl n me j = false ↔ ¬ (0 ≤ j ∧ j < n ∧ j ≠ me) := by simp [isCl]
theorem isCl_me (n me : Nat) : isCl n me me = false := by simp [isCl]
def upC (c : Int → Int) (j t : Int) : Int → Int := fun i => if i = j then t else c i
theorem upC_at (c : Int → Int) (j t : Int) : upC c j t j = t := by simp [upC]
theorem upC_out (c : Int → Int) {i j : Int} (t : Int) (h : i ≠ j) : upC c j t i = c i := by simp [upC, h]
def hrE (n me : Nat) (c : Int → Int) (j t : Int) : Int := if isCl n me j = true ∧ okT t = true then (if t < c j then 110 else 0) else 1
def hrC (n me : Nat) (c : Int → Int) (j t : Int) : Int → Int := if hrE n me c j t = 0 then upC c j t else c
def atC (n me : Nat) (c : Int → Int) (j : Int) : Int := if isCl n me j = true then c j else -1
/-- The least of the clocks of the first k federates. -/
def bndK (me : Nat) (c : Int → Int) : Nat → Int
  | 0 => 1125899906842624
  | k + 1 => if k = me then bndK me c k else min (bndK me c k) (c k)
def bnd (n me : Nat) (c : Int → Int) : Int := bndK me c n
def prm (n me : Nat) (c : Int → Int) (first look : Int) : Int := vadd (lstI [first, bnd n me c]) look
def tlT (n me : Nat) (c : Int → Int) (t first look : Int) : Int := if prm n me c first look ≤ t then t else prm n me c first look
def tlB (n me : Nat) (c : Int → Int) (t first look : Int) : Bool := decide (t < prm n me c first look)
/-- Clocks that are times. -/
def okC (n me : Nat) (c : Int → Int) : Prop := ∀ j, isCl n me j = true → okT (c j) = true
theorem okT_lo {t : Int} (h : okT t = true) : 0 ≤ t := by unfold okT at h; simp at h; omega
theorem okT_hi {t : Int} (h : okT t = true) : t ≤ 1125899906842624 := by unfold okT at h; simp at h; omega
theorem hr0 {n me : Nat} {c : Int → Int} {j t : Int} (h : hrE n me c j t = 0) : isCl n me j = true ∧ okT t = true ∧ c j ≤ t := by
  unfold hrE at h
  split at h
  · rename_i g
    split at h
    · cases h
    · exact ⟨g.1, g.2, by omega⟩
  · cases h
theorem okC.hear {n me : Nat} {c : Int → Int} (h : okC n me c) (j t : Int) : okC n me (hrC n me c j t) := by
  unfold hrC
  split
  · rename_i g
    intro i hi
    by_cases e : i = j
    · subst e; rw [upC_at]; exact (hr0 g).2.1
    · rw [upC_out _ _ e]; exact h i hi
  · exact h
theorem bndK_lo {n me : Nat} {c : Int → Int} (h : okC n me c) : ∀ k, k ≤ n → 0 ≤ bndK me c k
  | 0, _ => by simp [bndK]
  | k + 1, hk => by
    have ih := bndK_lo h k (by omega)
    unfold bndK
    split
    · exact ih
    · rename_i g
      have := okT_lo (h k (isCl_iff.2 ⟨by omega, by omega, by omega⟩))
      omega
theorem bndK_hi (me : Nat) (c : Int → Int) : ∀ k, bndK me c k ≤ 1125899906842624
  | 0 => by simp [bndK]
  | k + 1 => by
    have ih := bndK_hi me c k
    unfold bndK
    split
    · exact ih
    · omega
theorem bnd_lo {n me : Nat} {c : Int → Int} (h : okC n me c) : 0 ≤ bnd n me c := bndK_lo h n (Nat.le_refl _)
theorem bnd_hi (n me : Nat) (c : Int → Int) : bnd n me c ≤ 1125899906842624 := bndK_hi me c n
theorem bndK_le {me : Nat} {c : Int → Int} : ∀ {k : Nat} {j : Nat}, j < k → j ≠ me → bndK me c k ≤ c j
  | k + 1, j, hj, hm => by
    unfold bndK
    by_cases e : j = k
    · subst e
      rw [if_neg hm]
      omega
    · have ih := bndK_le (c := c) (k := k) (j := j) (by omega) hm
      split
      · exact ih
      · omega
theorem bndK_is (me : Nat) (c : Int → Int) : ∀ k, bndK me c k = 1125899906842624 ∨ ∃ j : Nat, j < k ∧ j ≠ me ∧ bndK me c k = c j
  | 0 => Or.inl rfl
  | k + 1 => by
    have ih := bndK_is me c k
    unfold bndK
    split
    · rcases ih with h | ⟨j, h1, h2, h3⟩
      · exact Or.inl h
      · exact Or.inr ⟨j, by omega, h2, h3⟩
    · rename_i g
      by_cases e : bndK me c k ≤ c k
      · have : min (bndK me c k) (c k) = bndK me c k := by omega
        rw [this]
        rcases ih with h | ⟨j, h1, h2, h3⟩
        · exact Or.inl h
        · exact Or.inr ⟨j, by omega, h2, h3⟩
      · exact Or.inr ⟨k, by omega, g, by omega⟩
theorem bnd_le {n me : Nat} {c : Int → Int} {j : Int} (h : isCl n me j = true) : bnd n me c ≤ c j := by
  obtain ⟨h0, h1, h2⟩ := isCl_iff.1 h
  obtain ⟨k, rfl⟩ := Int.eq_ofNat_of_zero_le h0
  exact bndK_le (by omega) (by omega)
/-- The bound is known by what it is. -/
theorem bnd_eq {n me : Nat} {c : Int → Int} {m : Int} (h1 : ∀ j, isCl n me j = true → m ≤ c j) (h2 : m ≤ 1125899906842624) (h3 : m = 1125899906842624 ∨ ∃ j, isCl n me j = true ∧ m = c j) : bnd n me c = m := by
  have hb := bnd_hi n me c
  rcases bndK_is me c n with e | ⟨j, g1, g2, g3⟩
  · change bnd n me c = _ at e
    rcases h3 with h | ⟨j, hj, hm⟩
    · omega
    · have := bnd_le (c := c) hj; omega
  · change bnd n me c = _ at g3
    have := h1 j (isCl_iff.2 ⟨by omega, by omega, by omega⟩)
    rcases h3 with h | ⟨i, hi, hm⟩
    · omega
    · have := bnd_le (c := c) hi; omega
theorem bnd_none {n me : Nat} {c : Int → Int} (h : ∀ j, isCl n me j = false) : bnd n me c = 1125899906842624 :=
  bnd_eq (fun j hj => by rw [h j] at hj; cases hj) (Int.le_refl _) (Or.inl rfl)

/-! ### How the program's lie -/
abbrev num (i : Int) : DataW Unit := .lit (.int .i64 i)
theorem keyed3 : Maps.Keyed Try.prog 3 := Maps.int_keyed Try.underlying3
abbrev mT : TypeId := 47
theorem ownsMap_size {w : World} {b n m : Nat} {D : DataW Unit} (h : w.ownsMap Try.prog 3 (plainElem Try.prog 3) b n D) (hm : Maps.size D ≤ m) : w.ownsMap Try.prog 3 (plainElem Try.prog 3) b m D := by
  obtain ⟨es, clock, h1, h2, h3, rfl⟩ := h
  refine ⟨es, clock, h1, h2, ?_, rfl⟩
  simpa [Maps.size, length_sorted] using hm
/-- The map at block b has the clocks of those j that P tells of. -/
structure MapC (w : World) (b m : Nat) (P : Int → Bool) (c : Int → Int) (D : DataW Unit) : Prop where
  own : w.ownsMap Try.prog 3 (plainElem Try.prog 3) b m D
  has : ∀ j : Int, Maps.has D (.int .i64 j) = P j
  val : ∀ j : Int, P j = true → ∀ z, D.atKey (.int .i64 j) z = num (c j)
theorem MapC.lt {w : World} {b m : Nat} {P : Int → Bool} {c : Int → Int} {D : DataW Unit} (h : MapC w b m P c D) : b < w.heap.size := h.own.lt
theorem MapC.keep {S : Nat → Prop} {w w' : World} {b m : Nat} {P : Int → Bool} {c : Int → Int} {D : DataW Unit} (h : MapC w b m P c D) (hf : Fr S w w') (hb : ¬ S b) : MapC w' b m P c D := by
  obtain ⟨es, clock, h1, h2⟩ := h.own
  exact ⟨⟨es, clock, (hf.block b (Array.getElem?_eq_some_iff.1 h1).1 hb).trans h1, h2⟩, h.has, h.val⟩
/-- Clocks in memory: a record at block b, its map at block mb. -/
structure PC (n me : Nat) (c : Int → Int) (t : Int) (b mb : Nat) (W : World) : Prop where
  blk : W.heap[b]? = some (.cells #[.map (some mb), .int .i64 t] 49 (0, 0))
  map : ∃ D, MapC W mb 8 (isCl n me) c D
  ok : okC n me c
  tl : 0 ≤ t
  th : t ≤ 1125899906842624
  hn : n ≤ 8
theorem PC.lt {n me : Nat} {c : Int → Int} {t : Int} {b mb : Nat} {W : World} (h : PC n me c t b mb W) : b < W.heap.size := (Array.getElem?_eq_some_iff.1 h.blk).1
theorem PC.mlt {n me : Nat} {c : Int → Int} {t : Int} {b mb : Nat} {W : World} (h : PC n me c t b mb W) : mb < W.heap.size := by obtain ⟨D, hD⟩ := h.map; exact hD.lt
theorem PC.ne {n me : Nat} {c : Int → Int} {t : Int} {b mb : Nat} {W : World} (h : PC n me c t b mb W) : mb ≠ b := by
  obtain ⟨D, hD⟩ := h.map
  obtain ⟨es, clock, h1, _⟩ := hD.own
  intro e
  rw [e, h.blk] at h1
  cases h1
theorem cellB {W : World} {b : Nat} {cs : Array Value} {T : TypeId} {fz : Nat × Nat} (h : W.heap[b]? = some (.cells cs T fz)) (i : Nat) : W.cell? ⟨b, i, none⟩ = cs[i]? := by simp [World.cell?, h]
theorem PC.c0 {n me : Nat} {c : Int → Int} {t : Int} {b mb : Nat} {W : World} (h : PC n me c t b mb W) : W.cell? ⟨b, 0, none⟩ = some (.map (some mb)) := cellB h.blk 0
theorem PC.c1 {n me : Nat} {c : Int → Int} {t : Int} {b mb : Nat} {W : World} (h : PC n me c t b mb W) : W.cell? ⟨b, 1, none⟩ = some (.int .i64 t) := cellB h.blk 1
theorem PC.froz {n me : Nat} {c : Int → Int} {t : Int} {b mb : Nat} {W : World} (h : PC n me c t b mb W) (i : Nat) : W.frozen? ⟨b, i, none⟩ = false := by simp [World.frozen?, h.blk]
theorem PC.keep {S : Nat → Prop} {n me : Nat} {c : Int → Int} {t : Int} {b mb : Nat} {W W2 : World} (h : PC n me c t b mb W) (hf : Fr S W W2) (h1 : ¬ S b) (h2 : ¬ S mb) : PC n me c t b mb W2 := by
  obtain ⟨D, hD⟩ := h.map
  exact ⟨(hf.block b h.lt h1).trans h.blk, ⟨D, hD.keep hf h2⟩, h.ok, h.tl, h.th, h.hn⟩
theorem PC.below {n me : Nat} {c : Int → Int} {t : Int} {b mb : Nat} {W W2 : World} (h : PC n me c t b mb W) (hb : Below W.heap.size W W2) : PC n me c t b mb W2 :=
  h.keep (Fr.of_below (S := fun _ => False) hb) (fun g => g) (fun g => g)
theorem PC.drew {n me : Nat} {c : Int → Int} {t : Int} {b mb : Nat} {W : World} (h : PC n me c t b mb W) : PC n me c t b mb W.drew := h.keep (Fr.drew (Fr.refl (fun _ => False) W)) (fun g => g) (fun g => g)
theorem zero3 (W : World) : (zeroValue 3).run Try.prog W = .ok (.int .i64 0) W := by kernel_rfl
end Go.Proofs.Ytmhopjpbhdficaa
