/- Proved: times one behind the other, entries that bear them; what is settled in parts: plain facts. -/
import Derived.Test.YtgifanioeeacdaaLw0
namespace Go.Proofs.Ytgifanioeeacdaa
open Go.RowKit Go.Shelf Go.Sort
set_option linter.unusedVariables false

def nthI (l : List Int) (i : Nat) : Int := l.getD i 0
/-- A slice of small numbers that came in. -/
def InN (q : IntKind) (m : Int) (w : World) (a : Option Addr) (z : List Int) : Prop :=
  (∀ i, i < z.length → 0 ≤ nthI z i ∧ nthI z i ≤ m) ∧ (z ≠ [] → ∃ b off, a = some ⟨b, off, none⟩ ∧ b < w.heap.size ∧ ∀ i, i < z.length → w.cell? ⟨b, off + i, none⟩ = some (.int q (nthI z i)))
theorem InN.cell {q : IntKind} {m : Int} {w : World} {a : Option Addr} {z : List Int} (h : InN q m w a z) {i : Nat} (hi : i < z.length) :
    0 ≤ nthI z i ∧ nthI z i ≤ m ∧ ∃ b off, a = some ⟨b, off, none⟩ ∧ b < w.heap.size ∧ ∀ W, Below w.heap.size w W → W.cell? ⟨b, off + i, none⟩ = some (.int q (nthI z i)) := by
  obtain ⟨b, off, rfl, hB, hc⟩ := h.2 (by intro e; rw [e] at hi; simp at hi)
  exact ⟨(h.1 i hi).1, (h.1 i hi).2, b, off, rfl, hB, fun W hW => (hW.cell (p := ⟨b, off + i, none⟩) hB).trans (hc i hi)⟩
def tsum (z : List Int) : Nat → Int
  | 0 => 0
  | n + 1 => tsum z n + nthI z n
theorem tsum_le {z : List Int} (h : ∀ i, i < z.length → 0 ≤ nthI z i ∧ nthI z i ≤ 255) {i j : Nat} (hij : i ≤ j) (hj : j ≤ z.length) : tsum z i ≤ tsum z j := by
  induction j with
  | zero => obtain rfl : i = 0 := by omega
            exact Int.le_refl _
  | succ j ih =>
    rcases Nat.lt_or_ge i (j + 1) with g | g
    · have := ih (by omega) (by omega)
      have := (h j (by omega)).1
      show tsum z i ≤ tsum z j + nthI z j
      omega
    · obtain rfl : i = j + 1 := by omega
      exact Int.le_refl _
theorem tsum_bd {z : List Int} (h : ∀ i, i < z.length → 0 ≤ nthI z i ∧ nthI z i ≤ 255) {n : Nat} (hn : n ≤ z.length) : 0 ≤ tsum z n ∧ tsum z n ≤ 255 * (n : Int) := by
  induction n with
  | zero => exact ⟨Int.le_refl _, Int.le_refl _⟩
  | succ n ih =>
    have := ih (by omega)
    have := h n (by omega)
    show 0 ≤ tsum z n + nthI z n ∧ tsum z n + nthI z n ≤ 255 * ((n + 1 : Nat) : Int)
    omega
/-- The i-th entry, and the first n of them. -/
def pe (f : Nat → Int) (z : List Int) (i : Nat) : P := mkP (tsum z (i + 1)) 0 (i : Int) (f i) (i : Int)
def pls (f : Nat → Int) (z : List Int) (n : Nat) : List P := (List.range n).map (pe f z)
theorem pls_succ (f : Nat → Int) (z : List Int) (n : Nat) : pls f z (n + 1) = pls f z n ++ [pe f z n] := by unfold pls; rw [List.range_succ]; simp
theorem pls_len (f : Nat → Int) (z : List Int) (n : Nat) : (pls f z n).length = n := by simp [pls]
theorem pls_nth (f : Nat → Int) (z : List Int) {n i : Nat} (h : i < n) : nthP (pls f z n) i = pe f z i := by simp [nthP, pls, h]
theorem pe_lt {f : Nat → Int} {z : List Int} (h : ∀ i, i < z.length → 0 ≤ nthI z i ∧ nthI z i ≤ 255) {i j : Nat} (hij : i < j) (hj : j < z.length) : klt (pe f z i).m.1 (pe f z j).m.1 = true := by
  rw [klt_iff]
  show tsum z (i + 1) < tsum z (j + 1) ∨ (tsum z (i + 1) = tsum z (j + 1) ∧ ((0 : Int) < 0 ∨ ((0 : Int) = 0 ∧ (i : Int) < (j : Int))))
  have := tsum_le h (i := i + 1) (j := j + 1) (by omega) (by omega)
  omega
theorem pls_push {f : Nat → Int} {z : List Int} (h : ∀ i, i < z.length → 0 ≤ nthI z i ∧ nthI z i ≤ 255) (hz : z.length ≤ 60) {n : Nat} (hn : n < z.length) : pushE 0 (pls f z n) (pe f z n) = 0 ∧ pushL 0 (pls f z n) (pe f z n) = pls f z (n + 1) := by
  rw [pls_succ]
  refine push_ok ?_ (fun x hx => ?_) (by rw [pls_len]; omega)
  · exact (tsum_bd h (n := n + 1) (by omega)).1
  · obtain ⟨i, hi, rfl⟩ := List.mem_map.1 hx
    exact pe_lt h (List.mem_range.1 hi) hn
theorem pls_srt {f : Nat → Int} {z : List Int} (h : ∀ i, i < z.length → 0 ≤ nthI z i ∧ nthI z i ≤ 255) {n : Nat} (hn : n ≤ z.length) : SrtP (pls f z n) := by
  unfold SrtP pls
  rw [List.pairwise_map]
  refine List.Pairwise.imp_of_mem (R := fun a b => a < b) (fun {a b} ha hb hab => ?_) List.pairwise_lt_range
  exact pe_lt h hab (by have := List.mem_range.1 hb; omega)
/-- What is settled up to one time, and then up to a later one. -/
theorem gon_parts {L : List P} (hs : SrtP L) {m M : Int} (h : m ≤ M) : gonT M L = gonT m L ++ gonT M (L.filter (fun x => !low m x)) ∧ (L.filter (fun x => !low m x)).filter (fun x => !low M x) = L.filter (fun x => !low M x) := by
  obtain ⟨e1, e2⟩ := cls_cut (cls_low hs m)
  have mono : ∀ x, low m x = true → low M x = true := fun x hx => by unfold low at *; simp at *; omega
  constructor
  · unfold gonT
    have e3 : (L.filter (low m)).filter (low M) = L.filter (low m) := List.filter_eq_self.2 fun x hx => mono x (List.mem_filter.1 hx).2
    conv => lhs; rw [← List.take_append_drop (cut (low m) L) L, ← e1, ← e2]
    rw [List.filter_append, e3]
  · rw [List.filter_filter]
    apply List.filter_congr
    intro x _
    cases h1 : low m x
    · simp
    · simp [mono x h1]
theorem gon_nth {f : Nat → Int} {z : List Int} (h : ∀ i, i < z.length → 0 ≤ nthI z i ∧ nthI z i ≤ 255) {t : Int} {i : Nat} (hi : i < (gonT t (pls f z z.length)).length) : nthP (gonT t (pls f z z.length)) i = pe f z i := by
  obtain ⟨e1, e2⟩ := cls_cut (cls_low (pls_srt (f := f) h (Nat.le_refl _)) t)
  unfold gonT at *
  rw [e1] at hi ⊢
  rw [List.length_take, pls_len] at hi
  have : nthP ((pls f z z.length).take (cut (low t) (pls f z z.length))) i = nthP (pls f z z.length) i := by
    unfold nthP
    simp [show i < cut (low t) (pls f z z.length) by omega]
  rw [this, pls_nth f z (by omega)]
end Go.Proofs.Ytgifanioeeacdaa
