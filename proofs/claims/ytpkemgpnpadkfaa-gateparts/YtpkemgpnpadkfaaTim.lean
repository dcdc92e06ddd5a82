/- Proved: times that came in, messages that are held of causes at these times: plain facts. -/
import Derived.Test.YtpkemgpnpadkfaaLw0
namespace Go.Proofs.Ytpkemgpnpadkfaa
open Go.RowKit Go.Shelf Go.Sort
set_option linter.unusedVariables false

def nthI (l : List Int) (i : Nat) : Int := l.getD i 0
/-- A slice of small numbers that came in. -/
def InN (q : IntKind) (m : Int) (w : World) (a : Option Addr) (z : List Int) : Prop :=
  (∀ i, i < z.length → 0 ≤ nthI z i ∧ nthI z i ≤ m) ∧ (z ≠ [] → ∃ b off, a = some ⟨b, off, none⟩ ∧ b < w.heap.size ∧ ∀ i, i < z.length → w.cell? ⟨b, off + i, none⟩ = some (.int q (nthI z i)))
theorem InN.cell {q : IntKind} {m : Int} {w : World} {a : Option Addr} {z : List Int} (h : InN q m w a z) {i : Nat} (hi : i < z.length) :
    0 ≤ nthI z i ∧ nthI z i ≤ m ∧ ∃ b off, a = some ⟨b, off, none⟩ ∧ b < w.heap.size ∧ ∀ W, Below w.heap.size w W → W.cell? ⟨b, off + i, none⟩ = some (.int q (nthI z i)) := by
  obtain ⟨b, off, rfl, hB, hc⟩ := h.2 (by intro e; rw [e] at hi; simp at hi)
  exact ⟨(h.1 i hi).1, (h.1 i hi).2, b, off, rfl, hB, fun W hW => (hW.cell (p := ⟨b, off + i, none⟩) hB).trans (hc i hi)⟩
/-- The j-th that is held, and the first n of them. -/
def gh (f : Nat → M) (z : List Int) (j : Nat) : H := ((nthI z j, 0, 0), f j)
def gls (f : Nat → M) (z : List Int) (n : Nat) : List H := (List.range n).map (gh f z)
theorem gls_succ (f : Nat → M) (z : List Int) (n : Nat) : gls f z (n + 1) = gls f z n ++ [gh f z n] := by unfold gls; rw [List.range_succ]; simp
theorem gls_len (f : Nat → M) (z : List Int) (n : Nat) : (gls f z n).length = n := by simp [gls]
theorem gls_hold {f : Nat → M} {z : List Int} {n : Nat} (h : 0 ≤ nthI z n) (hn : n < 256) : holdE 0 (gls f z n) (gh f z n) = 0 ∧ holdL 0 (gls f z n) (gh f z n) = gls f z (n + 1) := by
  rw [gls_succ]
  exact hold_ok h (by rw [gls_len]; exact hn)
/-- Those of them whose times meet p. -/
def ixs (p : Int → Bool) (z : List Int) (n : Nat) : List Nat := (List.range n).filter (fun j => p (nthI z j))
theorem ixs_succ (p : Int → Bool) (z : List Int) (n : Nat) : (ixs p z (n + 1)).length = (ixs p z n).length + if p (nthI z n) = true then 1 else 0 := by
  unfold ixs
  rw [List.range_succ, List.filter_append, List.length_append]
  congr 1
  cases h : p (nthI z n) <;> simp [h]
theorem ixs_le (p : Int → Bool) (z : List Int) (n : Nat) : (ixs p z n).length ≤ n := by
  have := List.length_filter_le (fun j => p (nthI z j)) (List.range n)
  simpa [ixs] using this
theorem ixs_not (p : Int → Bool) (z : List Int) (n : Nat) : (ixs p z n).length + (ixs (fun t => !p t) z n).length = n := by
  induction n with
  | zero => rfl
  | succ n ih =>
    rw [ixs_succ, ixs_succ]
    cases h : p (nthI z n) <;> simp <;> omega
theorem mem_ixs {p : Int → Bool} {z : List Int} {n j : Nat} (h : j ∈ ixs p z n) : j < n ∧ p (nthI z j) = true := by
  unfold ixs at h
  rw [List.mem_filter, List.mem_range] at h
  exact h
theorem gls_filter {q : H → Bool} {p : Int → Bool} (f : Nat → M) (z : List Int) (n : Nat) (h : ∀ j, q (gh f z j) = p (nthI z j)) : (gls f z n).filter q = (ixs p z n).map (gh f z) := by
  unfold gls ixs
  rw [List.filter_map]
  congr 1
  apply List.filter_congr
  intro j _
  exact h j
theorem bef_gh (f : Nat → M) (z : List Int) (a : Int) (j : Nat) : befK (a, 0, 0) (gh f z j) = decide (nthI z j < a) := by
  unfold befK gh
  rw [Bool.eq_iff_iff, klt_iff, decide_eq_true_iff]
  dsimp only
  omega
theorem low_gh (f : Nat → M) (z : List Int) (a : Int) (j : Nat) : low a (gh f z j) = decide (nthI z j < a) := rfl
end Go.Proofs.Ytpkemgpnpadkfaa
