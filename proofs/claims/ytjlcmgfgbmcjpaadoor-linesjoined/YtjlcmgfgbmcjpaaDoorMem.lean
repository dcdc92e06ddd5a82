/- Proved: how rows of texts lie in memory, that they stay as they are while other blocks are made, and how long their text can be. -/
import Derived.Test.YtjlcmgfgbmcjpaaDoorProg
import Derived.Test.YtjlcmgfgbmcjpaaDoorPure1
import Derived.WalkKit
import Derived.Below
namespace Go.Proofs.YtjlcmgfgbmcjpaaDoor
open Go.RowKit

/-- The value v is a slice of the texts fs, its cells in a block below B. -/
def IsStrs (B : Nat) (w : World) (v : Value) (fs : List ByteArray) : Prop :=
  ∃ a cap, v = .slice a fs.length cap ∧ (fs ≠ [] → ∃ b off, a = some ⟨b, off, none⟩ ∧ b < B ∧ ∀ i (h : i < fs.length), w.cell? ⟨b, off + i, none⟩ = some (.string fs[i]))
/-- The value v is a slice of such slices. -/
def IsRows (B : Nat) (w : World) (v : Value) (rs : List (List ByteArray)) : Prop :=
  ∃ a cap, v = .slice a rs.length cap ∧ (rs ≠ [] → ∃ b off, a = some ⟨b, off, none⟩ ∧ b < B ∧ ∀ i (h : i < rs.length), ∃ u, w.cell? ⟨b, off + i, none⟩ = some u ∧ IsStrs B w u rs[i])

theorem IsStrs.keep {B : Nat} {w w' : World} {v : Value} {fs : List ByteArray} (h : IsStrs B w v fs) (hb : Below B w w') : IsStrs B w' v fs := by
  obtain ⟨a, cap, rfl, h⟩ := h
  refine ⟨a, cap, rfl, fun hf => ?_⟩
  obtain ⟨b, off, rfl, hB, hc⟩ := h hf
  exact ⟨b, off, rfl, hB, fun i hi => (hb.cell (p := ⟨b, off + i, none⟩) hB).trans (hc i hi)⟩
theorem IsStrs.mono {B B' : Nat} {w : World} {v : Value} {fs : List ByteArray} (h : IsStrs B w v fs) (hB : B ≤ B') : IsStrs B' w v fs := by
  obtain ⟨a, cap, rfl, h⟩ := h
  refine ⟨a, cap, rfl, fun hf => ?_⟩
  obtain ⟨b, off, rfl, hb, hc⟩ := h hf
  exact ⟨b, off, rfl, Nat.lt_of_lt_of_le hb hB, hc⟩
theorem IsRows.keep {B : Nat} {w w' : World} {v : Value} {rs : List (List ByteArray)} (h : IsRows B w v rs) (hb : Below B w w') : IsRows B w' v rs := by
  obtain ⟨a, cap, rfl, h⟩ := h
  refine ⟨a, cap, rfl, fun hf => ?_⟩
  obtain ⟨b, off, rfl, hB, hc⟩ := h hf
  refine ⟨b, off, rfl, hB, fun i hi => ?_⟩
  obtain ⟨u, hu, hs⟩ := hc i hi
  exact ⟨u, (hb.cell (p := ⟨b, off + i, none⟩) hB).trans hu, hs.keep hb⟩
theorem IsRows.mono {B B' : Nat} {w : World} {v : Value} {rs : List (List ByteArray)} (h : IsRows B w v rs) (hB : B ≤ B') : IsRows B' w v rs := by
  obtain ⟨a, cap, rfl, h⟩ := h
  refine ⟨a, cap, rfl, fun hf => ?_⟩
  obtain ⟨b, off, rfl, hb, hc⟩ := h hf
  refine ⟨b, off, rfl, Nat.lt_of_lt_of_le hb hB, fun i hi => ?_⟩
  obtain ⟨u, hu, hs⟩ := hc i hi
  exact ⟨u, hu, hs.mono hB⟩

/-- The letters of texts. -/
def letters (fs : List ByteArray) : List (List UInt8) := fs.map (·.data.toList)
def lettersR (rs : List (List ByteArray)) : List (List (List UInt8)) := rs.map letters
theorem letters_take (fs : List ByteArray) (k : Nat) : letters (fs.take k) = (letters fs).take k := by simp [letters]
theorem letters_snoc (fs : List ByteArray) (k : Nat) (h : k < fs.length) : letters (fs.take (k + 1)) = letters (fs.take k) ++ [fs[k].data.toList] := by
  rw [List.take_succ_eq_append_getElem h, letters, List.map_append]; rfl
theorem lettersR_snoc (rs : List (List ByteArray)) (k : Nat) (h : k < rs.length) : lettersR (rs.take (k + 1)) = lettersR (rs.take k) ++ [letters rs[k]] := by
  rw [List.take_succ_eq_append_getElem h, lettersR, List.map_append]; rfl
theorem toList_inj {a b : ByteArray} (h : a.data.toList = b.data.toList) : a = b := by
  cases a; cases b; simp_all
theorem letters_inj {a b : List ByteArray} (h : letters a = letters b) : a = b := by
  induction a generalizing b with
  | nil => cases b with
    | nil => rfl
    | cons _ _ => simp [letters] at h
  | cons x r ih => cases b with
    | nil => simp [letters] at h
    | cons y t =>
      simp only [letters, List.map_cons, List.cons.injEq] at h
      rw [toList_inj h.1, ih h.2]
theorem lettersR_inj {a b : List (List ByteArray)} (h : lettersR a = lettersR b) : a = b := by
  induction a generalizing b with
  | nil => cases b with
    | nil => rfl
    | cons _ _ => simp [lettersR] at h
  | cons x r ih => cases b with
    | nil => simp [lettersR] at h
    | cons y t =>
      simp only [lettersR, List.map_cons, List.cons.injEq] at h
      rw [letters_inj h.1, ih h.2]

/-- How much there is in a row, in rows. -/
def rowW (fs : List ByteArray) : Nat := (fs.map fun f => f.size + 1).sum
def rowsW (rs : List (List ByteArray)) : Nat := (rs.map fun r => rowW r + 1).sum
theorem rowW_snoc (fs : List ByteArray) (k : Nat) (h : k < fs.length) : rowW (fs.take (k + 1)) = rowW (fs.take k) + (fs[k].size + 1) := by
  rw [List.take_succ_eq_append_getElem h, rowW, List.map_append, List.sum_append]; simp [rowW]
theorem rowsW_snoc (rs : List (List ByteArray)) (k : Nat) (h : k < rs.length) : rowsW (rs.take (k + 1)) = rowsW (rs.take k) + (rowW rs[k] + 1) := by
  rw [List.take_succ_eq_append_getElem h, rowsW, List.map_append, List.sum_append]; simp [rowsW]
theorem rowW_take (fs : List ByteArray) (k : Nat) : rowW (fs.take k) ≤ rowW fs := by
  have : rowW fs = rowW (fs.take k) + rowW (fs.drop k) := by
    conv => lhs; rw [← List.take_append_drop k fs, rowW, List.map_append, List.sum_append]
    rfl
  omega
theorem rowsW_take (rs : List (List ByteArray)) (k : Nat) : rowsW (rs.take k) ≤ rowsW rs := by
  have : rowsW rs = rowsW (rs.take k) + rowsW (rs.drop k) := by
    conv => lhs; rw [← List.take_append_drop k rs, rowsW, List.map_append, List.sum_append]
    rfl
  omega
theorem length_le_rowW (fs : List ByteArray) : fs.length ≤ rowW fs := by
  induction fs with
  | nil => simp [rowW]
  | cons f r ih => simp only [rowW, List.map_cons, List.sum_cons, List.length_cons] at ih ⊢; omega
theorem length_le_rowsW (rs : List (List ByteArray)) : rs.length ≤ rowsW rs := by
  induction rs with
  | nil => simp [rowsW]
  | cons f r ih => simp only [rowsW, List.map_cons, List.sum_cons, List.length_cons] at ih ⊢; omega
theorem body_len (fs : List ByteArray) : (body (letters fs)).length ≤ 3 * rowW fs := by
  induction fs with
  | nil => simp [letters, body]
  | cons f r ih =>
    have h1 := (encField_len f.data.toList).2
    have h2 : f.data.toList.length = f.size := by simp
    cases r with
    | nil => simp only [letters, List.map_cons, List.map_nil, body, rowW, List.sum_cons, List.sum_nil]; omega
    | cons g t =>
      simp only [letters, List.map_cons, body, List.length_append, List.length_cons, rowW, List.sum_cons] at ih ⊢
      omega
theorem encRows_len (rs : List (List ByteArray)) : (encRows (lettersR rs)).length ≤ 3 * rowsW rs := by
  induction rs with
  | nil => simp [lettersR, encRows]
  | cons f r ih =>
    have h1 := body_len f
    have e : lettersR (f :: r) = letters f :: lettersR r := rfl
    rw [e, encRows_cons, encRow]
    simp only [List.length_append, List.length_cons, List.length_nil, rowsW, List.map_cons, List.sum_cons] at ih ⊢
    omega
end Go.Proofs.YtjlcmgfgbmcjpaaDoor
