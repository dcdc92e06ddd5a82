/- Proved: what both Decodes tell of a text that is rows, and of one that is none. -/
import Derived.Test.YtjlcmgfgbmcjpaaDoorRef4
import Derived.Test.YtjlcmgfgbmcjpaaDoorBack
namespace Go.Proofs.YtjlcmgfgbmcjpaaDoor
open Go.RowKit
set_option linter.unusedVariables false

theorem refDecode_rows (T : ByteArray) (rs : List (List ByteArray)) (w : World) (hd : dec 1 [] [] T.data.toList = .ok (lettersR rs)) (hs : T.size ≤ 2048) :
    Calls Tryd.prog 14 #[.string T] w fun e w' => ∃ a cap, e = .returned (.tuple #[.slice a rs.length cap, .int .i64 0, .int .i64 0]) ∧ Below w.heap.size w w' ∧ IsRows w'.heap.size w' (.slice a rs.length cap) rs := by
  refine (refDecode_any T w hs).mono ?_
  rintro e w' ⟨hb, ⟨n, he, _⟩ | ⟨a, cap, RS, rfl, ho, he⟩⟩
  · rw [hd] at he; cases he
  · rw [hd] at he
    have : rs = RS := lettersR_inj (Except.ok.inj he)
    subst this
    exact ⟨a, cap, rfl, hb, ho⟩
theorem refDecode_wrong (T : ByteArray) (n : Nat) (w : World) (hd : dec 1 [] [] T.data.toList = .error n) (hs : T.size ≤ 2048) :
    Calls Tryd.prog 14 #[.string T] w fun e w' => e = .returned (.tuple #[.slice none 0 0, .int .i64 n, .int .i64 20]) ∧ Below w.heap.size w w' := by
  refine (refDecode_any T w hs).mono ?_
  rintro e w' ⟨hb, ⟨m, he, rfl⟩ | ⟨a, cap, RS, rfl, ho, he⟩⟩
  · rw [hd] at he
    have : n = m := Except.error.inj he
    subst this
    exact ⟨rfl, hb⟩
  · rw [hd] at he; cases he
theorem lettersR_all (rows : List (List (List UInt8))) : ∃ rs, rows = lettersR rs := by
  refine ⟨rows.map fun r => r.map fun l => ⟨l.toArray⟩, ?_⟩
  simp [lettersR, letters, Function.comp_def]
theorem body_ge (r : List ByteArray) (h : r ≠ []) : rowW r ≤ (body (letters r)).length + 1 := by
  induction r with
  | nil => exact absurd rfl h
  | cons f t ih =>
    have h1 := (encField_len f.data.toList).1
    have h2 : f.data.toList.length = f.size := by simp
    cases t with
    | nil => simp only [letters, List.map_cons, List.map_nil, body, rowW, List.sum_cons, List.sum_nil]; omega
    | cons g u =>
      have := ih (by simp)
      simp only [letters, List.map_cons, body, List.length_append, List.length_cons, rowW, List.sum_cons] at this ⊢
      omega
theorem rows_ge (rs : List (List ByteArray)) (h : bare rs = false) : rowsW rs ≤ 2 * (encRows (lettersR rs)).length := by
  induction rs with
  | nil => simp [rowsW]
  | cons r t ih =>
    have hb : r ≠ [] ∧ bare t = false := by
      simp only [bare, List.any_cons, Bool.or_eq_false_iff] at h
      refine ⟨fun e => ?_, h.2⟩
      rw [e] at h; simp at h
    have h1 := body_ge r hb.1
    have h2 := ih hb.2
    have e : lettersR (r :: t) = letters r :: lettersR t := rfl
    rw [e, encRows_cons, encRow]
    simp only [List.length_append, List.length_cons, List.length_nil, rowsW, List.map_cons, List.sum_cons] at h2 ⊢
    omega
/-- A text that is rows is these rows' text. -/
theorem rows_text {s : ByteArray} {rs : List (List ByteArray)} (h : dec 1 [] [] s.data.toList = .ok (lettersR rs)) :
    bare rs = false ∧ (⟨(encRows (lettersR rs)).toArray⟩ : ByteArray) = s ∧ rowsW rs ≤ 2 * s.size := by
  obtain ⟨h1, h2⟩ := enc_dec 1 [] [] s.data.toList _ h
  have e1 : body (([] : List (List UInt8)) ++ [[]]) = [] := rfl
  rw [e1, List.nil_append] at h1
  have hb : bare rs = false := bare_not (fun hm => by
    have : ([] : List (List UInt8)) ∈ lettersR rs := List.mem_map.2 ⟨[], hm, rfl⟩
    exact h2 _ this rfl)
  refine ⟨hb, (of_toList h1).symm, ?_⟩
  have := rows_ge rs hb
  rw [← h1, len_size] at this
  exact this
end Go.Proofs.YtjlcmgfgbmcjpaaDoor
