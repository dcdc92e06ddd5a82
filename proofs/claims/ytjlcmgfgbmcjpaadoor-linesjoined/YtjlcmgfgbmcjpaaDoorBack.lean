/- Proved: what was encoded is decoded, as the program does both. -/
import Derived.Test.YtjlcmgfgbmcjpaaDoorDec4
import Derived.Test.YtjlcmgfgbmcjpaaDoorRef2
namespace Go.Proofs.YtjlcmgfgbmcjpaaDoor
open Go.RowKit
set_option linter.unusedVariables false

theorem full_rows {rs : List (List ByteArray)} (h : bare rs = false) : ∀ x ∈ lettersR rs, x ≠ [] := by
  intro x hx e
  obtain ⟨r, hr, rfl⟩ := List.mem_map.1 hx
  have hr0 : r = [] := by
    cases r with
    | nil => rfl
    | cons a t => simp [letters] at e
  subst hr0
  have := bare_of hr
  rw [h] at this; cases this
/-- A text that is rows is decoded to just these. -/
theorem decode_rows (T : ByteArray) (rs : List (List ByteArray)) (w : World) (hd : dec 1 [] [] T.data.toList = .ok (lettersR rs)) (hs : T.size ≤ 1073741824) (hm : MaxAt w) (hg : ErrTypeAt w) :
    Calls Tryd.prog 12 #[.string T] w fun e w' => ∃ a cap, e = .returned (.tuple #[.slice a rs.length cap, .int .i64 0, .int .i64 0]) ∧ Below w.heap.size w w' ∧ IsRows w'.heap.size w' (.slice a rs.length cap) rs := by
  refine (decode_any T w hs hm hg).mono ?_
  rintro e w' ⟨hb, ⟨n, he, _⟩ | ⟨a, cap, RS, rfl, ho, he⟩⟩
  · rw [hd] at he; cases he
  · rw [hd] at he
    have : rs = RS := lettersR_inj (Except.ok.inj he)
    subst this
    exact ⟨a, cap, rfl, hb, ho⟩
theorem decode_wrong (T : ByteArray) (n : Nat) (w : World) (hd : dec 1 [] [] T.data.toList = .error n) (hs : T.size ≤ 1073741824) (hm : MaxAt w) (hg : ErrTypeAt w) :
    Calls Tryd.prog 12 #[.string T] w fun e w' => e = .returned (.tuple #[.slice none 0 0, .int .i64 n, .int .i64 20]) ∧ Below w.heap.size w w' := by
  refine (decode_any T w hs hm hg).mono ?_
  rintro e w' ⟨hb, ⟨m, he, rfl⟩ | ⟨a, cap, RS, rfl, ho, he⟩⟩
  · rw [hd] at he
    have : n = m := Except.error.inj he
    subst this
    exact ⟨rfl, hb⟩
  · rw [hd] at he; cases he
theorem text_size (rs : List (List ByteArray)) : (⟨(encRows (lettersR rs)).toArray⟩ : ByteArray).size ≤ 3 * rowsW rs := by
  rw [size_mk]; exact encRows_len rs
theorem text_letters (l : List UInt8) : (⟨l.toArray⟩ : ByteArray).data.toList = l := by simp
theorem decode_back (rs : List (List ByteArray)) (w : World) (hb : bare rs = false) (hs : rowsW rs ≤ 1048576) (hm : MaxAt w) (hg : ErrTypeAt w) :
    Calls Tryd.prog 12 #[.string ⟨(encRows (lettersR rs)).toArray⟩] w fun e w' => ∃ a cap, e = .returned (.tuple #[.slice a rs.length cap, .int .i64 0, .int .i64 0]) ∧ Below w.heap.size w w' ∧ IsRows w'.heap.size w' (.slice a rs.length cap) rs := by
  refine decode_rows _ rs w ?_ ?_ hm hg
  · rw [text_letters]; exact dec_enc _ (full_rows hb)
  · have := text_size rs; omega
end Go.Proofs.YtjlcmgfgbmcjpaaDoor
