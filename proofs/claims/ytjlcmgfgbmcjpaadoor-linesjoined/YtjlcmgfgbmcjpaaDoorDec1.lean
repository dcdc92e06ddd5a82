/- Proved: what lines.readField tells of any text: the field, or ErrForm. -/
import Derived.Test.YtjlcmgfgbmcjpaaDoorDec0
import Derived.Lib.Split
import Derived.Lib.SplitLaws
namespace Go.Proofs.YtjlcmgfgbmcjpaaDoor
open Go.RowKit
set_option linter.unusedVariables false

/-- An error of api.Errno's, the number 20: ErrForm. -/
def formErr : Value := .iface 24 (.int .i64 20)
/-- What readField tells. -/
def fieldOf (s : List UInt8) : Value := match decField s with
  | some f => .tuple #[.string ⟨f.toArray⟩, .nilIface]
  | none => .tuple #[.string ⟨#[]⟩, .iface 24 (.int .i64 20)]

theorem drop_data (s : ByteArray) (n : Nat) : (s.extract n s.size).data.toList = s.data.toList.drop n := Lib.extract_to_end s n

theorem size_drop (S : ByteArray) (n : Nat) : (S.extract n S.size).size = S.size - n := by simp
theorem len_size (S : ByteArray) : S.data.toList.length = S.size := by simp
theorem full_of {S : ByteArray} (h : 0 < S.size) : S.toList.isEmpty = false := by
  rw [ByteArray.toList_eq, Bool.eq_false_iff]
  intro e
  have := len_size S
  rw [List.isEmpty_iff.1 e] at this
  simp at this; omega
theorem empty_of {S : ByteArray} (h : ¬ 0 < S.size) : S.toList.isEmpty = true := by
  rw [ByteArray.toList_eq]
  have := len_size S
  exact List.isEmpty_iff.2 (List.length_eq_zero_iff.1 (by omega))
theorem nil_of {S : ByteArray} (h : ¬ 0 < S.size) : S.data.toList = [] := by
  have := len_size S
  exact List.length_eq_zero_iff.1 (by omega)

set_option maxRecDepth 100000 in
set_option maxHeartbeats 1000000 in
theorem readField_any (s : ByteArray) (w : World) (hs : s.size ≤ 1099511627776) :
    Calls Tryd.prog 56 #[.string s] w fun e w' => e = .returned (fieldOf s.data.toList) ∧ Below w.heap.size w w' := by
  go_enter Tryd.func56, Tryd.ntmps56
  go_wp2
  go_loopw [0] (fun c wr => ∃ (S : ByteArray) (acc : List UInt8), c = .string S ∧ Hid (IsB w.heap.size w.heap.size acc wr ∧ Below w.heap.size w wr ∧ decField s.data.toList = (decField S.data.toList).map (acc ++ ·) ∧ acc.length + S.size ≤ s.size)) (fun c _ => match c with | .string S => S.size | _ => 0)
  case atStart => exact ⟨s, [], rfl, fresh w, (Below.refl _ _).alloc (Nat.le_refl _) _, by simp, by simp⟩
  case round =>
    obtain ⟨S, acc, rfl, hh⟩ := hrel
    have hBr : w.heap.size ≤ wr.heap.size := hh.out.2.1.size
    have hlen := hh.out.2.2.2
    by_cases h0 : 0 < S.size
    · have hne : S.data.toList ≠ [] := by
        intro e
        have := len_size S
        rw [e] at this
        simp at this; omega
      have hS := full_of h0
      have hd := rb_dec S.data.toList hne
      obtain ⟨c, n, hcn⟩ : ∃ c n, rb S.data.toList = (c, n) := ⟨_, _, rfl⟩
      have hcall := readByte_any S
      rw [hcn] at hd hcall
      simp only at hd hcall
      rcases hd with ⟨hn0, hnone⟩ | ⟨hn0, hnl, hsome⟩
      · subst hn0
        have HE : Hid (fieldOf s.data.toList = .tuple #[.string ⟨#[]⟩, .iface 24 (.int .i64 20)]) := by
          show _ = _
          rw [fieldOf, hh.out.2.2.1, hnone]; rfl
        clear hnone
        go_wp2_with (go_at_call 78; refine (hcall _ h0).mono ?_; rintro e w1 ⟨rfl, rfl⟩)
        go_ret2
        exact ⟨by rw [HE.out]; rfl, hh.out.2.1⟩
      · have HS := hide hsome
        clear hsome
        have hnl' : n ≤ S.size := by simpa using hnl
        have hn0' : ¬ ((n : Int) = 0) := by omega
        go_wp2_with (first | (go_at_call 78; refine (hcall _ h0).mono ?_; rintro e w1 ⟨rfl, rfl⟩) | (go_at_call 36; refine (wByte w.heap.size w.heap.size acc c _ hh.out.1 (by omega) hBr).mono ?_; rintro e w1 ⟨rfl, hk1⟩; have HK := hide hk1; clear hk1))
        go_roundw
        case rel =>
          refine ⟨_, acc ++ [c], rfl, HK.out.1, hh.out.2.1.trans HK.out.2, ?_, ?_⟩
          · rw [drop_data, hh.out.2.2.1, HS.out]
            cases decField (S.data.toList.drop n) <;> simp
          · have := size_drop S n
            rw [List.length_append]; simp only [List.length_cons, List.length_nil]; omega
        case measure =>
          have := size_drop S n
          show (S.extract n S.size).size < S.size
          omega
    · have hS := empty_of h0
      have hE : fieldOf s.data.toList = .tuple #[.string ⟨acc.toArray⟩, .nilIface] := by
        rw [fieldOf, hh.out.2.2.1, nil_of h0, decField_nil]; simp
      have HE := hide hE
      clear hE
      go_wp2_with (go_at_call 26; refine (bText w.heap.size w.heap.size _ _ hh.out.1 hBr).mono ?_; rintro e w1 ⟨rfl, hk1⟩; have HK := hide hk1; clear hk1)
      go_ret2
      exact ⟨by rw [HE.out]; rfl, hh.out.2.1.trans HK.out⟩

/-- The package-level variable internal/bytealg.MaxLen holds some number. -/
def MaxAt (w : World) : Prop := ∃ m, w.cell? ⟨4, 0, none⟩ = some (.int .i64 m)
theorem MaxAt.lt {w : World} (h : MaxAt w) : 4 < w.heap.size := by
  obtain ⟨m, hm⟩ := h
  rcases Nat.lt_or_ge 4 w.heap.size with h | h
  · exact h
  · simp [World.cell?, Array.getElem?_eq_none h] at hm
theorem MaxAt.keep {B : Nat} {w w' : World} (h : MaxAt w) (hB : 4 < B) (hb : Below B w w') : MaxAt w' := by
  obtain ⟨m, hm⟩ := h
  exact ⟨m, (hb.cell (p := ⟨4, 0, none⟩) hB).trans hm⟩

/-- The texts of a line, cut at its commas, as the library hands them on. -/
def cuts (s : ByteArray) : List ByteArray := Lib.splitB ⟨#[44]⟩ 0 (Lib.countB s ⟨#[44]⟩) s
theorem cuts_letters (s : ByteArray) : (cuts s).map (·.data.toList) = pieces s.data.toList := by
  rw [cuts, Lib.splitB_data]
  exact split_pieces _ s.data.toList (Nat.le_refl _)
theorem cuts_length (s : ByteArray) : (cuts s).length = Lib.countB s ⟨#[44]⟩ + 1 := Lib.splitB_all ⟨#[44]⟩ (by decide) 0 _ s rfl
theorem pieces_len (l : List UInt8) : (pieces l).length ≤ l.length + 1 ∧ ∀ p ∈ pieces l, p.length ≤ l.length := by
  induction l with
  | nil => simp [pieces]
  | cons c r ih =>
    rw [pieces]
    split
    · refine ⟨by simp; exact ih.1, fun p hp => ?_⟩
      rcases List.mem_cons.1 hp with rfl | hp
      · simp
      · have := ih.2 p hp; simp; omega
    · cases hr : pieces r with
      | nil => exact absurd hr (pieces_ne r)
      | cons q qs =>
        rw [hr] at ih
        refine ⟨by have := ih.1; simp at this ⊢; omega, fun p hp => ?_⟩
        rcases List.mem_cons.1 hp with rfl | hp
        · have := ih.2 q (by simp); simp; omega
        · have := ih.2 p (by simp [hp]); simp; omega
theorem cuts_size (s : ByteArray) (i : Nat) (h : i < (cuts s).length) : (cuts s)[i].size ≤ s.size := by
  have h2 := (pieces_len s.data.toList).2 ((cuts s)[i].data.toList) (by
    rw [← cuts_letters]
    exact List.mem_map.2 ⟨_, List.getElem_mem h, rfl⟩)
  rw [len_size, len_size] at h2
  exact h2
theorem cuts_count (s : ByteArray) : (cuts s).length ≤ s.size + 1 := by
  have h2 := (pieces_len s.data.toList).1
  rw [← cuts_letters, List.length_map, len_size] at h2
  exact h2

/-- The field of one piece; nothing, if it is none. -/
def fieldB (s : ByteArray) : ByteArray := ⟨((decField s.data.toList).getD []).toArray⟩
theorem mapM_all (l : List (List UInt8)) : (∀ x ∈ l, (decField x).isSome = true) → l.mapM decField = some (l.map fun x => (decField x).getD []) := by
  induction l with
  | nil => intro _; rfl
  | cons x r ih =>
    intro h
    obtain ⟨f, hf⟩ := Option.isSome_iff_exists.1 (h x (by simp))
    rw [List.mapM_cons, ih (fun y hy => h y (by simp [hy])), hf]
    simp [hf]
theorem mapM_bad (l : List (List UInt8)) (x : List UInt8) (hx : x ∈ l) (h : decField x = none) : l.mapM decField = none := by
  induction l with
  | nil => cases hx
  | cons y r ih =>
    rw [List.mapM_cons]
    rcases List.mem_cons.1 hx with rfl | hx
    · rw [h]; rfl
    · rw [ih hx]
      cases decField y <;> rfl
end Go.Proofs.YtjlcmgfgbmcjpaaDoor
