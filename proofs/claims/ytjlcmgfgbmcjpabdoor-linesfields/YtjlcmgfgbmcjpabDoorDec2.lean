/- Proved: what lines.readRow tells of any line: its fields, or ErrForm. -/
import Derived.Test.YtjlcmgfgbmcjpabDoorDec1
import Derived.Test.YtjlcmgfgbmcjpabDoorOwn
namespace Go.Proofs.YtjlcmgfgbmcjpabDoor
open Go.RowKit
set_option linter.unusedVariables false

theorem split_any (s : ByteArray) (w : World) (hs : s.size ≤ 1073741824) (hm : MaxAt w) :
    Calls Tryd.prog 26 #[.string s, .string ⟨#[44]⟩] w fun e w' => e = .returned (.slice (some ⟨w.heap.size, 0, none⟩) (cuts s).length (cuts s).length) ∧ w' = w.alloc (.cells ((cuts s).map Value.string).toArray 9) := by
  obtain ⟨m, hm⟩ := hm
  rw [cuts_length]
  exact Tryd.strings_Split s ⟨#[44]⟩ m w (by omega) hm (by decide)

/-- How the line's array stands when k pieces are read. -/
def Half (s : ByteArray) (w wr : World) (k : Nat) : Prop :=
  Below w.heap.size w wr ∧ w.heap.size < wr.heap.size ∧
  (∀ j (h : j < (cuts s).length), wr.cell? ⟨w.heap.size, j, none⟩ = some (.string (if j < k then fieldB (cuts s)[j] else (cuts s)[j])) ∧ wr.frozen? ⟨w.heap.size, j, none⟩ = false) ∧
  (∀ j (h : j < (cuts s).length), j < k → (decField (cuts s)[j].data.toList).isSome = true) ∧
  ∃ xs, wr.ownsRow w.heap.size 9 1 (.slice (some ⟨w.heap.size, 0, none⟩) (cuts s).length (cuts s).length) (cuts s).length xs
theorem half_zero (s : ByteArray) (w : World) (hs : s.size ≤ 1073741824) : Half s w (w.alloc (.cells ((cuts s).map Value.string).toArray 9)) 0 := by
  refine ⟨(Below.refl _ _).alloc (Nat.le_refl _) _, by simp, fun j h => ⟨?_, ?_⟩, fun j _ h => absurd h (Nat.not_lt_zero _), ?_⟩
  · rw [World.cell?_alloc_at _ _ _ _ rfl]
    simp [List.getElem?_eq_getElem h]
  · exact World.frozen?_alloc_at _ _ _ _ rfl
  · have hc := cuts_count s
    exact ⟨_, World.ownsRow_lit w _ _ (Nat.le_refl _) (by unfold maxLen; omega) (by simp)⟩
theorem half_next {s : ByteArray} {w wr w1 : World} {k : Nat} {f : List UInt8} (h : Half s w wr k) (hk : k < (cuts s).length) (hb : Below wr.heap.size wr w1) (hd : decField (cuts s)[k].data.toList = some f) :
    Half s w (w1.setCell ⟨w.heap.size, k, none⟩ (.string ⟨f.toArray⟩)) (k + 1) := by
  obtain ⟨h1, h2, h3, h4, xs, h5⟩ := h
  refine ⟨(h1.trans (hb.mono (Nat.le_of_lt h2))).setCell (p := ⟨w.heap.size, k, none⟩) (Nat.le_refl _) _, ?_, fun j hj => ⟨?_, ?_⟩, fun j hj hjk => ?_, _, (World.ownsRow.stored (own_kept h5 hb) k _).1⟩
  · have := hb.size
    simp [World.setCell]; omega
  · by_cases hjk : j = k
    · subst hjk
      rw [World.cell?_setCell_same (h := (hb.cell (p := ⟨w.heap.size, j, none⟩) h2).trans (h3 j hj).1), if_pos (by omega), fieldB, hd]; rfl
    · rw [World.cell?_setCell_other (h := by intro e; cases e; exact hjk rfl), (hb.cell (p := ⟨w.heap.size, j, none⟩) h2).trans (h3 j hj).1]
      by_cases hl : j < k
      · rw [if_pos hl, if_pos (by omega)]
      · rw [if_neg hl, if_neg (by omega)]
  · rw [World.frozen?_setCell, hb.frozen (p := ⟨w.heap.size, j, none⟩) h2]
    exact (h3 j hj).2
  · by_cases hl : j < k
    · exact h4 j hj hl
    · obtain rfl : j = k := by omega
      rw [hd]; rfl

/-- What readRow tells. -/
def RowTells (s : ByteArray) (w : World) (e : Ending) (w' : World) : Prop :=
  Below w.heap.size w w' ∧ ((decLine s.data.toList = none ∧ e = .returned (.tuple #[.slice none 0 0, .iface 24 (.int .i64 20)])) ∨
    ∃ FZ : List ByteArray, e = .returned (.tuple #[.slice (some ⟨w.heap.size, 0, none⟩) FZ.length FZ.length, .nilIface]) ∧ OwnS w.heap.size w' (.slice (some ⟨w.heap.size, 0, none⟩) FZ.length FZ.length) FZ ∧ decLine s.data.toList = some (letters FZ))

theorem half_end {s : ByteArray} {w wr : World} (h : Half s w wr (cuts s).length) :
    OwnS w.heap.size wr (.slice (some ⟨w.heap.size, 0, none⟩) ((cuts s).map fieldB).length ((cuts s).map fieldB).length) ((cuts s).map fieldB) ∧ decLine s.data.toList = some (letters ((cuts s).map fieldB)) := by
  obtain ⟨h1, h2, h3, h4, xs, h5⟩ := h
  refine ⟨?_, ?_⟩
  · have e : xs = ((cuts s).map fieldB).map Value.string := by
      apply List.ext_getElem?
      intro i
      by_cases hi : i < (cuts s).length
      · have := World.ownsRow.cellAt h5 i (by omega)
        rw [← this, (h3 i hi).1, if_pos hi]
        simp [List.getElem?_eq_getElem hi]
      · have hx := h5.1
        rw [List.getElem?_eq_none (by omega), List.getElem?_eq_none (by simp; omega)]
    rw [OwnS, ← e, List.length_map]
    exact h5
  · rw [decLine, ← cuts_letters, mapM_all]
    · simp [letters, fieldB]
    · intro x hx
      obtain ⟨b, hb, rfl⟩ := List.mem_map.1 hx
      obtain ⟨j, hj, rfl⟩ := List.mem_iff_getElem.1 hb
      exact h4 j hj hj

set_option maxRecDepth 100000 in
set_option maxHeartbeats 1000000 in
theorem readRow_any (s : ByteArray) (w : World) (hs : s.size ≤ 1073741824) (hm : MaxAt w) : Calls Tryd.prog 19 #[.string s] w (RowTells s w) := by
  have hcc := cuts_count s
  go_enter Tryd.func19, Tryd.ntmps19
  go_wp2_with (go_at_call 26; refine (split_any s _ hs hm).mono ?_; rintro e w' ⟨rfl, rfl⟩)
  go_loopw [13] (fun i wr => ∃ k : Nat, k ≤ (cuts s).length ∧ i = .int .i64 k ∧ Hid (Half s w wr k)) (fun i _ => (cuts s).length - (intOf i).toNat)
  case atStart => exact ⟨0, Nat.zero_le _, rfl, half_zero s w hs⟩
  case round =>
    obtain ⟨k, hk, rfl, hh⟩ := hrel
    by_cases hlt : k < (cuts s).length
    · have hc := (hh.out.2.2.1 k hlt).1
      rw [if_neg (Nat.lt_irrefl _)] at hc
      have hsz := cuts_size s k hlt
      obtain ⟨p, hp⟩ : ∃ p, p = (cuts s)[k] := ⟨_, rfl⟩
      rw [← hp] at hc hsz
      have HP := hide hp
      clear hp
      have hlt' : (k : Int) < ((cuts s).length : Int) := by omega
      cases hd : decField p.data.toList with
      | none =>
        have HF : Hid (fieldOf p.data.toList = .tuple #[.string ⟨#[]⟩, .iface 24 (.int .i64 20)]) := by
          show _ = _
          rw [fieldOf, hd]
        have hcall := readField_any p
        rw [HF.out] at hcall
        have HD := hide hd
        clear hd
        go_wp2_with (go_at_call 27; refine (hcall _ (by omega)).mono ?_; rintro e w1 ⟨rfl, hk1⟩; have HK := hide hk1; clear hk1)
        go_ret2
        refine ⟨hh.out.1.trans (HK.out.mono (Nat.le_of_lt hh.out.2.1)), .inl ⟨?_, rfl⟩⟩
        refine mapM_bad _ p.data.toList ?_ HD.out
        rw [← cuts_letters, HP.out]
        exact List.mem_map.2 ⟨_, List.getElem_mem hlt, rfl⟩
      | some f =>
        have HF : Hid (fieldOf p.data.toList = .tuple #[.string ⟨f.toArray⟩, .nilIface]) := by
          show _ = _
          rw [fieldOf, hd]
        have hcall := readField_any p
        rw [HF.out] at hcall
        have HD := hide hd
        clear hd
        go_wp2_with (go_at_call 27; refine (hcall _ (by omega)).mono ?_; rintro e w1 ⟨rfl, hk1⟩; have HK := hide hk1; have hc1 := (hk1.cell (p := ⟨w.heap.size, k, none⟩) hh.out.2.1).trans hc; have hf1 := (hk1.frozen (p := ⟨w.heap.size, k, none⟩) hh.out.2.1).trans (hh.out.2.2.1 k hlt).2; clear hk1)
        go_roundw
        case rel =>
          have hd2 := HD.out
          rw [HP.out] at hd2
          exact ⟨k + 1, by omega, by go_num, half_next hh.out hlt HK.out hd2⟩
        case measure => simp [intOf]; omega
    · obtain rfl : k = (cuts s).length := by omega
      go_wp2
      go_ret2
      have he := half_end hh.out
      refine ⟨hh.out.1, .inr ⟨_, ?_, he⟩⟩
      rw [List.length_map]; rfl
end Go.Proofs.YtjlcmgfgbmcjpabDoor
