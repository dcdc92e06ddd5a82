/- Proved: what lines.Encode tells of rows that lie in memory: their text, or ErrArg if a row has no field. -/
import Derived.Test.YtjlcmgfgbmcjpaaDoorEnc0
import Derived.Test.YtjlcmgfgbmcjpaaDoorMem
namespace Go.Proofs.YtjlcmgfgbmcjpaaDoor
open Go.RowKit
set_option linter.unusedVariables false

theorem row_room (fs : List ByteArray) (l : List UInt8) (k : Nat) (h : k < fs.length) (hl : l.length + 3 * rowW fs ≤ 140737488355200) :
    (l ++ body (letters (fs.take k))).length + 3 * fs[k].size + 3 ≤ 140737488355210 := by
  have h1 := body_len (fs.take k)
  have h2 := rowW_snoc fs k h
  have h3 := rowW_take fs (k + 1)
  rw [List.length_append]; omega

theorem wComma (B b : Nat) (l : List UInt8) (w : World) (h : IsB B b l w) (hlen : l.length + 1 ≤ 140737488355328) (hBw : B ≤ w.heap.size) :
    Calls Tryd.prog 36 #[.pointer (some ⟨b, 0, none⟩), .int .u8 44] w fun e w' => e = .returned .nilIface ∧ IsB B b (l ++ [44]) w' ∧ Below B w w' := wByte B b l 44 w h hlen hBw
theorem wFeed (B b : Nat) (l : List UInt8) (w : World) (h : IsB B b l w) (hlen : l.length + 1 ≤ 140737488355328) (hBw : B ≤ w.heap.size) :
    Calls Tryd.prog 36 #[.pointer (some ⟨b, 0, none⟩), .int .u8 10] w fun e w' => e = .returned .nilIface ∧ IsB B b (l ++ [10]) w' ∧ Below B w w' := wByte B b l 10 w h hlen hBw

set_option maxHeartbeats 1000000 in
theorem writeRow_any (B b : Nat) (l : List UInt8) (v : Value) (fs : List ByteArray) (w : World) (h : IsB B b l w) (hl : l.length + 3 * rowW fs ≤ 140737488355200) (hB : B ≤ w.heap.size) (hf : fs ≠ []) (hv : IsStrs B w v fs) :
    Calls Tryd.prog 25 #[.pointer (some ⟨b, 0, none⟩), v] w fun e w' => e = .returned (.tuple #[]) ∧ IsB B b (l ++ encRow (letters fs)) w' ∧ Below B w w' := by
  obtain ⟨a, cap, rfl, hv⟩ := hv
  obtain ⟨rb, off, rfl, hrb, hc⟩ := hv hf
  have HI := hide h
  have HC := hide hc
  have hbig : fs.length ≤ 140737488355200 := by have := length_le_rowW fs; omega
  clear h hv hc
  go_enter Tryd.func25, Tryd.ntmps25
  go_wp2
  go_loopw [8] (fun i wr => ∃ k : Nat, k ≤ fs.length ∧ i = .int .i64 k ∧ Hid (IsB B b (l ++ body (letters (fs.take k))) wr ∧ Below B w wr)) (fun i _ => fs.length - (intOf i).toNat)
  case atStart => exact ⟨0, Nat.zero_le _, rfl, ⟨by simpa [letters, body] using HI.out, Below.refl _ _⟩⟩
  case round =>
    obtain ⟨k, hk, rfl, hh⟩ := hrel
    have hBr : B ≤ wr.heap.size := Nat.le_trans hB hh.out.2.size
    by_cases hlt : k < fs.length
    · have hroom := row_room fs l k hlt hl
      have hcell : wr.cell? ⟨rb, off + k, none⟩ = some (.string fs[k]) := (hh.out.2.cell (p := ⟨rb, off + k, none⟩) hrb).trans (HC.out k hlt)
      obtain ⟨f, hf'⟩ : ∃ f, f = fs[k] := ⟨_, rfl⟩
      have HF := hide hf'
      rw [← hf'] at hcell hroom
      clear hf'
      by_cases h0 : k = 0
      · subst h0
        rw [Nat.add_zero] at hcell
        go_wp2_with (go_at_call 37; refine (writeField_any B b _ f _ hh.out.1 (by omega) hBr).mono ?_; rintro e w1 ⟨rfl, hk1⟩; have HK := hide hk1; clear hk1)
        go_roundw
        case rel =>
          refine ⟨1, by omega, by go_num, ?_, hh.out.2.trans HK.out.2⟩
          have := HK.out.1
          rw [HF.out] at this
          have e : letters (fs.take 1) = [fs[0].data.toList] := by rw [letters_snoc fs 0 hlt]; simp [letters]
          rw [e, body]
          simpa [letters, body] using this
        case measure => simp [intOf]; omega
      · have h0' : 0 < k := by omega
        go_wp2_with (first | (go_at_call 36; refine (wComma B b _ _ hh.out.1 (by omega) hBr).mono ?_; rintro e w1 ⟨rfl, hk1⟩; have HK1 := hide hk1; clear hk1) | (go_at_call 37; refine (writeField_any B b _ f _ HK1.out.1 (by rw [List.length_append]; simp only [List.length_cons, List.length_nil]; omega) (Nat.le_trans hBr HK1.out.2.size)).mono ?_; rintro e w2 ⟨rfl, hk2⟩; have HK2 := hide hk2; clear hk2))
        go_roundw
        case rel =>
          refine ⟨k + 1, by omega, by go_num, ?_, (hh.out.2.trans HK1.out.2).trans HK2.out.2⟩
          have := HK2.out.1
          rw [HF.out] at this
          have hne : letters (fs.take k) ≠ [] := by
            intro e
            have hl2 : (letters (fs.take k)).length = k := by simp [letters]; omega
            rw [e] at hl2
            simp at hl2; omega
          rw [letters_snoc fs k hlt, body_snoc _ _ hne]
          simpa using this
        case measure => simp [intOf]; omega
    · obtain rfl : k = fs.length := by omega
      have hroom : (l ++ body (letters (fs.take fs.length))).length + 1 ≤ 140737488355328 := by
        have h1 := body_len (fs.take fs.length)
        have h3 := rowW_take fs fs.length
        rw [List.length_append]; omega
      go_wp2_with (go_at_call 36; refine (wFeed B b _ _ hh.out.1 hroom hBr).mono ?_; rintro e w1 ⟨rfl, hk1⟩; have HK := hide hk1; clear hk1)
      go_end0
      refine ⟨rfl, ?_, hh.out.2.trans HK.out.2⟩
      have := HK.out.1
      rw [List.take_length] at this
      simpa [encRow] using this

/-- What Encode tells: the text and OK, or nothing and ErrArg. -/
def bare (rs : List (List ByteArray)) : Bool := rs.any (·.isEmpty)
def encText (rs : List (List ByteArray)) : List UInt8 := if bare rs then [] else encRows (lettersR rs)
def encErr (rs : List (List ByteArray)) : Int := if bare rs then 1 else 0
theorem bare_of {rs : List (List ByteArray)} (h : [] ∈ rs) : bare rs = true := List.any_eq_true.2 ⟨[], h, rfl⟩
theorem bare_not {rs : List (List ByteArray)} (h : [] ∉ rs) : bare rs = false := by
  rw [Bool.eq_false_iff]
  intro hb
  obtain ⟨x, hx, he⟩ := List.any_eq_true.1 hb
  exact h (by rw [List.isEmpty_iff.1 he] at hx; exact hx)
theorem encText_bare {rs : List (List ByteArray)} (h : bare rs = true) : encText rs = [] ∧ encErr rs = 1 := by simp [encText, encErr, h]
theorem encText_full {rs : List (List ByteArray)} (h : bare rs = false) : encText rs = encRows (lettersR rs) ∧ encErr rs = 0 := by simp [encText, encErr, h]

set_option maxHeartbeats 1000000 in
theorem encode_any (v : Value) (rs : List (List ByteArray)) (w : World) (hl : rowsW rs ≤ 1099511627776) (hv : IsRows w.heap.size w v rs) :
    Calls Tryd.prog 10 #[v] w fun e w' => e = .returned (.tuple #[.string ⟨(encText rs).toArray⟩, .int .i64 (encErr rs)]) ∧ Below w.heap.size w w' := by
  obtain ⟨a, cap, rfl, hv⟩ := hv
  have hlen := length_le_rowsW rs
  by_cases hne : rs = []
  · subst hne
    go_enter Tryd.func10, Tryd.ntmps10
    go_wp2
    go_loopw [9] (fun i wr => i = .int .i64 0 ∧ Hid (IsB w.heap.size w.heap.size [] wr ∧ Below w.heap.size w wr)) (fun _ _ => 0)
    case atStart => exact ⟨rfl, fresh w, (Below.refl _ _).alloc (Nat.le_refl _) _⟩
    case round =>
      obtain ⟨rfl, hh⟩ := hrel
      have hBr : w.heap.size ≤ wr.heap.size := hh.out.2.size
      go_wp2_with (go_at_call 26; refine (bText w.heap.size w.heap.size _ _ hh.out.1 hBr).mono ?_; rintro e w1 ⟨rfl, hk1⟩; have HK := hide hk1; clear hk1)
      go_ret2
      exact ⟨rfl, hh.out.2.trans HK.out⟩
  obtain ⟨rb, off, rfl, hrb, hc⟩ := hv hne
  have HC := hide hc
  clear hv hc
  go_enter Tryd.func10, Tryd.ntmps10
  go_wp2
  go_loopw [9] (fun i wr => ∃ k : Nat, k ≤ rs.length ∧ i = .int .i64 k ∧ Hid ([] ∉ rs.take k ∧ IsB w.heap.size w.heap.size (encRows (lettersR (rs.take k))) wr ∧ Below w.heap.size w wr)) (fun i _ => rs.length - (intOf i).toNat)
  case atStart => exact ⟨0, Nat.zero_le _, rfl, by simp, fresh w, (Below.refl _ _).alloc (Nat.le_refl _) _⟩
  case round =>
    obtain ⟨k, hk, rfl, hh⟩ := hrel
    have hBr : w.heap.size ≤ wr.heap.size := hh.out.2.2.size
    by_cases hlt : k < rs.length
    · obtain ⟨u, hu, hs⟩ := HC.out k hlt
      have hcell : wr.cell? ⟨rb, off + k, none⟩ = some u := (hh.out.2.2.cell (p := ⟨rb, off + k, none⟩) hrb).trans hu
      have hs' := hs.keep hh.out.2.2
      obtain ⟨ua, ucap, rfl, hx⟩ := hs'
      have HS : Hid (IsStrs w.heap.size wr (.slice ua rs[k].length ucap) rs[k]) := ⟨ua, ucap, rfl, hx⟩
      clear hx hs
      by_cases h0 : rs[k] = []
      · have hz : rs[k].length = 0 := by rw [h0]; rfl
        rw [hz] at hcell
        have hm : [] ∈ rs := by rw [← h0]; exact List.getElem_mem hlt
        have HT := hide (encText_bare (bare_of hm))
        go_wp2
        go_ret2
        exact ⟨by rw [HT.out.1, HT.out.2]; rfl, hh.out.2.2⟩
      · have hz : ¬ ((rs[k].length : Int) = 0) := by
          have : rs[k].length ≠ 0 := fun e => h0 (List.length_eq_zero_iff.1 e)
          omega
        have hroom : (encRows (lettersR (rs.take k))).length + 3 * rowW rs[k] ≤ 140737488355200 := by
          have h1 := encRows_len (rs.take k)
          have h2 := rowsW_snoc rs k hlt
          have h3 := rowsW_take rs (k + 1)
          omega
        go_wp2_with (go_at_call 25; refine (writeRow_any w.heap.size w.heap.size _ _ rs[k] _ hh.out.2.1 hroom hBr h0 HS.out).mono ?_; rintro e w1 ⟨rfl, hk1⟩; have HK := hide hk1; clear hk1)
        go_roundw
        case rel =>
          refine ⟨k + 1, by omega, by go_num, ?_, ?_, hh.out.2.2.trans HK.out.2⟩
          · rw [List.take_succ_eq_append_getElem hlt]
            intro hm
            rcases List.mem_append.1 hm with hm | hm
            · exact hh.out.1 hm
            · exact h0 (List.mem_singleton.1 hm).symm
          · rw [lettersR_snoc rs k hlt, encRows_snoc]
            exact HK.out.1
        case measure => simp [intOf]; omega
    · obtain rfl : k = rs.length := by omega
      have hm : [] ∉ rs := by have := hh.out.1; rwa [List.take_length] at this
      have HT := hide (encText_full (bare_not hm))
      have hI : IsB w.heap.size w.heap.size (encRows (lettersR rs)) wr := by have := hh.out.2.1; rwa [List.take_length] at this
      have HI := hide hI
      clear hI
      go_wp2_with (go_at_call 26; refine (bText w.heap.size w.heap.size _ _ HI.out hBr).mono ?_; rintro e w1 ⟨rfl, hk1⟩; have HK := hide hk1; clear hk1)
      go_ret2
      exact ⟨by rw [HT.out.1, HT.out.2]; rfl, hh.out.2.2.trans HK.out⟩
end Go.Proofs.YtjlcmgfgbmcjpaaDoor
