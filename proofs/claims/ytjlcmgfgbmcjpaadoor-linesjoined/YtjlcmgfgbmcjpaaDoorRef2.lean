/- Proved: what the document's own Encode tells of rows that lie in memory is what lines.Encode tells. -/
import Derived.Test.YtjlcmgfgbmcjpaaDoorRef1
namespace Go.Proofs.YtjlcmgfgbmcjpaaDoor
open Go.RowKit
set_option linter.unusedVariables false

theorem cast0 : ((0 : Nat) : Int) = 0 := rfl
theorem bytes_append (a b : ByteArray) : (a ++ b).data.toList = a.data.toList ++ b.data.toList := by simp
theorem size_mk (l : List UInt8) : (⟨l.toArray⟩ : ByteArray).size = l.length := by simp [ByteArray.size]
theorem size_of {S : ByteArray} {l : List UInt8} {n : Nat} (h : S.data.toList = l) (hl : l.length ≤ n) : S.size ≤ n := by
  have := congrArg List.length h
  simp at this; omega
theorem of_toList {S : ByteArray} {l : List UInt8} (h : S.data.toList = l) : S = ⟨l.toArray⟩ := by
  cases S; subst h; simp

set_option maxRecDepth 100000 in
set_option maxHeartbeats 4000000 in
theorem refEncode_any (v : Value) (rs : List (List ByteArray)) (w : World) (hl : rowsW rs ≤ 2048) (hv : IsRows w.heap.size w v rs) :
    Calls Tryd.prog 11 #[v] w fun e w' => e = .returned (.tuple #[.string ⟨(encText rs).toArray⟩, .int .i64 (encErr rs)]) ∧ Below w.heap.size w w' := by
  obtain ⟨a, cap, rfl, hv⟩ := hv
  have hlen := length_le_rowsW rs
  by_cases hne : rs = []
  · subst hne
    go_enter Tryd.func11, Tryd.ntmps11
    go_wp2
    go_loopw [4, 5] (fun s i wr => i = .int .i64 0 ∧ s = .string ⟨#[]⟩ ∧ wr = w) (fun _ _ _ => 0)
    case atStart => exact ⟨rfl, rfl, rfl⟩
    case round =>
      obtain ⟨rfl, rfl, rfl⟩ := hrel
      go_wp2
      go_ret2
      exact ⟨rfl, Below.refl _ _⟩
  obtain ⟨rb, off, rfl, hrb, hc⟩ := hv hne
  have HC := hide hc
  clear hv hc
  go_enter Tryd.func11, Tryd.ntmps11
  go_wp2
  go_loopw [4, 5] (fun s i wr => ∃ (k : Nat) (S : ByteArray), k ≤ rs.length ∧ i = .int .i64 k ∧ s = .string S ∧ Hid (S.data.toList = encRows (lettersR (rs.take k)) ∧ [] ∉ rs.take k ∧ Below w.heap.size w wr)) (fun _ i _ => rs.length - (intOf i).toNat)
  case atStart => exact ⟨0, _, Nat.zero_le _, rfl, rfl, rfl, by simp, Below.refl _ _⟩
  case round =>
    obtain ⟨k, S, hk, rfl, rfl, hh⟩ := hrel
    have hBr : w.heap.size ≤ wr.heap.size := hh.out.2.2.size
    by_cases hlt : k < rs.length
    · obtain ⟨u, hu, hs⟩ := HC.out k hlt
      have hcell0 : w.cell? ⟨rb, off + k, none⟩ = some u := hu
      have hcell : wr.cell? ⟨rb, off + k, none⟩ = some u := (hh.out.2.2.cell (p := ⟨rb, off + k, none⟩) hrb).trans hu
      obtain ⟨ua, ucap, rfl, hx⟩ := hs
      by_cases h0 : rs[k] = []
      · have hz : rs[k].length = 0 := by rw [h0]; rfl
        rw [hz] at hcell
        have hm : [] ∈ rs := by rw [← h0]; exact List.getElem_mem hlt
        have HT := hide (encText_bare (bare_of hm))
        go_wp2
        go_ret2
        exact ⟨by rw [HT.out.1, HT.out.2]; rfl, hh.out.2.2⟩
      · have hz : ¬ ((rs[k].length : Int) = 0) := by
          have : rs[k].length ≠ 0 := fun e => h0 (List.length_eq_zero_iff.1 e)
          omega
        have hz2 : ((rs[k].length : Int) == 0) = false := by simpa using hz
        have hroom : (encRows (lettersR (rs.take k))).length + 3 * rowW rs[k] ≤ 6144 - 3 := by
          have h1 := encRows_len (rs.take k)
          have h2 := rowsW_snoc rs k hlt
          have h3 := rowsW_take rs (k + 1)
          omega
        have hrl := length_le_rowW rs[k]
        obtain ⟨b2, off2, rfl, hb2, hxc⟩ := hx h0
        have HX := hide hxc
        clear hx hxc
        go_wp2
        go_loopw [4, 6] (fun s i wx => ∃ (j : Nat) (S : ByteArray), j ≤ rs[k].length ∧ i = .int .i64 j ∧ s = .string S ∧ Hid (S.data.toList = encRows (lettersR (rs.take k)) ++ body (letters (rs[k].take j)) ∧ Below w.heap.size w wx)) (fun _ i _ => rs[k].length - (intOf i).toNat)
        case atStart => exact ⟨0, _, Nat.zero_le _, rfl, rfl, by simpa [letters, body] using hh.out.1, hh.out.2.2⟩
        case round =>
          obtain ⟨j, S2, hj, rfl, rfl, hh2⟩ := hrel
          have hcr : wr.cell? ⟨rb, off + k, none⟩ = some (.slice (some ⟨b2, off2, none⟩) rs[k].length ucap) := (hh2.out.2.cell (p := ⟨rb, off + k, none⟩) hrb).trans hcell0
          have hBl := body_len (rs[k].take j)
          have hBt := rowW_take rs[k] j
          have hS2 : S2.size ≤ 6144 := size_of hh2.out.1 (by rw [List.length_append]; omega)
          by_cases hjl : j < rs[k].length
          · have hsn := rowW_snoc rs[k] j hjl
            have hBt1 := rowW_take rs[k] (j + 1)
            obtain ⟨f, hf'⟩ : ∃ f, f = rs[k][j] := ⟨_, rfl⟩
            have hfcell : w.cell? ⟨b2, off2 + j, none⟩ = some (.string f) := by rw [hf']; exact HX.out j hjl
            rw [← hf'] at hsn
            have HF := hide hf'
            clear hf'
            by_cases h0j : j = 0
            · subst h0j
              rw [cast0]
              rw [Nat.add_zero] at hfcell
              obtain ⟨base, hb'⟩ : ∃ base, base = encRows (lettersR (rs.take k)) := ⟨_, rfl⟩
              have hbl : base.length + 3 * f.size ≤ 6190 := by rw [hb']; omega
              have hbase : Hid (base ++ encField f.data.toList = encRows (lettersR (rs.take k)) ++ body (letters (rs[k].take (0 + 1)))) := by
                show _ = _
                rw [hb', HF.out, letters_snoc rs[k] 0 hjl]; simp [letters, body]
              have HB' := hide hb'
              clear hb'
              have hd : (decide ((0 : Int) < (rs[k].length : Int))) = true := by simp; omega
              go_wp2
              go_loopw [4, 7] (fun s i wx => ∃ (q : Nat) (S : ByteArray), q ≤ f.size ∧ i = .int .i64 q ∧ s = .string S ∧ Hid (S.data.toList = base ++ encField (f.data.toList.take q) ∧ Below w.heap.size w wx)) (fun _ i _ => f.size - (intOf i).toNat)
              case atStart => exact ⟨0, _, Nat.zero_le _, rfl, rfl, by rw [hh2.out.1, HB'.out]; simp [letters, body, encField], hh2.out.2⟩
              case round =>
                obtain ⟨q, S3, hq, rfl, rfl, hh3⟩ := hrel
                have hBx : w.heap.size ≤ wr.heap.size := hh3.out.2.size
                have hS3 : S3.size ≤ 6200 := size_of hh3.out.1 (by
                  have h1 := (encField_len (f.data.toList.take q)).2
                  have h2 : (f.data.toList.take q).length ≤ f.size := by rw [List.length_take]; simp; omega
                  rw [List.length_append]; omega)
                have hcr : wr.cell? ⟨rb, off + k, none⟩ = some (.slice (some ⟨b2, off2, none⟩) rs[k].length ucap) := (hh3.out.2.cell (p := ⟨rb, off + k, none⟩) hrb).trans hcell0
                have hcf : wr.cell? ⟨b2, off2, none⟩ = some (.string f) := (hh3.out.2.cell (p := ⟨b2, off2, none⟩) hb2).trans hfcell
                by_cases hql : q < f.size
                · have hesc : (⟨(esc f[q]).toArray⟩ : ByteArray).size ≤ 3 := by rw [size_mk]; exact (esc_len _).2
                  go_wp2_with (go_at_call 27; refine (escaped_any f[q] _).mono ?_; rintro e w1 ⟨rfl, hk1⟩; have HK := hide hk1; clear hk1)
                  go_roundw
                  case rel =>
                    refine ⟨q + 1, _, by omega, by go_num, rfl, ?_, hh3.out.2.trans (HK.out.mono hBx)⟩
                    rw [bytes_append, hh3.out.1, take_snoc f q hql, encField_snoc]; simp
                  case measure => simp [intOf]; omega
                · have hE : S3.data.toList = encRows (lettersR (rs.take k)) ++ body (letters (rs[k].take (0 + 1))) := by
                    rw [hh3.out.1, take_all f q hql]; exact hbase.out
                  have HE := hide hE
                  clear hE
                  go_wp2
                  go_roundw
                  case rel => exact ⟨0 + 1, S3, by omega, by go_num, rfl, HE.out, hh3.out.2⟩
                  case measure => simp [intOf]; omega
            · have hjp : 0 < j := by omega
              obtain ⟨base, hb'⟩ : ∃ base, base = encRows (lettersR (rs.take k)) ++ body (letters (rs[k].take j)) ++ [44] := ⟨_, rfl⟩
              have hbl : base.length + 3 * f.size ≤ 6190 := by rw [hb']; simp only [List.length_append, List.length_cons, List.length_nil]; omega
              have hbase : Hid (base ++ encField f.data.toList = encRows (lettersR (rs.take k)) ++ body (letters (rs[k].take (j + 1)))) := by
                show _ = _
                have hne : letters (rs[k].take j) ≠ [] := by
                  intro e
                  have hl2 : (letters (rs[k].take j)).length = j := by simp [letters]; omega
                  rw [e] at hl2
                  simp at hl2; omega
                rw [hb', HF.out, letters_snoc rs[k] j hjl, body_snoc _ _ hne]; simp
              have HB' := hide hb'
              clear hb'
              have hd : (decide ((j : Int) < (rs[k].length : Int))) = true := by simp; omega
              go_wp2
              go_loopw [4, 7] (fun s i wx => ∃ (q : Nat) (S : ByteArray), q ≤ f.size ∧ i = .int .i64 q ∧ s = .string S ∧ Hid (S.data.toList = base ++ encField (f.data.toList.take q) ∧ Below w.heap.size w wx)) (fun _ i _ => f.size - (intOf i).toNat)
              case atStart => exact ⟨0, _, Nat.zero_le _, rfl, rfl, by rw [bytes_append, hh2.out.1, HB'.out]; simp [encField], hh2.out.2⟩
              case round =>
                obtain ⟨q, S3, hq, rfl, rfl, hh3⟩ := hrel
                have hBx : w.heap.size ≤ wr.heap.size := hh3.out.2.size
                have hS3 : S3.size ≤ 6200 := size_of hh3.out.1 (by
                  have h1 := (encField_len (f.data.toList.take q)).2
                  have h2 : (f.data.toList.take q).length ≤ f.size := by rw [List.length_take]; simp; omega
                  rw [List.length_append]; omega)
                have hcr : wr.cell? ⟨rb, off + k, none⟩ = some (.slice (some ⟨b2, off2, none⟩) rs[k].length ucap) := (hh3.out.2.cell (p := ⟨rb, off + k, none⟩) hrb).trans hcell0
                have hcf : wr.cell? ⟨b2, off2 + j, none⟩ = some (.string f) := (hh3.out.2.cell (p := ⟨b2, off2 + j, none⟩) hb2).trans hfcell
                by_cases hql : q < f.size
                · have hesc : (⟨(esc f[q]).toArray⟩ : ByteArray).size ≤ 3 := by rw [size_mk]; exact (esc_len _).2
                  go_wp2_with (go_at_call 27; refine (escaped_any f[q] _).mono ?_; rintro e w1 ⟨rfl, hk1⟩; have HK := hide hk1; clear hk1)
                  go_roundw
                  case rel =>
                    refine ⟨q + 1, _, by omega, by go_num, rfl, ?_, hh3.out.2.trans (HK.out.mono hBx)⟩
                    rw [bytes_append, hh3.out.1, take_snoc f q hql, encField_snoc]; simp
                  case measure => simp [intOf]; omega
                · have hE : S3.data.toList = encRows (lettersR (rs.take k)) ++ body (letters (rs[k].take (j + 1))) := by
                    rw [hh3.out.1, take_all f q hql]; exact hbase.out
                  have HE := hide hE
                  clear hE
                  go_wp2
                  go_roundw
                  case rel => exact ⟨j + 1, S3, by omega, by go_num, rfl, HE.out, hh3.out.2⟩
                  case measure => simp [intOf]; omega
          · obtain rfl : j = rs[k].length := by omega
            go_wp2
            go_roundw
            case rel =>
              refine ⟨k + 1, _, by omega, by go_num, rfl, ?_, ?_, hh2.out.2⟩
              · rw [bytes_append, hh2.out.1, List.take_length, lettersR_snoc rs k hlt, encRows_snoc, encRow]; simp
              · rw [List.take_succ_eq_append_getElem hlt]
                intro hm
                rcases List.mem_append.1 hm with hm | hm
                · exact hh.out.2.1 hm
                · exact h0 (List.mem_singleton.1 hm).symm
            case measure => simp [intOf]; omega
    · obtain rfl : k = rs.length := by omega
      have hm : [] ∉ rs := by have := hh.out.2.1; rwa [List.take_length] at this
      have HT := hide (encText_full (bare_not hm))
      go_wp2
      go_ret2
      refine ⟨?_, hh.out.2.2⟩
      rw [HT.out.1, HT.out.2]
      have := of_toList hh.out.1
      rw [List.take_length] at this
      rw [← this]; rfl
end Go.Proofs.YtjlcmgfgbmcjpaaDoor
