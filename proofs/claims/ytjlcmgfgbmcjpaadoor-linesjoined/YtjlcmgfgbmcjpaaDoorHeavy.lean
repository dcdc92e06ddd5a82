/- Proved: where the law's own 'heavy' tells false, the rows hold 2048 letters, fields and rows at most. -/
import Derived.Test.YtjlcmgfgbmcjpaaDoorEnc0
import Derived.Test.YtjlcmgfgbmcjpaaDoorMem
namespace Go.Proofs.YtjlcmgfgbmcjpaaDoor
open Go.RowKit
set_option linter.unusedVariables false

theorem int_eq {a b : Int} (h : a = b) : Value.int .i64 a = Value.int .i64 b := by rw [h]
/-- What 'heavy' tells. -/
def Tells (rs : List (List ByteArray)) (w : World) (e : Ending) (w' : World) : Prop := ∃ b : Bool, e = .returned (.bool b) ∧ w' = w ∧ (b = false → rowsW rs ≤ 2048)

set_option maxRecDepth 100000 in
set_option maxHeartbeats 4000000 in
theorem heavy_any (v : Value) (rs : List (List ByteArray)) (w : World) (h : IsRows w.heap.size w v rs) :
    Calls Tryd.prog 9 #[v] w (Tells rs w) := by
  obtain ⟨a, cap, rfl, hv⟩ := h
  by_cases hne : rs = []
  · subst hne
    go_enter Tryd.func9, Tryd.ntmps9
    go_wp2
    go_loop [3, 4] (fun n i => i = .int .i64 0 ∧ n = .int .i64 0) (fun _ _ => 0)
    case atStart => exact ⟨rfl, rfl⟩
    case round =>
      obtain ⟨rfl, rfl⟩ := hrel
      go_wp2
      go_ret
      exact ⟨_, rfl, rfl, fun _ => by simp [rowsW]⟩
  obtain ⟨b1, o1, rfl, hb1, hc1⟩ := hv hne
  have HC1 := hide hc1
  clear hv hc1
  go_enter Tryd.func9, Tryd.ntmps9
  go_wp2
  go_loop [3, 4] (fun n i => ∃ k m : Nat, k ≤ rs.length ∧ i = .int .i64 k ∧ n = .int .i64 m ∧ Hid (m ≤ 1100000 ∧ (m ≤ 2048 → rs.length ≤ 2048 ∧ m + k = rs.length + rowsW (rs.take k)))) (fun _ i => rs.length - (intOf i).toNat)
  case atStart =>
    refine ⟨0, min rs.length 1048576, Nat.zero_le _, rfl, ?_, ?_, ?_⟩
    · exact int_eq (by omega)
    · omega
    · intro hm
      simp [rowsW]; omega
  case round =>
    obtain ⟨k, m, hk, rfl, rfl, hh⟩ := hrel
    have hm1 := hh.out.1
    by_cases hlt : k < rs.length ∧ m ≤ 2048
    · obtain ⟨hlt, hm⟩ := hlt
      obtain ⟨u1, hu1, hs1⟩ := HC1.out k hlt
      obtain ⟨ua1, uc1, rfl, hx1⟩ := hs1
      have hsn := hide (rowsW_snoc rs k hlt)
      have hst := hh.out.2 hm
      have hlen := hst.1
      have HST := hide hst.2
      clear hst
      go_wp2
      go_loop [3, 5] (fun n i => ∃ j m : Nat, j ≤ rs[k].length ∧ i = .int .i64 j ∧ n = .int .i64 m ∧ Hid (m ≤ 1100000 ∧ (m ≤ 2048 → rs[k].length ≤ 2048 ∧ m + k + j = rs.length + rowsW (rs.take k) + rs[k].length + rowW (rs[k].take j)))) (fun _ i => rs[k].length - (intOf i).toNat)
      case atStart =>
        have e1 := HST.out
        refine ⟨0, m + min rs[k].length 1048576, Nat.zero_le _, rfl, ?_, ?_, ?_⟩
        · exact int_eq (by first | omega | (unfold wrap64; omega))
        · omega
        · intro hm2
          have e2 : rowW (rs[k].take 0) = 0 := by simp [rowW]
          omega
      case round =>
        obtain ⟨j, m2, hj, rfl, rfl, hh2⟩ := hrel
        have hm2b := hh2.out.1
        by_cases hin : j < rs[k].length ∧ m2 ≤ 2048
        · obtain ⟨hjl, hm2⟩ := hin
          have h0 : rs[k] ≠ [] := by intro e; rw [e] at hjl; simp at hjl
          have hst2 := hh2.out.2 hm2
          have hlen2 := hst2.1
          have HST2 := hide hst2.2
          clear hst2
          obtain ⟨d1, f1, rfl, hd1, hg1⟩ := hx1 h0
          have g1 := hg1 j hjl
          have hsn2 := hide (rowW_snoc rs[k] j hjl)
          obtain ⟨f, hf'⟩ : ∃ f, f = rs[k][j] := ⟨_, rfl⟩
          rw [← hf'] at g1 hsn2
          clear hf' hx1 hg1
          go_wp2
          go_round
          case rel =>
            have e1 := HST2.out
            have e2 := hsn2.out
            refine ⟨j + 1, m2 + min f.size 1048576, by omega, by go_num, ?_, ?_, ?_⟩
            · exact int_eq (by first | omega | (unfold wrap64; omega))
            · omega
            · intro hm3
              omega
          case measure => simp [intOf]; omega
        · have hd : (decide ((j : Int) < (rs[k].length : Int)) && decide ((m2 : Int) ≤ 2048)) = false := by
            rw [Bool.eq_false_iff]
            intro hb
            simp at hb
            exact hin (by omega)
          by_cases hjl : j < rs[k].length
          · have hm3 : ¬ ((m2 : Int) ≤ 2048) := by omega
            go_wp2
            go_round
            case rel => exact ⟨k + 1, m2, by omega, by go_num, rfl, hm2b, fun hx => by omega⟩
            case measure => simp [intOf]; omega
          · obtain rfl : j = rs[k].length := by omega
            go_wp2
            go_round
            case rel =>
              refine ⟨k + 1, m2, by omega, by go_num, rfl, hm2b, fun hx => ?_⟩
              have e1 := (hh2.out.2 hx).2
              have e2 := hsn.out
              rw [List.take_length] at e1
              exact ⟨hlen, by omega⟩
            case measure => simp [intOf]; omega
    · by_cases hkl : k < rs.length
      · have hm3 : ¬ ((m : Int) ≤ 2048) := by omega
        have hm4 : (2048 : Int) < (m : Int) := by omega
        go_wp2
        go_ret
        exact ⟨true, rfl, rfl, fun hb => by cases hb⟩
      · obtain rfl : k = rs.length := by omega
        go_wp2
        go_ret
        refine ⟨decide ((2048 : Int) < (m : Int)), rfl, rfl, fun hb => ?_⟩
        have hm5 : ¬ ((2048 : Int) < (m : Int)) := of_decide_eq_false hb
        have := (hh.out.2 (by omega)).2
        rw [List.take_length] at this
        omega
end Go.Proofs.YtjlcmgfgbmcjpaaDoor
