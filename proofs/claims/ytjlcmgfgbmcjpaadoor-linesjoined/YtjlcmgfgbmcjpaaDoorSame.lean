/- Proved: the law's own 'same' tells true of two slices of rows that hold the same texts. -/
import Derived.Test.YtjlcmgfgbmcjpaaDoorEnc0
import Derived.Test.YtjlcmgfgbmcjpaaDoorMem
import Derived.Deep.QuietTactic
import Derived.BigQuiet
namespace Go.Proofs.YtjlcmgfgbmcjpaaDoor
open Go.RowKit
set_option linter.unusedVariables false

theorem below_drewN {B : Nat} {w w' : World} (h : Below B w w') (n : Nat) : Below B w (w'.drewN n) := ⟨h.os, h.tape, h.output, h.size, h.block⟩

set_option maxRecDepth 100000 in
set_option maxHeartbeats 4000000 in
theorem same_true (v1 v2 : Value) (rs : List (List ByteArray)) (w : World) (hl : rowsW rs ≤ 1099511627776) (h1 : IsRows w.heap.size w v1 rs) (h2 : IsRows w.heap.size w v2 rs) :
    Calls Tryd.prog 13 #[v1, v2] w fun e w' => e = .returned (.bool true) ∧ Below w.heap.size w w' := by
  obtain ⟨a1, cap1, rfl, hv1⟩ := h1
  obtain ⟨a2, cap2, rfl, hv2⟩ := h2
  have hlen := length_le_rowsW rs
  by_cases hne : rs = []
  · subst hne
    go_enter Tryd.func13, Tryd.ntmps13
    go_wp2
    go_loop [5] (fun i => i = .int .i64 0) (fun _ => 0)
    case atStart => exact rfl
    case round =>
      obtain rfl := hrel
      go_wp2
      go_ret
      exact ⟨rfl, Below.refl _ _⟩
  obtain ⟨b1, o1, rfl, hb1, hc1⟩ := hv1 hne
  obtain ⟨b2, o2, rfl, hb2, hc2⟩ := hv2 hne
  have HC1 := hide hc1
  have HC2 := hide hc2
  clear hv1 hv2 hc1 hc2
  go_enter Tryd.func13, Tryd.ntmps13
  go_wp2
  go_loopw [5] (fun i wr => ∃ k : Nat, k ≤ rs.length ∧ i = .int .i64 k ∧ Hid (Below w.heap.size w wr)) (fun i _ => rs.length - (intOf i).toNat)
  case atStart => exact ⟨0, Nat.zero_le _, rfl, Below.refl _ _⟩
  case round =>
    obtain ⟨k, hk, rfl, hh⟩ := hrel
    by_cases hlt : k < rs.length
    · obtain ⟨u1, hu1, hs1⟩ := HC1.out k hlt
      obtain ⟨u2, hu2, hs2⟩ := HC2.out k hlt
      obtain ⟨ua1, uc1, rfl, hx1⟩ := hs1
      obtain ⟨ua2, uc2, rfl, hx2⟩ := hs2
      have c1 : wr.cell? ⟨b1, o1 + k, none⟩ = some (.slice ua1 rs[k].length uc1) := (hh.out.cell (p := ⟨b1, o1 + k, none⟩) hb1).trans hu1
      have c2 : wr.cell? ⟨b2, o2 + k, none⟩ = some (.slice ua2 rs[k].length uc2) := (hh.out.cell (p := ⟨b2, o2 + k, none⟩) hb2).trans hu2
      have hlt' : (k : Int) < (rs.length : Int) := by omega
      have hrl := length_le_rowW rs[k]
      have hrw : rowW rs[k] ≤ 1099511627776 := by
        have h2 := rowsW_snoc rs k hlt
        have h3 := rowsW_take rs (k + 1)
        omega
      by_cases h0 : rs[k] = []
      · have hz : rs[k].length = 0 := by rw [h0]; rfl
        rw [hz] at c1 c2
        go_wp2_with fail
        go_quiet (fail)
        go_wp2
        go_loopw [6] (fun i wx => i = .int .i64 0 ∧ Hid (Below w.heap.size w wx)) (fun _ _ => 0)
        case atStart => exact ⟨rfl, below_drewN hh.out _⟩
        case round =>
          obtain ⟨rfl, hh2⟩ := hrel
          have c1' : wr.cell? ⟨b1, o1 + k, none⟩ = some (.slice ua1 0 uc1) := by
            rw [hz] at hu1
            exact (hh2.out.cell (p := ⟨b1, o1 + k, none⟩) hb1).trans hu1
          go_wp2
          go_roundw
          case rel => exact ⟨k + 1, by omega, by go_num, hh2.out⟩
          case measure => simp [intOf]; omega
      · obtain ⟨d1, f1, rfl, hd1, hg1⟩ := hx1 h0
        obtain ⟨d2, f2, rfl, hd2, hg2⟩ := hx2 h0
        have HG1 := hide hg1
        have HG2 := hide hg2
        clear hx1 hx2 hg1 hg2
        go_wp2_with fail
        go_quiet (fail)
        go_wp2
        go_loopw [6] (fun i wx => ∃ j : Nat, j ≤ rs[k].length ∧ i = .int .i64 j ∧ Hid (Below w.heap.size w wx)) (fun i _ => rs[k].length - (intOf i).toNat)
        case atStart => exact ⟨0, Nat.zero_le _, rfl, below_drewN hh.out _⟩
        case round =>
          obtain ⟨j, hj, rfl, hh2⟩ := hrel
          have c1' : wr.cell? ⟨b1, o1 + k, none⟩ = some (.slice (some ⟨d1, f1, none⟩) rs[k].length uc1) := (hh2.out.cell (p := ⟨b1, o1 + k, none⟩) hb1).trans hu1
          have c2' : wr.cell? ⟨b2, o2 + k, none⟩ = some (.slice (some ⟨d2, f2, none⟩) rs[k].length uc2) := (hh2.out.cell (p := ⟨b2, o2 + k, none⟩) hb2).trans hu2
          by_cases hjl : j < rs[k].length
          · obtain ⟨f, hf'⟩ : ∃ f, f = rs[k][j] := ⟨_, rfl⟩
            have g1 : wr.cell? ⟨d1, f1 + j, none⟩ = some (.string f) := by rw [hf']; exact (hh2.out.cell (p := ⟨d1, f1 + j, none⟩) hd1).trans (HG1.out j hjl)
            have g2 : wr.cell? ⟨d2, f2 + j, none⟩ = some (.string f) := by rw [hf']; exact (hh2.out.cell (p := ⟨d2, f2 + j, none⟩) hd2).trans (HG2.out j hjl)
            clear hf'
            have hjl' : (j : Int) < (rs[k].length : Int) := by omega
            go_wp2_with fail
            go_quiet (fail)
            go_wp2
            go_roundw
            case rel => exact ⟨j + 1, by omega, by go_num, below_drewN hh2.out _⟩
            case measure => simp [intOf]; omega
          · go_wp2
            go_roundw
            case rel => exact ⟨k + 1, by omega, by go_num, hh2.out⟩
            case measure => simp [intOf]; omega
    · go_wp2
      go_ret
      exact ⟨rfl, hh.out⟩
end Go.Proofs.YtjlcmgfgbmcjpaaDoor
