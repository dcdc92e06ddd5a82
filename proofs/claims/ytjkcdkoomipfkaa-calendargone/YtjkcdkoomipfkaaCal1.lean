/- Proved: contracts of a calendar's Days, of its find, of its firstPage. -/
import Derived.Test.YtjkcdkoomipfkaaCal0
import Derived.Deep.OwnRows
namespace Go.Proofs.Ytjkcdkoomipfkaa
open Go.RowKit Go.Sort Go.Lib
set_option linter.unusedVariables false

def dayF (day : Nat) (s : List M) (k : Nat) : Nat → Value := fun i => .int .i64 (if i < k then ((pg day i s).length : Int) else 0)

theorem info3 : (Try.prog.info? 3).map (fun i => (i.zero, i.size, i.bytes)) = some (some (.int .i64 0), 1, 8) := by kernel_rfl
set_option maxRecDepth 100000 in
set_option maxHeartbeats 1000000 in
theorem days_any {w : World} {qb room day : Nat} {vs : Nat → Value} {s : List M} (h : IsC w qb room day vs s) :
    Calls Try.prog 10 #[.pointer (some ⟨qb, 0, none⟩)] w fun e w' => e = .returned (.slice (some ⟨w.heap.size, 0, none⟩) 8 8) ∧ w'.rowIs w.heap.size 3 8 (dayF day s 8) ∧ Below w.heap.size w w' := by
  obtain ⟨w0, hw0⟩ : ∃ w0, w0 = w.alloc (.cells (madeCells #[.int .i64 0] 8) 3) := ⟨_, rfl⟩
  have hmk : (Instr.makeSlice 27 (.int .i64 8) (.int .i64 8)).run Try.prog w = .ok (.slice (some ⟨w.heap.size, 0, none⟩) 8 8) w0 := by
    rw [hw0]
    exact run_make_row' 27 3 (.int .i64 0) 8 Try.underlying27 info3 rfl .i64 .i64 8 (by omega) (by omega) w
  have b0 : Below w.heap.size w w0 := by rw [hw0]; exact (Below.refl _ _).alloc (Nat.le_refl _) _
  have r0 : w0.rowIs w.heap.size 3 8 (dayF day s 0) := by
    rw [hw0]
    refine (World.rowIs_made w (.int .i64 0) 8 3).congr ?_
    intro i hi
    simp [dayF]
  have h0 := h.below b0
  obtain ⟨p0, p1, p2, p3, p4, p5, p6, p7⟩ := h0.pages
  have HO : Aside _ := h.own
  have hlen := h.len
  have hrm := h.rm
  clear h h0 hw0
  go_enter Try.func10, Try.ntmps10
  go_wp2_with fail
  go_loopw [11] (fun s11 wr => ∃ k : Nat, k ≤ 8 ∧ s11 = .int .i64 k ∧ wr.rowIs w.heap.size 3 8 (dayF day s k) ∧ Below w.heap.size w wr) (fun s11 _ => 8 - (intOf s11).toNat)
  case atStart => exact ⟨0, Nat.zero_le _, rfl, r0, b0⟩
  case round =>
    obtain ⟨k, hk, rfl, hrow, hb⟩ := hrel
    by_cases hk8 : k < 8
    · have hk8' : (k : Int) < 8 := by omega
      obtain ⟨a, cap, hv, _⟩ := (HO.out k hk8).rd
      have hx := fun W => (index56 vs k hk8 W).trans (by rw [hv])
      have hc := hrow.cell hk8
      have hf := hrow.frozen k
      go_wp2
      go_roundw
      case rel =>
        refine ⟨k + 1, by omega, by go_num, ?_, hb.setCell (Nat.le_refl _) _⟩
        refine (hrow.set k _).congr ?_
        intro i hi
        unfold dayF
        by_cases e : i = k
        · subst e; simp
        · by_cases e2 : i < k
          · rw [if_neg e, if_pos e2, if_pos (by omega)]
          · rw [if_neg e, if_neg e2, if_neg (by omega)]
      case measure => simp [intOf]; omega
    · obtain rfl : k = 8 := by omega
      go_wp2
      go_ret
      exact ⟨rfl, hrow, hb⟩
end Go.Proofs.Ytjkcdkoomipfkaa
