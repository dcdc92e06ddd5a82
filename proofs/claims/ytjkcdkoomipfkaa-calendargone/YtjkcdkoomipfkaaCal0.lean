/- Proved: how a calendar lies in memory; the contract of its Len. -/
import Derived.Test.YtjkcdkoomipfkaaBsf
import Derived.Test.YtjkcdkoomipfkaaDel
namespace Go.Proofs.Ytjkcdkoomipfkaa
open Go.RowKit Go.Sort Go.Lib
set_option linter.unusedVariables false

/-- At qb lies a calendar with this room and this day, its pages the slices vs, its messages s. -/
structure IsC (w : World) (qb room day : Nat) (vs : Nat → Value) (s : List M) : Prop where
  c0 : w.cell? ⟨qb, 0, none⟩ = some (.int .i64 room)
  c1 : w.cell? ⟨qb, 1, none⟩ = some (.int .i64 day)
  cp : ∀ i, i < 8 → w.cell? ⟨qb, 2 + i, none⟩ = some (vs i)
  fz : ∀ j, w.frozen? ⟨qb, j, none⟩ = false
  own : ∀ i, i < 8 → Own w (vs i) (pg day i s)
  dj : ∀ i j g, i < 8 → j < 8 → i ≠ j → (vs i).ownBlock = some g → (vs j).ownBlock ≠ some g
  nq : ∀ i, i < 8 → (vs i).ownBlock ≠ some qb
  srt : Srt s
  wf : ∀ m ∈ s, vt m.1.1 = true
  rm : room ≤ 64
  len : s.length ≤ room
  d1 : 1 ≤ day
  d2 : day ≤ 1048576
/-- The blocks that are the calendar's. -/
def FC (qb : Nat) (vs : Nat → Value) : Nat → Prop := fun k => k = qb ∨ ∃ i, i < 8 ∧ (vs i).ownBlock = some k
theorem IsC.lt {w : World} {qb room day : Nat} {vs : Nat → Value} {s : List M} (h : IsC w qb room day vs s) : ∀ k, FC qb vs k → k < w.heap.size := by
  rintro k (rfl | ⟨i, hi, hk⟩)
  · exact cell_lt h.c0
  · exact (h.own i hi).lt hk
theorem IsC.keep {S : Nat → Prop} {w w' : World} {qb room day : Nat} {vs : Nat → Value} {s : List M} (h : IsC w qb room day vs s) (hf : Fr S w w') (hs : ∀ k, FC qb vs k → ¬ S k) : IsC w' qb room day vs s where
  c0 := (hf.cell (p := ⟨qb, 0, none⟩) (h.lt qb (.inl rfl)) (hs qb (.inl rfl))).trans h.c0
  c1 := (hf.cell (p := ⟨qb, 1, none⟩) (h.lt qb (.inl rfl)) (hs qb (.inl rfl))).trans h.c1
  cp := fun i hi => (hf.cell (p := ⟨qb, 2 + i, none⟩) (h.lt qb (.inl rfl)) (hs qb (.inl rfl))).trans (h.cp i hi)
  fz := fun j => (hf.frozen (p := ⟨qb, j, none⟩) (h.lt qb (.inl rfl)) (hs qb (.inl rfl))).trans (h.fz j)
  own := fun i hi => (h.own i hi).keep hf (fun g hg => hs g (.inr ⟨i, hi, hg⟩))
  dj := h.dj
  nq := h.nq
  srt := h.srt
  wf := h.wf
  rm := h.rm
  len := h.len
  d1 := h.d1
  d2 := h.d2
theorem IsC.below {w w' : World} {qb room day : Nat} {vs : Nat → Value} {s : List M} (h : IsC w qb room day vs s) (hb : Below w.heap.size w w') : IsC w' qb room day vs s :=
  h.keep (Fr.of_below (S := fun _ => False) hb) (fun _ _ g => g)
theorem IsC.pages {w : World} {qb room day : Nat} {vs : Nat → Value} {s : List M} (h : IsC w qb room day vs s) :
    w.cell? ⟨qb, 2, none⟩ = some (vs 0) ∧ w.cell? ⟨qb, 3, none⟩ = some (vs 1) ∧ w.cell? ⟨qb, 4, none⟩ = some (vs 2) ∧ w.cell? ⟨qb, 5, none⟩ = some (vs 3) ∧ w.cell? ⟨qb, 6, none⟩ = some (vs 4) ∧ w.cell? ⟨qb, 7, none⟩ = some (vs 5) ∧ w.cell? ⟨qb, 8, none⟩ = some (vs 6) ∧ w.cell? ⟨qb, 9, none⟩ = some (vs 7) :=
  ⟨h.cp 0 (by omega), h.cp 1 (by omega), h.cp 2 (by omega), h.cp 3 (by omega), h.cp 4 (by omega), h.cp 5 (by omega), h.cp 6 (by omega), h.cp 7 (by omega)⟩

theorem index56 (vs : Nat → Value) (k : Nat) (hk : k < 8) (W : World) : (Instr.index 56 (.agg #[vs 0, vs 1, vs 2, vs 3, vs 4, vs 5, vs 6, vs 7]) (.int .i64 k)).run Try.prog W = .ok (vs k) W := by
  match k, hk with
  | 0, _ => simp [Instr.index, run_underlying Try.underlying56, asIntOf, part, Try.sizeOf44, Try.isAgg44]
  | 1, _ => simp [Instr.index, run_underlying Try.underlying56, asIntOf, part, Try.sizeOf44, Try.isAgg44]
  | 2, _ => simp [Instr.index, run_underlying Try.underlying56, asIntOf, part, Try.sizeOf44, Try.isAgg44]
  | 3, _ => simp [Instr.index, run_underlying Try.underlying56, asIntOf, part, Try.sizeOf44, Try.isAgg44]
  | 4, _ => simp [Instr.index, run_underlying Try.underlying56, asIntOf, part, Try.sizeOf44, Try.isAgg44]
  | 5, _ => simp [Instr.index, run_underlying Try.underlying56, asIntOf, part, Try.sizeOf44, Try.isAgg44]
  | 6, _ => simp [Instr.index, run_underlying Try.underlying56, asIntOf, part, Try.sizeOf44, Try.isAgg44]
  | 7, _ => simp [Instr.index, run_underlying Try.underlying56, asIntOf, part, Try.sizeOf44, Try.isAgg44]

set_option maxRecDepth 100000 in
set_option maxHeartbeats 1000000 in
theorem clen_any {w : World} {qb room day : Nat} {vs : Nat → Value} {s : List M} (h : IsC w qb room day vs s) :
    Calls Try.prog 23 #[.pointer (some ⟨qb, 0, none⟩)] w fun e w' => e = .returned (.int .i64 s.length) ∧ w' = w := by
  obtain ⟨p0, p1, p2, p3, p4, p5, p6, p7⟩ := h.pages
  have HO : Aside _ := h.own
  have HU : Aside _ := fun n hn => upto_le day s n hn
  have hlen := h.len
  have hrm := h.rm
  have hall := upto_all day s
  have HA : Aside _ := hall
  clear h hall
  go_enter Try.func23, Try.ntmps23
  go_wp2_with fail
  go_loopw [3, 10] (fun s3 s10 wr => ∃ k : Nat, k ≤ 8 ∧ s10 = .int .i64 k ∧ s3 = .int .i64 (upto day s k) ∧ wr = w) (fun _ s10 _ => 8 - (intOf s10).toNat)
  case atStart => exact ⟨0, Nat.zero_le _, rfl, rfl, rfl⟩
  case round =>
    obtain ⟨k, hk, rfl, rfl, rfl⟩ := hrel
    by_cases hk8 : k < 8
    · have hk8' : (k : Int) < 8 := by omega
      obtain ⟨a, cap, hv, _⟩ := (HO.out k hk8).rd
      have hx := fun W => (index56 vs k hk8 W).trans (by rw [hv])
      have h1 := HU.out (k + 1) (by omega)
      obtain ⟨n1, hn1⟩ : ∃ n1, upto day s k = n1 := ⟨_, rfl⟩
      obtain ⟨n2, hn2⟩ : ∃ n2, (pg day k s).length = n2 := ⟨_, rfl⟩
      have hS : upto day s (k + 1) = n1 + n2 := by rw [← hn1, ← hn2]; rfl
      rw [hS] at h1
      rw [hn1]
      rw [hn2] at hx
      have HS : Hid _ := hS
      clear hS hn1 hn2 hv
      go_wp2
      go_roundw
      case rel => exact ⟨k + 1, by omega, by go_num, by rw [HS.out]; go_num, by first | rfl | trivial⟩
      case measure => simp [intOf]; omega
    · obtain rfl : k = 8 := by omega
      rw [HA.out]
      go_wp2
      go_ret
      exact ⟨rfl, rfl⟩
end Go.Proofs.Ytjkcdkoomipfkaa
