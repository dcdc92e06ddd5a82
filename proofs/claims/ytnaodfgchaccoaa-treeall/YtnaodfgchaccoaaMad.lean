/- Proved: the statements' own made answers the parents of a tree, whatever bytes it is made of. -/
import Derived.Test.YtnaodfgchaccoaaSam
namespace Go.Proofs.Ytnaodfgchaccoaa
open Go.RowKit Go.Shelf
set_option linter.unusedVariables false

/-- A slice of bytes that came in. -/
def InB (w : World) (a : Option Addr) (n : Nat) (z : List Int) : Prop :=
  (∀ i, 0 ≤ z.getD i 0 ∧ z.getD i 0 ≤ 255) ∧ (n ≠ 0 → ∃ b off, a = some ⟨b, off, none⟩ ∧ b < w.heap.size ∧ ∀ i, i < n → w.cell? ⟨b, off + i, none⟩ = some (.int .u8 (z.getD i 0)))
/-- The beginning of a tree's parents. -/
def Beg (k : Nat) (L : List Int) : Prop := L.length = k ∧ ∀ i, i < k → -1 ≤ nthI L i ∧ nthI L i < (i : Int)
theorem Beg.snoc {k : Nat} {L : List Int} {x : Int} (h : Beg k L) (h0 : -1 ≤ x) (h1 : x < (k : Int)) : Beg (k + 1) (L ++ [x]) := by
  refine ⟨by simp [h.1], fun i hi => ?_⟩
  by_cases e : i = k
  · subst e
    have : nthI (L ++ [x]) i = x := by simp [nthI, h.1]
    rw [this]
    exact ⟨h0, h1⟩
  · have hl : i < L.length := by rw [h.1]; omega
    have : nthI (L ++ [x]) i = nthI L i := by simp [nthI, List.getElem?_append_left hl]
    rw [this]
    exact h.2 i (by omega)
theorem rem_b {x k : Int} (hx : 0 ≤ x) (hk : 0 ≤ k) : 0 ≤ x % (k + 1) ∧ x % (k + 1) < k + 1 := by
  exact ⟨Int.emod_nonneg _ (by omega), Int.emod_lt_of_pos _ (by omega)⟩

set_option maxRecDepth 100000 in
set_option maxHeartbeats 2000000 in
theorem made_any (w : World) (a : Option Addr) (n c : Nat) (z : List Int) (hn : n ≤ maxLen) (h : InB w a n z) :
    Calls Try.prog 20 #[.slice a n c] w fun e w' => ∃ zs a' c', e = .returned (.slice a' zs.length c') ∧ OKT zs ∧ RdI w' w'.heap.size a' zs ∧ Below w.heap.size w w' := by
  obtain ⟨i0, hi, hz0, hz1, hz2⟩ := info_parts info3
  have HIN : Hid _ := h
  have hn' : n ≤ 9223372036854775807 := by unfold maxLen at hn; omega
  clear h
  go_enter Try.func20, Try.ntmps20
  go_wp2_with fail
  go_loopw [3, 4] (fun s3 s4 wr => ∃ (k : Nat) (L : List Int), k ≤ n ∧ k ≤ 16 ∧ s4 = .int .i64 k ∧ Hid (Beg k L) ∧ Hid (Row w wr s3 L)) (fun _ s4 _ => n - (intOf s4).toNat)
  case atStart => exact ⟨0, [], Nat.zero_le _, Nat.zero_le _, rfl, (⟨rfl, fun i hi => absurd hi (Nat.not_lt_zero _)⟩ : Beg 0 []), Row.empty w⟩
  case round =>
    obtain ⟨k, L, hk, hk16, rfl, HL, HW⟩ := hrel
    by_cases hkl : k < n ∧ k < 16
    · obtain ⟨hkl, hkm⟩ := hkl
      have hk' : (k : Int) < (n : Int) := by omega
      have hkm' : (k : Int) < 16 := by omega
      obtain ⟨b, off, rfl, hb, hc⟩ := HIN.out.2 (by omega)
      have x0 := (Below.cell (p := ⟨b, off + k, none⟩) (Hid.out HW).2 hb).trans (hc k hkl)
      have hx := HIN.out.1 k
      obtain ⟨x, hxx⟩ : ∃ x, z.getD k 0 = x := ⟨_, rfl⟩
      rw [hxx] at x0 hx
      have hr := rem_b (x := x) (k := (k : Int)) hx.1 (by omega)
      have hlen : L.length = k := (Hid.out HL).1
      have hsz := (Hid.out HW).2.size
      clear hxx hc
      have hwr : wrap64 (x % ((k : Int) + 1) - 1) = x % ((k : Int) + 1) - 1 := by
        unfold wrap64
        omega
      go_wp2_with (at_builtin; refine wpList_append_own _ rfl _ _ 22 rfl w.heap.size 3 i0 (.int .i64 0) 1 8 Try.underlying22 hi hz0 hz1 hz2 rfl (by decide) _ _ _ rfl (World.ownsRow.alloc (Hid.out HW).1 _) ⟨wr.heap.size, 0, none⟩ 1 1 [.int .i64 (x % ((k : Int) + 1) - 1)] rfl rfl (cell_one_new _ _ _) (by simp [Value.oneCell']) (by unfold maxLen; omega) (by omega) (by simp; omega) ?_)
      intro v' w2 hown' hgrow _
      have HW2 : Hid _ := Row.app (x := x % ((k : Int) + 1) - 1) HW.out (by rw [hlen]; exact hown') hgrow
      clear hown' hgrow
      go_wp2
      go_roundw
      case rel => exact ⟨k + 1, _, by omega, by omega, by go_num, Beg.snoc HL.out (by omega) (by omega), HW2.out⟩
      case measure => simp [intOf]; omega
    · have hlen : L.length = k := (Hid.out HL).1
      have hsz := (Hid.out HW).2.size
      obtain ⟨a1, c1, rfl, hRd⟩ := (show Row _ _ _ _ from HW.out).rd
      have HRd : Hid _ := hRd
      clear hRd
      by_cases hk0 : k = 0
      · obtain rfl : L = [] := List.eq_nil_of_length_eq_zero (by omega)
        obtain rfl : n = 0 := by omega
        subst hk0
        go_wp2_with (at_builtin; refine wpList_append_own _ rfl _ _ 22 rfl w.heap.size 3 i0 (.int .i64 0) 1 8 Try.underlying22 hi hz0 hz1 hz2 rfl (by decide) _ _ _ rfl (World.ownsRow.alloc (Hid.out HW).1 _) ⟨wr.heap.size, 0, none⟩ 1 1 [.int .i64 (-1)] rfl rfl (cell_one_new _ _ _) (by simp [Value.oneCell']) (by decide) (by decide) (by simp; omega) ?_)
        intro v' w2 hown' hgrow _
        have hW2 : Row _ _ _ _ := Row.app HW.out hown' hgrow
        obtain ⟨a2, c2, rfl, hRd2⟩ := hW2.rd
        clear hown' hgrow
        go_wp2
        go_ret
        refine ⟨[-1], a2, c2, rfl, ⟨by simp, by simp, fun i hi => ?_⟩, hRd2, hW2.2⟩
        obtain rfl : i = 0 := by simpa using hi
        simp [nthI]
      · have hk2 : ((L.length : Int) == 0) = false := by rw [hlen]; simpa using hk0
        have hk3 : ¬ (L.length : Int) = 0 := by omega
        have hok : Hid (OKT L) := (⟨by omega, by omega, by rw [hlen]; exact (Hid.out HL).2⟩ : OKT L)
        clear hlen
        by_cases g : k < n
        · have hk' : (k : Int) < (n : Int) := by omega
          obtain rfl : k = 16 := by omega
          go_wp2
          go_ret
          first | exact ⟨L, a1, c1, rfl, hok.out, HRd.out, (Hid.out HW).2⟩ | exact ⟨L, a1, ⟨c1, rfl⟩, hok.out, HRd.out, (Hid.out HW).2⟩
        · have hk' : ¬ ((k : Int) < (n : Int)) := by omega
          have hd' : decide ((k : Int) < (n : Int)) = false := by simpa using hk'
          go_wp2
          go_ret
          first | exact ⟨L, a1, c1, rfl, hok.out, HRd.out, (Hid.out HW).2⟩ | exact ⟨L, a1, ⟨c1, rfl⟩, hok.out, HRd.out, (Hid.out HW).2⟩
end Go.Proofs.Ytnaodfgchaccoaa
