/- Proved: the document's Below and Meet answer what is said of a list of parents as plain data. -/
import Derived.Test.YtnaodfgchaccoaaRfa
namespace Go.Proofs.Ytnaodfgchaccoaa
open Go.RowKit Go.Shelf
set_option linter.unusedVariables false

set_option maxRecDepth 100000 in
set_option maxHeartbeats 2000000 in
theorem rbelow_any (w : World) (a : Option Addr) (c : Nat) (zs : List Int) (v : Int) (h : RdI w w.heap.size a zs) (hl : zs.length ≤ 9223372036854775807) :
    Calls Try.prog 15 #[.slice a zs.length c, .int .i64 v] w fun e w' => ∃ a' c', e = .returned (.slice a' (bel zs v).length c') ∧ RdI w' w'.heap.size a' (bel zs v) ∧ Below w.heap.size w w' := by
  obtain ⟨i0, hi, hz0, hz1, hz2⟩ := info_parts info3
  obtain ⟨R, hR⟩ : ∃ R, bel zs v = R := ⟨_, rfl⟩
  rw [hR]
  have HR : Hid _ := hR
  have HRD : Hid _ := h
  clear hR h
  go_enter Try.func15, Try.ntmps15
  go_wp2_with fail
  go_loopw [5, 6] (fun s5 s6 wr => ∃ k : Nat, k ≤ zs.length ∧ k ≤ 16 ∧ s6 = .int .i64 k ∧ Hid (Row w wr s5 (belF zs v k))) (fun _ s6 _ => zs.length - (intOf s6).toNat)
  case atStart => exact ⟨0, Nat.zero_le _, Nat.zero_le _, rfl, Row.empty w⟩
  case round =>
    obtain ⟨k, hk, hk16, rfl, HW⟩ := hrel
    by_cases hkl : k < zs.length ∧ k < 16
    · obtain ⟨hkl, hkm⟩ := hkl
      have hk' : (k : Int) < (zs.length : Int) := by omega
      have hkm' : (k : Int) < 16 := by omega
      have I1 := risa_any wr a c zs k v ((RdI.below HRD.out HW.out.2).mono HW.out.2.size) hl
      by_cases hin : v ∈ abv zs (k : Int)
      · rw [decide_eq_true hin] at I1
        have hlen := belF_len zs v k (by omega)
        obtain ⟨L, hL⟩ : ∃ L, belF zs v k = L := ⟨_, rfl⟩
        have HN : Hid (belF zs v (k + 1) = L ++ [(k : Int)]) := by show belF zs v (k + 1) = L ++ [(k : Int)]; rw [belF_yes hin, hL]
        rw [hL] at HW hlen
        clear hL
        go_wp2_with (first | (go_at_call 17; refine I1.mono ?_; rintro e w1 ⟨rfl, hb1⟩; have HW1 : Hid _ := Row.below HW.out hb1; clear I1) | (at_builtin; refine wpList_append_own _ rfl _ _ 22 rfl w.heap.size 3 i0 (.int .i64 0) 1 8 Try.underlying22 hi hz0 hz1 hz2 rfl (by decide) _ _ _ rfl (HW1.out.1.alloc _) ⟨w1.heap.size, 0, none⟩ 1 1 [.int .i64 k] rfl rfl (cell_one_new _ _ _) (by simp [Value.oneCell']) (by unfold maxLen; omega) (by omega) (by have := HW1.out.2.size; simp; omega) ?_))
        intro v' w2 hown' hgrow _
        have HW2 : Hid _ := Row.app HW1.out hown' hgrow
        clear hown' hgrow
        go_wp2
        go_roundw
        case rel => exact ⟨k + 1, by omega, by omega, by go_num, by show Row _ _ _ _; rw [HN.out]; exact HW2.out⟩
        case measure => simp [intOf]; omega
      · rw [decide_eq_false hin] at I1
        have HN : Hid (belF zs v (k + 1) = belF zs v k) := belF_not hin
        go_wp2_with (go_at_call 17; refine I1.mono ?_; rintro e w1 ⟨rfl, hb1⟩; have HW1 : Hid _ := Row.below HW.out hb1; clear I1)
        go_roundw
        case rel => exact ⟨k + 1, by omega, by omega, by go_num, by show Row _ _ _ _; rw [HN.out]; exact HW1.out⟩
        case measure => simp [intOf]; omega
    · have hW : Row _ _ _ _ := HW.out
      have e1 : belF zs v k = R := by
        rw [← HR.out]
        by_cases g : k = 16
        · exact bel_16 zs v k hk g
        · unfold bel; rw [show k = zs.length by omega]
      rw [e1] at hW
      obtain ⟨a', c', rfl, hRd⟩ := hW.rd
      have HRD2 : Hid _ := hRd
      clear hRd e1
      by_cases g : k < zs.length
      · have hk' : (k : Int) < (zs.length : Int) := by omega
        obtain rfl : k = 16 := by omega
        go_wp2
        go_ret
        first | exact ⟨a', c', rfl, HRD2.out, hW.2⟩ | exact ⟨a', ⟨c', rfl⟩, HRD2.out, hW.2⟩
      · have hk' : ¬ ((k : Int) < (zs.length : Int)) := by omega
        have hd' : decide ((k : Int) < (zs.length : Int)) = false := by simpa using hk'
        go_wp2
        go_ret
        first | exact ⟨a', c', rfl, HRD2.out, hW.2⟩ | exact ⟨a', ⟨c', rfl⟩, HRD2.out, hW.2⟩

set_option maxRecDepth 100000 in
set_option maxHeartbeats 2000000 in
theorem rmeet_any (w : World) (a : Option Addr) (c : Nat) (zs : List Int) (u v : Int) (h : RdI w w.heap.size a zs) (hl : zs.length ≤ 9223372036854775807) :
    Calls Try.prog 19 #[.slice a zs.length c, .int .i64 u, .int .i64 v] w fun e w' => e = .returned (.int .i64 (meet zs u v)) ∧ Below w.heap.size w w' := by
  have A := rabove_any w a c zs u h hl
  have HM : Hid (meet zs u v = ((abv zs u).find? (fun x => decide (x ∈ abv zs v))).getD (-1)) := rfl
  have hAL := abv_len zs u
  obtain ⟨xs, hxs⟩ : ∃ xs, abv zs u = xs := ⟨_, rfl⟩
  rw [hxs] at A HM hAL
  clear hxs
  obtain ⟨mm, hmm⟩ : ∃ mm, meet zs u v = mm := ⟨_, rfl⟩
  rw [hmm]
  rw [hmm] at HM
  have HRD : Hid _ := h
  clear hmm h
  go_enter Try.func19, Try.ntmps19
  go_wp2_with (go_at_call 13; refine A.mono ?_; rintro e w1 ⟨a', c', rfl, hR, hB⟩; have HR1 : Hid _ := hR; clear hR A)
  go_loopw [8] (fun si wr => ∃ k : Nat, k ≤ xs.length ∧ si = .int .i64 k ∧ Hid (∀ j, j < k → nthI xs j ∉ abv zs v) ∧ Hid (Below w1.heap.size w1 wr)) (fun si _ => xs.length - (intOf si).toNat)
  case atStart => exact ⟨0, Nat.zero_le _, rfl, (fun j hj => absurd hj (Nat.not_lt_zero _) : ∀ j, j < 0 → nthI xs j ∉ abv zs v), Below.refl _ _⟩
  case round =>
    obtain ⟨k, hk, rfl, HJ, HB⟩ := hrel
    have hBw : Below w.heap.size w wr := hB.trans ((Hid.out HB).mono hB.size)
    by_cases hkl : k < xs.length
    · have hk' : (k : Int) < (xs.length : Int) := by omega
      obtain ⟨b, off, rfl, hb, hc⟩ := RdI.below HR1.out HB.out (by intro e; simp [e] at hkl)
      have x0 := hc k hkl
      obtain ⟨x, hx⟩ : ∃ x, nthI xs k = x := ⟨_, rfl⟩
      rw [hx] at x0
      have HX : Hid _ := hx
      have I1 := risa_any wr a c zs v x ((RdI.below HRD.out hBw).mono hBw.size) hl
      have HX0 : Hid (∀ W, Below wr.heap.size wr W → W.cell? ⟨b, off + k, none⟩ = some (.int .i64 x)) := fun W (hb' : Below wr.heap.size wr W) => (hb'.cell (p := ⟨b, off + k, none⟩) (Nat.lt_of_lt_of_le hb (Hid.out HB).size)).trans x0
      clear hx hc
      by_cases hin : x ∈ abv zs v
      · rw [decide_eq_true hin] at I1
        go_wp2_with (go_at_call 17; refine I1.mono ?_; rintro e w2 ⟨rfl, hb2⟩; have x2 := HX0.out w2 hb2; clear I1)
        go_ret
        refine ⟨?_, hBw.trans (hb2.mono hBw.size)⟩
        rw [HM.out]
        have e1 : xs.find? (fun x => decide (x ∈ abv zs v)) = some x := by
          rw [List.find?_eq_some_iff_getElem]
          refine ⟨by simpa using hin, k, hkl, by rw [← HX.out]; simp [nthI, hkl], fun j hj => ?_⟩
          have := HJ.out j hj
          simp [nthI, show j < xs.length by omega] at this
          simpa using this
        rw [e1]
        rfl
      · rw [decide_eq_false hin] at I1
        go_wp2_with (go_at_call 17; refine I1.mono ?_; rintro e w2 ⟨rfl, hb2⟩; have x2 := HX0.out w2 hb2; clear I1)
        go_roundw
        case rel =>
          refine ⟨k + 1, by omega, by go_num, ?_, (Hid.out HB).trans (hb2.mono (Hid.out HB).size)⟩
          refine (fun j hj => ?_ : ∀ j, j < k + 1 → nthI xs j ∉ abv zs v)
          by_cases e : j = k
          · rw [e, HX.out]; exact hin
          · exact HJ.out j (by omega)
        case measure => simp [intOf]; omega
    · obtain rfl : k = xs.length := by omega
      go_wp2
      go_ret
      refine ⟨?_, hBw⟩
      rw [HM.out, List.find?_eq_none.2 (fun x hx => by obtain ⟨j, hj, e⟩ := (mem_nth xs x).1 hx; rw [← e]; simpa using HJ.out j hj)]
      rfl
end Go.Proofs.Ytnaodfgchaccoaa
