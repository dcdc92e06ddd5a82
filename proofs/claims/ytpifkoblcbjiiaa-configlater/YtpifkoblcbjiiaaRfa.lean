/- Proved: the document's Above and Has answer what is said of a list of parents as plain data. -/
import Derived.Test.YtpifkoblcbjiiaaRfc
namespace Go.Proofs.Ytpifkoblcbjiiaa
open Go.RowKit Go.Shelf
set_option linter.unusedVariables false

set_option maxRecDepth 100000 in
set_option maxHeartbeats 1000000 in
theorem rhas_any (w : World) (n0 : Nat) (a : Option Addr) (c : Nat) (zs : List Int) (v : Int) (h : RdI w n0 a zs) (hl : zs.length ≤ 9223372036854775807) :
    Calls Try.prog 20 #[.slice a zs.length c, .int .i64 v] w fun e w' => e = .returned (.bool (decide (v ∈ zs))) ∧ w' = w := by
  have HRD : Hid _ := h
  obtain ⟨R, hR⟩ : ∃ R : Bool, decide (v ∈ zs) = R := ⟨_, rfl⟩
  have HR : Hid _ := hR
  rw [hR]
  clear hR h
  go_enter Try.func20, Try.ntmps20
  go_wp2_with fail
  go_loopw [5] (fun si wr => wr = w ∧ ∃ k : Nat, k ≤ zs.length ∧ si = .int .i64 k ∧ Hid (∀ j, j < k → nthI zs j ≠ v)) (fun si _ => zs.length - (intOf si).toNat)
  case atStart => exact ⟨rfl, 0, Nat.zero_le _, rfl, (fun j hj => absurd hj (Nat.not_lt_zero _) : ∀ j, j < 0 → nthI zs j ≠ v)⟩
  case round =>
    obtain ⟨rfl, k, hk, rfl, HJ⟩ := hrel
    by_cases hkl : k < zs.length
    · have hk' : (k : Int) < (zs.length : Int) := by omega
      obtain ⟨b, off, rfl, hb, hc⟩ := HRD.out (by intro e; simp [e] at hkl)
      have x0 := hc k hkl
      clear hc
      obtain ⟨x, hx⟩ : ∃ x, nthI zs k = x := ⟨_, rfl⟩
      rw [hx] at x0
      have HX : Hid _ := hx
      clear hx
      by_cases t0 : x = v
      · subst t0
        go_wp2
        go_ret
        refine ⟨?_, rfl⟩
        rw [← HR.out, decide_eq_true ((mem_nth zs x).2 ⟨k, hkl, HX.out⟩)]
        rfl
      · have hd0 : (x == v) = false := by simpa using t0
        go_wp2
        go_roundw
        case rel =>
          refine ⟨by first | rfl | trivial, k + 1, by omega, by go_num, ?_⟩
          refine (fun j hj => ?_ : ∀ j, j < k + 1 → nthI zs j ≠ v)
          by_cases e : j = k
          · rw [e, HX.out]; exact t0
          · exact HJ.out j (by omega)
        case measure => simp [intOf]; omega
    · obtain rfl : k = zs.length := by omega
      go_wp2
      go_ret
      refine ⟨?_, rfl⟩
      rw [← HR.out, decide_eq_false (fun g => by obtain ⟨j, hj, e⟩ := (mem_nth zs v).1 g; exact HJ.out j hj e)]
      rfl

set_option maxRecDepth 100000 in
set_option maxHeartbeats 2000000 in
theorem rabove_any (w : World) (a : Option Addr) (c : Nat) (zs : List Int) (v : Int) (h : RdI w w.heap.size a zs) (hl : zs.length ≤ 9223372036854775807) :
    Calls Try.prog 34 #[.slice a zs.length c, .int .i64 v] w fun e w' => ∃ a' c', e = .returned (.slice a' (abv zs v).length c') ∧ RdI w' w'.heap.size a' (abv zs v) ∧ Below w.heap.size w w' := by
  obtain ⟨i0, hi, hz0, hz1, hz2⟩ := info_parts info3
  have hB0 : Below w.heap.size w (w.alloc (.cells #[] 3)) := (Below.refl _ _).alloc (Nat.le_refl _) _
  have C := trcheck_any (w.alloc (.cells #[] 3)) w.heap.size a c zs (h.below hB0) hl
  have HRD : Hid _ := h
  clear h
  by_cases hok : OKT zs ∧ 0 ≤ v ∧ v < zs.length
  · obtain ⟨hok, hv0, hv1⟩ := hok
    rw [chk_ok hok] at C
    have hd0 : decide (v < 0) = false := by simpa using hv0
    have hd1 : decide ((zs.length : Int) ≤ v) = false := by simpa using hv1
    have hAL := abv_len zs v
    have e1 := abv_ok hok hv0 hv1
    obtain ⟨xs, hxs⟩ : ∃ xs, abv zs v = xs := ⟨_, rfl⟩
    rw [hxs] at hAL e1 ⊢
    have HX : Hid _ := e1
    have HOK : Hid _ := hok
    clear hxs e1 hok
    go_enter Try.func34, Try.ntmps34
    go_wp2_with (go_at_call 28; refine C.mono ?_; rintro e w' ⟨rfl, rfl⟩)
    go_loopw [1, 5] (fun s1 s5 wr => ∃ (pre : List Int) (u : Int), s1 = .int .i64 u ∧ -1 ≤ u ∧ u < zs.length ∧ Hid (xs = pre ++ ups zs u) ∧ Hid (Row w wr s5 pre)) (fun s1 _ _ => (intOf s1 + 1).toNat)
    case atStart => exact ⟨[], v, rfl, by omega, by omega, by show xs = [] ++ ups zs v; simpa using HX.out, Row.empty w⟩
    case round =>
      obtain ⟨pre, u, rfl, hu0, hu1, HXS, HW⟩ := hrel
      by_cases hun : u < 0
      · have hd2 : decide (0 ≤ u) = false := by simp; omega
        have hW : Row _ _ _ _ := HW.out
        have e2 : pre = xs := by rw [HXS.out, ups_neg zs u hun, List.append_nil]
        rw [e2] at hW
        obtain ⟨a', c', rfl, hRd⟩ := hW.rd
        have HRD2 : Hid _ := hRd
        clear hRd e2
        go_wp2
        go_ret
        exact ⟨a', c', rfl, HRD2.out, hW.2⟩
      · have hst := ups_step HOK.out u (by omega) hu1
        have hpl : pre.length < 16 := by
          have := congrArg List.length HXS.out
          rw [hst] at this
          simp at this
          omega
        obtain ⟨b, off, rfl, hb, hc⟩ := (RdI.below HRD.out HW.out.2) (by intro e; rw [e] at hu1; simp at hu1; omega)
        obtain ⟨k, rfl⟩ := Int.eq_ofNat_of_zero_le (show 0 ≤ u by omega)
        have hkl : k < zs.length := by omega
        have x0 := fun W (hb' : Below w.heap.size wr W) => (hb'.cell (p := ⟨b, off + k, none⟩) hb).trans (hc k hkl)
        clear hc
        have hpk := HOK.out.2.2 k (by omega)
        obtain ⟨x, hx⟩ : ∃ x, nthI zs k = x := ⟨_, rfl⟩
        rw [hx] at x0 hpk
        have HXX : Hid _ := hx
        have HST : Hid _ := hst
        have hk' : (k : Int) < (zs.length : Int) := by omega
        have hk0 : (0 : Int) ≤ (k : Int) := by omega
        have HX0 : Hid _ := x0
        clear hx hst x0
        go_wp2_with (at_builtin; refine wpList_append_own _ rfl _ _ 22 rfl w.heap.size 3 i0 (.int .i64 0) 1 8 Try.underlying22 hi hz0 hz1 hz2 rfl (by decide) _ _ _ rfl (HW.out.1.alloc _) ⟨wr.heap.size, 0, none⟩ 1 1 [.int .i64 k] rfl rfl (cell_one_new _ _ _) (by simp [Value.oneCell']) (by unfold maxLen; omega) (by omega) (by have := HW.out.2.size; simp; omega) ?_)
        intro v' w2 hown' hgrow _
        have HW2 : Hid _ := Row.app HW.out hown' hgrow
        have hbw : Below w.heap.size wr w2 := ((Below.refl w.heap.size wr).alloc HW.out.2.size _).grown hgrow (by have := HW.out.2.size; simp; omega) (fun k e => row_ge HW.out.1 e)
        have x2 := HX0.out w2 hbw
        clear hown' hgrow hbw
        go_wp2
        go_roundw
        case rel =>
          refine ⟨pre ++ [(k : Int)], x, rfl, hpk.1, by omega, ?_, HW2.out⟩
          show xs = pre ++ [(k : Int)] ++ ups zs x
          rw [HXS.out, HST.out, List.append_assoc]
          congr 1
          show _ = (k : Int) :: ups zs x
          rw [show ((k : Int)).toNat = k by simp, HXX.out]
        case measure => simp [intOf]; omega
  · rw [abv_no hok]
    by_cases hk : OKT zs
    · rw [chk_ok hk] at C
      by_cases hv0 : v < 0
      · have hd0 : decide (v < 0) = true := by simpa using hv0
        go_enter Try.func34, Try.ntmps34
        go_wp2_with (go_at_call 28; refine C.mono ?_; rintro e w' ⟨rfl, rfl⟩)
        go_ret
        exact ⟨_, _, rfl, fun g => absurd rfl g, hB0⟩
      · have hd0 : decide (v < 0) = false := by simpa using hv0
        have hv1 : (zs.length : Int) ≤ v := by
          rcases Int.lt_or_le v zs.length with g | g
          · exact absurd ⟨hk, by omega, g⟩ hok
          · exact g
        have hd1 : decide ((zs.length : Int) ≤ v) = true := by simpa using hv1
        go_enter Try.func34, Try.ntmps34
        go_wp2_with (go_at_call 28; refine C.mono ?_; rintro e w' ⟨rfl, rfl⟩)
        go_ret
        exact ⟨_, _, rfl, fun g => absurd rfl g, hB0⟩
    · rw [chk_no hk] at C
      go_enter Try.func34, Try.ntmps34
      go_wp2_with (go_at_call 28; refine C.mono ?_; rintro e w' ⟨rfl, rfl⟩)
      go_ret
      exact ⟨_, _, rfl, fun g => absurd rfl g, hB0⟩
end Go.Proofs.Ytpifkoblcbjiiaa
