/- Proved: the document's Route at its table. -/
import Derived.Test.YtkbldbbhcdiihaaDt2
namespace Go.Proofs.Ytkbldbbhcdiihaa
open Go.RowKit Go.Shelf
set_option linter.unusedVariables false

/-- What Route answers: whom, and with which error. -/
def routeE (zs : List Int) (P : Nat → List Int) (f c : Int) : Int := if okFC zs.length f c ≠ 0 then okFC zs.length f c else if pubR zs.length P f c = true then 0 else 211
def routeL (zs : List Int) (P S : Nat → List Int) (f c : Int) : List Int := if pubR zs.length P f c = true then routeF zs S f c 8 else []
theorem pubR_ok {n : Nat} {P : Nat → List Int} {f c : Int} (h : pubR n P f c = true) : okFC n f c = 0 := by
  unfold pubR at h
  simp at h
  exact h.1

set_option maxRecDepth 100000 in
set_option maxHeartbeats 2000000 in
theorem droute_any (w : World) (F : Nat → Prop) (tb : Nat) (zs : List Int) (P S : Nat → List Int) (B : Nat) (f c : Int) (h : RT tb zs P S B w F) (hB : B ≤ 1000) (hz : zs.length ≤ 1000) :
    Calls Try.prog 15 #[.pointer (some ⟨tb, 0, none⟩), .int .i64 f, .int .i64 c] w fun e w' => ∃ a' c', e = .returned (.tuple #[.slice a' (routeL zs P S f c).length c', .int .i64 (routeE zs P f c)]) ∧ RdI w' w'.heap.size a' (routeL zs P S f c) ∧ Below w.heap.size w w' := by
  obtain ⟨i0, hi, hz0, hz1, hz2⟩ := info_parts info3
  have PB := dpubs_any w F tb zs P S B f c h hB
  have HT : Hid (RT tb zs P S B w F) := h
  obtain ⟨az, cz, pu, su, h⟩ := h
  have C := dchk_any w tb az cz zs f c h.c0
  clear h
  by_cases e : okFC zs.length f c = 0
  · by_cases hp : pubR zs.length P f c = true
    · have e1 : routeE zs P f c = 0 := by unfold routeE; rw [if_neg (fun g => g e), if_pos hp]
      have e2 : routeL zs P S f c = routeF zs S f c 8 := by unfold routeL; rw [if_pos hp]
      rw [e1, e2]
      rw [e] at C
      rw [hp] at PB
      obtain ⟨R, hR⟩ : ∃ R, routeF zs S f c 8 = R := ⟨_, rfl⟩
      rw [hR]
      have HR : Hid _ := hR
      clear hR e1 e2 e hp
      go_enter Try.func15, Try.ntmps15
      go_wp2_with (first | (go_at_call 27; refine C.mono ?_; rintro e w' ⟨rfl, rfl⟩; clear C) | (go_at_call 18; refine PB.mono ?_; rintro e w' ⟨rfl, rfl⟩; clear PB))
      go_loopw [9, 10] (fun s9 s10 wr => ∃ k : Nat, k ≤ 8 ∧ s10 = .int .i64 k ∧ Hid (Row w wr s9 (routeF zs S f c k))) (fun _ s10 _ => 8 - (intOf s10).toNat)
      case atStart => exact ⟨0, by omega, rfl, Row.empty w⟩
      case round =>
        obtain ⟨k, hk, rfl, HW⟩ := hrel
        have hs := routeF_succ zs S f c k
        have hlen := routeF_len zs S f c k
        by_cases hk8 : k < 8
        · have hk' : (k : Int) < 8 := by omega
          by_cases hkf : (k : Int) = f
          · have d1 : ((k : Int) == f) = true := by simpa using hkf
            rw [d1] at hs
            simp only [Bool.not_true, Bool.false_and, Bool.false_eq_true, if_false, List.append_nil] at hs
            have HN : Hid _ := hs
            clear hs
            subst hkf
            go_wp2
            go_roundw
            case rel => exact ⟨k + 1, by omega, by go_num, by show Row _ _ _ _; rw [HN.out]; exact HW.out⟩
            case measure => simp [intOf]; omega
          · have d1 : ((k : Int) == f) = false := by simpa using hkf
            rw [d1] at hs
            simp only [Bool.not_false, Bool.true_and] at hs
            have H1 := dhears_any wr F tb zs P S B (k : Int) c ((thR tb zs P S B).below HT.out (Hid.out HW).2) hB hz
            by_cases hh : hearR zs S (k : Int) c = true
            · rw [if_pos hh] at hs
              rw [hh] at H1
              have HN : Hid _ := hs
              obtain ⟨L, hL⟩ : ∃ L, routeF zs S f c k = L := ⟨_, rfl⟩
              rw [hL] at HN HW hlen
              clear hs hL hh
              go_wp2_with (first | (go_at_call 20; refine H1.mono ?_; rintro e w1 ⟨rfl, hb1⟩; have HW1 : Hid _ := Row.below HW.out hb1; clear H1) | (at_builtin; refine wpList_append_own _ rfl _ _ 22 rfl w.heap.size 3 i0 (.int .i64 0) 1 8 Try.underlying22 hi hz0 hz1 hz2 rfl (by decide) _ _ _ rfl (HW1.out.1.alloc _) ⟨w1.heap.size, 0, none⟩ 1 1 [.int .i64 k] rfl rfl (cell_one_new _ _ _) (by simp [Value.oneCell']) (by unfold maxLen; omega) (by omega) (by have := HW1.out.2.size; simp; omega) ?_))
              intro v' w2 hown' hgrow _
              have HW2 : Hid _ := Row.app HW1.out hown' hgrow
              clear hown' hgrow
              go_wp2
              go_roundw
              case rel => exact ⟨k + 1, by omega, by go_num, by show Row _ _ _ _; rw [HN.out]; exact HW2.out⟩
              case measure => simp [intOf]; omega
            · rw [if_neg hh, List.append_nil] at hs
              rw [show hearR zs S (k : Int) c = false by simpa using hh] at H1
              have HN : Hid _ := hs
              clear hs hh
              go_wp2_with (go_at_call 20; refine H1.mono ?_; rintro e w1 ⟨rfl, hb1⟩; have HW1 : Hid _ := Row.below HW.out hb1; clear H1)
              go_roundw
              case rel => exact ⟨k + 1, by omega, by go_num, by show Row _ _ _ _; rw [HN.out]; exact HW1.out⟩
              case measure => simp [intOf]; omega
        · obtain rfl : k = 8 := by omega
          have hW : Row _ _ _ _ := HW.out
          rw [HR.out] at hW
          obtain ⟨a', c', rfl, hRd⟩ := hW.rd
          have HRD2 : Hid _ := hRd
          clear hRd hs
          go_wp2
          go_ret2
          first | exact ⟨a', c', rfl, HRD2.out, hW.2⟩ | exact ⟨a', ⟨c', rfl⟩, HRD2.out, hW.2⟩
    · have hp' : pubR zs.length P f c = false := by simpa using hp
      have e1 : routeE zs P f c = 211 := by unfold routeE; rw [if_neg (fun g => g e), if_neg hp]
      have e2 : routeL zs P S f c = [] := by unfold routeL; rw [if_neg hp]
      rw [e1, e2]
      rw [e] at C
      rw [hp'] at PB
      clear e1 e2 e hp hp'
      go_enter Try.func15, Try.ntmps15
      go_wp2_with (first | (go_at_call 27; refine C.mono ?_; rintro e w' ⟨rfl, rfl⟩; clear C) | (go_at_call 18; refine PB.mono ?_; rintro e w' ⟨rfl, rfl⟩; clear PB))
      go_ret2
      exact ⟨none, 0, rfl, fun g => absurd rfl g, Below.refl _ _⟩
  · have hp : ¬ pubR zs.length P f c = true := fun g => e (pubR_ok g)
    have e1 : routeE zs P f c = okFC zs.length f c := by unfold routeE; rw [if_pos e]
    have e2 : routeL zs P S f c = [] := by unfold routeL; rw [if_neg hp]
    rw [e1, e2]
    obtain ⟨r, hr⟩ : ∃ r, okFC zs.length f c = r := ⟨_, rfl⟩
    rw [hr] at C e ⊢
    have d0 : (r == 0) = false := by simpa using e
    clear hr e1 e2 hp
    go_enter Try.func15, Try.ntmps15
    go_wp2_with (go_at_call 27; refine C.mono ?_; rintro e w' ⟨rfl, rfl⟩; clear C)
    go_ret2
    exact ⟨none, 0, rfl, fun g => absurd rfl g, Below.refl _ _⟩
end Go.Proofs.Ytkbldbbhcdiihaa
