/- Proved: the walk of the statement that rules that may be do the same in whatever order they stand. -/
import Derived.Test.YtddjfjecamcfnaaRowR
namespace Go.Proofs.Ytddjfjecamcfnaa
open Go.RowKit Go.Shelf
set_option linter.unusedVariables false

set_option maxRecDepth 100000 in
set_option maxHeartbeats 2000000 in
theorem turned_walk (w : World) (a : Option Addr) (cp : Nat) (l : List Rl) (s c : Int) (hn : l.length ≤ maxLen) (h : RdR w a l) (hs : 0 ≤ s ∧ s ≤ 255) (hc : 0 ≤ c ∧ c ≤ 255) :
    Calls Try.prog 7 #[.slice a l.length cp, .int .u8 s, .int .u8 c] w fun e w' => e = .returned (.bool true) ∧ Below w.heap.size w w' := by
  have HV := heavy_any w a cp l h hn
  unfold maxLen at hn
  obtain ⟨hs0, hs1⟩ := hs
  obtain ⟨hc0, hc1⟩ := hc
  cases hh : hvy l with
  | true =>
    rw [hh] at HV
    clear hh h
    go_enter Try.func7, Try.ntmps7
    go_wp2_with (go_at_call 9; refine HV.mono ?_; rintro e w' ⟨rfl, rfl⟩)
    go_ret
    exact ⟨rfl, Below.refl _ _⟩
  | false =>
    rw [hh] at HV
    have R0 : Rs w a cp l := ⟨h, lt_of hh⟩
    have HR : Hid _ := R0
    have HE : Hid _ := RowR.empty w
    have hll := (lt_of hh).1
    obtain ⟨E, hE⟩ : ∃ E, chkE l = E := ⟨_, rfl⟩
    have HCE : Hid _ := hE
    have HCR : Hid (chkE l.reverse = E) := (chkE_rev l).trans hE
    clear hh h R0 hE
    go_enter Try.func7, Try.ntmps7
    go_wp2_with (go_at_call 9; refine HV.mono ?_; rintro e w' ⟨rfl, rfl⟩; clear HV)
    go_loopw [7, 8] (fun s7 s8 wr => ∃ (j : Nat) (X : List Rl) (a7 : Option Addr) (c7 : Nat), j ≤ l.length ∧ s8 = .int .i64 ((j : Int) - 1) ∧ s7 = .slice a7 X.length c7 ∧ Hid ((l.drop j).reverse = X) ∧ RowR w wr (.slice a7 X.length c7) X) (fun _ s8 _ => (intOf s8 + 1).toNat)
    case atStart => exact ⟨l.length, [], _, _, Nat.le_refl _, by go_num, rfl, (by simp : (l.drop l.length).reverse = []), HE.out⟩
    case round =>
      obtain ⟨j, X, a7, c7, hj, rfl, rfl, HX, hRO⟩ := hrel
      have hbw := hRO.2
      have HRO : Hid _ := hRO
      clear hRO
      by_cases hj0 : 0 < j
      · obtain ⟨i, rfl⟩ : ∃ i, j = i + 1 := ⟨j - 1, by omega⟩
        have hil : i < l.length := by omega
        have e0 : ((i + 1 : Nat) : Int) - 1 = (i : Int) := by omega
        rw [e0]
        have hi' : (i : Int) < (l.length : Int) := by omega
        obtain ⟨r, hr⟩ : ∃ r, nthR l i = r := ⟨_, rfl⟩
        obtain ⟨b, off, rfl, hB, x0, x1, x2, x3⟩ := (RdR.below (Rs.rd HR.out) hbw).cells hil hr
        obtain ⟨Y, hY⟩ : ∃ Y, X ++ [r] = Y := ⟨_, rfl⟩
        have HY : Hid _ := hY
        have HXY : Hid ((l.drop i).reverse = Y) := by
          show _ = Y
          rw [← hY, ← HX.out, ← hr]
          exact (rev_step l i hil).symm
        have hXl : X.length ≤ 1000 := by rw [← HX.out, List.length_reverse, List.length_drop]; omega
        clear hr hY e0
        go_wp2_with (at_builtin; refine wpList_append_R _ rfl _ _ rfl w wr _ X r rfl rfl rfl HRO.out (by omega) Y HY.out ?_; intro a' c' w' hr; have HR2 : Hid _ := hr; clear hr)
        go_roundw
        case rel => exact ⟨i, Y, a', c', by omega, by go_num, rfl, HXY, HR2.out⟩
        case measure => simp [intOf]
      · obtain rfl : j = 0 := by omega
        have hX : X = l.reverse := by rw [← HX.out]; rfl
        have RB : Rs wr a7 c7 X := ⟨RowR.rd HRO.out (fun r hr => (Rs.rd HR.out).2 r (by rw [hX] at hr; exact List.mem_reverse.1 hr)), by rw [hX]; exact lt_rev (Rs.lt HR.out)⟩
        have HRB : Hid _ := RB
        have HCX : Hid (chkE X = E) := by show chkE X = E; rw [hX]; exact HCR.out
        have RA : Rs wr a cp l := Rs.below HR.out hbw
        have HRA : Hid _ := RA
        obtain ⟨n, P, hP⟩ : ∃ n P, stp l (s % 8) (c % 16) = (n, P) := ⟨_, _, rfl⟩
        obtain ⟨m, Q, hQ⟩ : ∃ m Q, stp X (s % 8) (c % 16) = (m, Q) := ⟨_, _, rfl⟩
        have hPl : P.length ≤ 20 := by have := stp_len (Rs.lt HR.out) (s % 8) (c % 16); rwa [hP] at this
        have HP : Hid _ := hP
        have HQ : Hid _ := hQ
        have hsame : E = 0 → n = m ∧ P = Q := fun e => by
          have h1 := stp_rev ((HCE.out).trans e) (s % 8) (c % 16)
          rw [← hX, hP, hQ] at h1
          simp at h1
          exact ⟨h1.1.symm, h1.2.symm⟩
        have hXl : X.length = l.length := by rw [hX, List.length_reverse]
        have hXl2 : X.length ≤ 60 := by omega
        have CK := RA.check
        rw [HCE.out] at CK
        have q8 : 0 ≤ s % 8 := by omega
        have q16 : 0 ≤ c % 16 := by omega
        obtain ⟨f, hf⟩ : ∃ f, fnd l (-1) 0 = f := ⟨_, rfl⟩
        have HF : Hid _ := hf
        have h01 := chkE_two l
        rw [HCE.out] at h01
        clear hP hQ hX RB RA hXl hf
        go_wp2_with fail
        refine CK.mono ?_
        rintro e w1 ⟨rfl, b1⟩
        clear CK
        have CR := (Rs.below HRA.out b1).rcheck
        rw [HCE.out] at CR
        go_wp2_with fail
        refine CR.mono ?_
        rintro e w2 ⟨rfl, h12⟩
        have b2 := b1.trans (h12.mono b1.size)
        clear CR
        have CB := (Rs.below HRB.out b2).check
        rw [HCX.out] at CB
        go_wp2_with fail
        refine CB.mono ?_
        rintro e w3 ⟨rfl, h23⟩
        have b3 := b2.trans (h23.mono b2.size)
        clear CB
        have S1 := (Rs.below HRA.out b3).step _ _ HP.out
        go_wp2_with fail
        refine S1.mono ?_
        rintro e w4 ⟨a4, c4, rfl, hr4⟩
        have HR4 : Hid _ := hr4
        have b4 := b3.trans (hr4.2.mono b3.size)
        clear S1 hr4
        have S2 := (Rs.below HRB.out b4).step _ _ HQ.out
        go_wp2_with fail
        refine S2.mono ?_
        rintro e w5 ⟨a5, c5, rfl, hr5⟩
        have HR5 : Hid _ := hr5
        have h45 := hr5.2
        have b5 := b4.trans (h45.mono b4.size)
        clear S2 hr5
        have S3 := (Rs.below HRA.out b5).rstep _ _ HP.out
        go_wp2_with fail
        refine S3.mono ?_
        rintro e w6 ⟨a6, c6, rfl, hr6⟩
        have h56 := hr6.2
        have b6 := b5.trans (h56.mono b5.size)
        have h46 := h45.trans (h56.mono h45.size)
        clear S3 hr6
        rcases h01 with e0 | e0
        · subst e0
          obtain ⟨rfl, rfl⟩ := hsame rfl
          have SM := same_yes w6 a4 a5 c4 c5 P (RowO.look HR4.out h46) (RowO.look HR5.out h56) (by omega)
          clear hsame
          go_wp2_with (first | (go_at_call 16; refine SM.mono ?_; rintro e w7 ⟨rfl, h67⟩; clear SM; have b7 := b6.trans (h67.mono b6.size); have F1 := (Rs.below HRA.out b7).find (-1) 0; rw [HF.out] at F1) | (go_at_call 14; refine F1.mono ?_; rintro e w8 ⟨rfl, h78⟩; clear F1; have b8 := b7.trans (h78.mono b7.size); have F2 := (Rs.below HRA.out b8).rfind (-1) 0; rw [HF.out] at F2) | (go_at_call 15; refine F2.mono ?_; rintro e w' ⟨rfl, rfl⟩))
          go_ret
          exact ⟨rfl, hbw.trans (b8.mono hbw.size)⟩
        · subst e0
          have F1 := (Rs.below HRA.out b6).find (-1) 0
          rw [HF.out] at F1
          clear hsame
          go_wp2_with (first | (go_at_call 14; refine F1.mono ?_; rintro e w8 ⟨rfl, h78⟩; clear F1; have b8 := b6.trans (h78.mono b6.size); have F2 := (Rs.below HRA.out b8).rfind (-1) 0; rw [HF.out] at F2) | (go_at_call 15; refine F2.mono ?_; rintro e w' ⟨rfl, rfl⟩))
          go_ret
          exact ⟨rfl, hbw.trans (b8.mono hbw.size)⟩
end Go.Proofs.Ytddjfjecamcfnaa
