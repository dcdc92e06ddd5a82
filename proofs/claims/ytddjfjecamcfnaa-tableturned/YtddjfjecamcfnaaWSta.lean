/- Proved: the walk of the statement that rules that may be stay within the states that may be. -/
import Derived.Test.YtddjfjecamcfnaaWWal
namespace Go.Proofs.Ytddjfjecamcfnaa
open Go.RowKit Go.Shelf
set_option linter.unusedVariables false

theorem chkE_two (l : List Rl) : chkE l = 0 ∨ chkE l = 70 := by unfold chkE; split <;> simp
theorem chkE_ok {l : List Rl} (h : chkE l = 0) : l.length ≤ 32 ∧ (∀ r ∈ l, okR r = true) ∧ (l.map key).Nodup := by
  unfold chkE at h
  split at h
  · rename_i g
    unfold chkB at g
    simp only [Bool.and_eq_true, decide_eq_true_eq, List.all_eq_true] at g
    exact ⟨g.1, g.2.1, g.2.2⟩
  · cases h
theorem okR_parts {r : Rl} (h : okR r = true) : (0 ≤ r.nx ∧ r.nx < 8) ∧ r.os.length ≤ 3 := by
  unfold okR inB at h
  simp only [Bool.and_eq_true, decide_eq_true_eq] at h
  exact ⟨h.2.2.1, h.2.2.2.1⟩
/-- A step by rules that may be, from a state that may be. -/
theorem stp_stays {l : List Rl} (h : chkE l = 0) {s : Int} (hs : 0 ≤ s ∧ s < 8) (c : Int) : (0 ≤ (stp l s c).1 ∧ (stp l s c).1 < 8) ∧ (stp l s c).2.length ≤ 3 := by
  rcases idxP_cases (isB s c) l with ⟨e, _⟩ | ⟨k, hk, e, _⟩
  · rw [stp_no e]; exact ⟨hs, by simp⟩
  · rw [stp_at e]; exact okR_parts ((chkE_ok h).2.1 _ (nthR_mem hk))
theorem fnd_ge (l : List Rl) (s c : Int) : fnd l s c = -1 ∨ 0 ≤ fnd l s c := by
  rcases idxP_cases (isB s c) l with ⟨e, _⟩ | ⟨k, hk, e, _⟩
  · exact .inl e
  · exact .inr (by rw [fnd_idx, e]; omega)

set_option maxRecDepth 100000 in
set_option maxHeartbeats 2000000 in
theorem stays_walk (w : World) (a : Option Addr) (cp : Nat) (l : List Rl) (s : Int) (a2 : Option Addr) (c2 : Nat) (z2 : List Int) (hn : l.length ≤ maxLen) (h : RdR w a l) (hs : 0 ≤ s ∧ s ≤ 255) (hn2 : z2.length ≤ maxLen) (h2 : RdI w w.heap.size a2 z2) :
    Calls Try.prog 6 #[.slice a l.length cp, .int .u8 s, .slice a2 z2.length c2] w fun e w' => e = .returned (.bool true) ∧ Below w.heap.size w w' := by
  have HV := heavy_any w a cp l h hn
  unfold maxLen at hn hn2
  obtain ⟨hs0, hs1⟩ := hs
  cases hh : hvy l with
  | true =>
    rw [hh] at HV
    clear hh h h2
    go_enter Try.func6, Try.ntmps6
    go_wp2_with (go_at_call 9; refine HV.mono ?_; rintro e w' ⟨rfl, rfl⟩)
    go_ret
    exact ⟨rfl, Below.refl _ _⟩
  | false =>
    rw [hh] at HV
    by_cases g2 : (100 : Int) < (z2.length : Int)
    · clear hh h h2
      go_enter Try.func6, Try.ntmps6
      go_wp2_with (go_at_call 9; refine HV.mono ?_; rintro e w' ⟨rfl, rfl⟩)
      go_ret
      exact ⟨rfl, Below.refl _ _⟩
    · have g2' : decide ((100 : Int) < (z2.length : Int)) = false := decide_eq_false g2
      have R0 : Rs w a cp l := ⟨h, lt_of hh⟩
      have HR : Hid _ := R0
      have H2 : Hid _ := h2
      obtain ⟨E, hE⟩ : ∃ E, chkE l = E := ⟨_, rfl⟩
      have HCE : Hid _ := hE
      have CK := R0.check
      rw [hE] at CK
      clear hh h h2 R0 hE
      go_enter Try.func6, Try.ntmps6
      go_wp2_with (first | (go_at_call 9; refine HV.mono ?_; rintro e w' ⟨rfl, rfl⟩; clear HV) | (go_at_call 12; refine CK.mono ?_; rintro e w1 ⟨rfl, hb1⟩; clear CK; have CR := (Rs.below HR.out hb1).rcheck; rw [HCE.out] at CR) | (go_at_call 13; refine CR.mono ?_; rintro e w2 ⟨rfl, h12⟩; clear CR))
      have hb2 := hb1.trans (h12.mono hb1.size)
      go_loopw [8, 9] (fun s8 s9 wr => ∃ (k : Nat) (m : Int), k ≤ z2.length ∧ s9 = .int .i64 k ∧ s8 = .int .i64 m ∧ Hid (E = 0 → 0 ≤ m ∧ m < 8) ∧ Below w.heap.size w wr) (fun _ s9 _ => z2.length - (intOf s9).toNat)
      case atStart => exact ⟨0, s % 8, Nat.zero_le _, rfl, rfl, (fun _ => by omega : E = 0 → 0 ≤ s % 8 ∧ s % 8 < 8), hb2⟩
      case round =>
        obtain ⟨k, m, hk, rfl, rfl, HM, hbw⟩ := hrel
        by_cases hkl : k < z2.length
        · have hk' : (k : Int) < (z2.length : Int) := by omega
          obtain ⟨b0, off, rfl, hB, hcc⟩ := (RdI.below H2.out hbw) (by intro e; simp [e] at hkl)
          have x0 := hcc k hkl
          obtain ⟨c, hcE⟩ : ∃ c, nthI z2 k = c := ⟨_, rfl⟩
          rw [hcE] at x0
          obtain ⟨n, Y, hst⟩ : ∃ n Y, stp l m c = (n, Y) := ⟨_, _, rfl⟩
          have hYl : Y.length ≤ 20 := by have := stp_len (Rs.lt HR.out) m c; rwa [hst] at this
          have S1 := (Rs.below HR.out hbw).step m c hst
          have hN : E = 0 → (0 ≤ n ∧ n < 8) ∧ Y.length ≤ 3 := fun e => by
            have := stp_stays ((HCE.out).trans e) (HM.out e) c
            rwa [hst] at this
          have hF : fnd l m c = -1 → n = m ∧ Y = [] := fun e => by
            rw [stp_no e] at hst
            simp at hst
            exact ⟨hst.1.symm, hst.2⟩
          obtain ⟨f, hf⟩ : ∃ f, fnd l m c = f := ⟨_, rfl⟩
          have hfg := fnd_ge l m c
          rw [hf] at hF hfg
          have FK : Hid (∀ W, Below w.heap.size w W → Calls Try.prog 14 #[.slice a l.length cp, .int .i64 m, .int .i64 c] W fun e w' => e = .returned (.int .i64 f) ∧ Below W.heap.size W w') := fun W hW => by
            have := (Rs.below HR.out hW).find m c
            rwa [hf] at this
          have HN : Hid _ := fun e => (hN e).1
          have HTWO : Hid _ := chkE_two l
          clear hcE hcc hst hf
          rcases hfg with e1 | e1
          · subst e1
            obtain ⟨rfl, rfl⟩ := hF rfl
            by_cases e0 : E = 0
            · subst e0
              obtain ⟨⟨n0, n1⟩, _⟩ := hN rfl
              clear hF hN
              go_wp2_with (first | (go_at_call 10; refine S1.mono ?_; rintro e w1 ⟨a1, c1, rfl, hR1⟩; have h3 := hbw.trans (hR1.2.mono hbw.size); have F1 := FK.out w1 h3; have y0 := (hR1.2.cell (p := ⟨b0, off + k, none⟩) hB).trans x0; clear S1) | (go_at_call 14; refine F1.mono ?_; rintro e w3 ⟨rfl, h4⟩; clear F1))
              go_roundw
              case rel => exact ⟨k + 1, n, by omega, by go_num, rfl, HN.out, h3.trans (h4.mono h3.size)⟩
              case measure => simp [intOf]; omega
            · have eb : (E == 0) = false := by simpa using e0
              clear hF hN
              go_wp2_with (first | (go_at_call 10; refine S1.mono ?_; rintro e w1 ⟨a1, c1, rfl, hR1⟩; have h3 := hbw.trans (hR1.2.mono hbw.size); have F1 := FK.out w1 h3; have y0 := (hR1.2.cell (p := ⟨b0, off + k, none⟩) hB).trans x0; clear S1) | (go_at_call 14; refine F1.mono ?_; rintro e w3 ⟨rfl, h4⟩; clear F1))
              go_roundw
              case rel => exact ⟨k + 1, n, by omega, by go_num, rfl, HN.out, h3.trans (h4.mono h3.size)⟩
              case measure => simp [intOf]; omega
          · by_cases e0 : E = 0
            · subst e0
              obtain ⟨⟨n0, n1⟩, hY3⟩ := hN rfl
              have k1 : ¬ f < 0 := by omega
              have k2 : ¬ n < 0 := by omega
              have k3 : ¬ 8 ≤ n := by omega
              have k4 : ¬ (3 : Int) < (Y.length : Int) := by omega
              clear hF hN
              go_wp2_with (first | (go_at_call 10; refine S1.mono ?_; rintro e w1 ⟨a1, c1, rfl, hR1⟩; have h3 := hbw.trans (hR1.2.mono hbw.size); have F1 := FK.out w1 h3; have y0 := (hR1.2.cell (p := ⟨b0, off + k, none⟩) hB).trans x0; clear S1) | (go_at_call 14; refine F1.mono ?_; rintro e w3 ⟨rfl, h4⟩; clear F1))
              go_roundw
              case rel => exact ⟨k + 1, n, by omega, by go_num, rfl, HN.out, h3.trans (h4.mono h3.size)⟩
              case measure => simp [intOf]; omega
            · have eb : (E == 0) = false := by simpa using e0
              have k1 : ¬ f < 0 := by omega
              clear hF hN
              go_wp2_with (first | (go_at_call 10; refine S1.mono ?_; rintro e w1 ⟨a1, c1, rfl, hR1⟩; have h3 := hbw.trans (hR1.2.mono hbw.size); have F1 := FK.out w1 h3; have y0 := (hR1.2.cell (p := ⟨b0, off + k, none⟩) hB).trans x0; clear S1) | (go_at_call 14; refine F1.mono ?_; rintro e w3 ⟨rfl, h4⟩; clear F1))
              go_roundw
              case rel => exact ⟨k + 1, n, by omega, by go_num, rfl, HN.out, h3.trans (h4.mono h3.size)⟩
              case measure => simp [intOf]; omega
        · obtain rfl : k = z2.length := by omega
          have F1 := (Rs.below HR.out hbw).find (-1) (-1)
          obtain ⟨f, hf⟩ : ∃ f, fnd l (-1) (-1) = f := ⟨_, rfl⟩
          have HF : Hid _ := hf
          rw [hf] at F1
          clear hf
          go_wp2_with (first | (go_at_call 14; refine F1.mono ?_; rintro e w3 ⟨rfl, h4⟩; clear F1; have hb5 := hbw.trans (h4.mono hbw.size); have F2 := (Rs.below HR.out hb5).rfind (-1) (-1); rw [HF.out] at F2) | (go_at_call 15; refine F2.mono ?_; rintro e w' ⟨rfl, rfl⟩))
          go_ret
          exact ⟨rfl, hb5⟩
end Go.Proofs.Ytddjfjecamcfnaa
