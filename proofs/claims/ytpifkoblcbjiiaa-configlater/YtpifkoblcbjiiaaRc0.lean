/- Proved: the contract of the document's classes. -/
import Derived.Test.YtpifkoblcbjiiaaCf4
import Derived.Deep.QuietTactic
import Derived.BigQuiet
namespace Go.Proofs.Ytpifkoblcbjiiaa
open Go.RowKit Go.Shelf
set_option linter.unusedVariables false

theorem below_drewN (n : Nat) (w : World) (k : Nat) : Below n w (w.drewN k) := ⟨rfl, rfl, rfl, Nat.le_refl _, fun _ _ => rfl⟩
set_option maxRecDepth 100000 in
set_option maxHeartbeats 1000000 in
theorem rclasses_any (w : World) (a : Option Addr) (c : Nat) (l : List Int) (m : Nat) (h : RdI w w.heap.size a l) (hl : l.length ≤ 1000) (hm : m ≤ 1000) :
    Calls Try.prog 50 #[.slice a l.length c, .int .i64 (m : Int)] w fun e w' => e = .returned (.bool (cls l m)) ∧ Below w.heap.size w w' := by
  have mixed : Try.prog.follows .mixedOrders = true := by kernel_rfl
  have HRD : Hid _ := h
  clear h
  go_enter Try.func50, Try.ntmps50
  go_wp2_with fail
  go_loopw [5] (fun s5 wr => ∃ k : Nat, k ≤ l.length ∧ s5 = .int .i64 k ∧ Hid (∀ i, i < k → okC l m i = true) ∧ Below w.heap.size w wr) (fun s5 _ => l.length - (intOf s5).toNat)
  case atStart => exact ⟨0, Nat.zero_le _, rfl, (fun i hi => absurd hi (Nat.not_lt_zero _) : ∀ i, i < 0 → okC l m i = true), Below.refl _ _⟩
  case round =>
    obtain ⟨k, hk, rfl, HJ, hbw⟩ := hrel
    by_cases hkl : k < l.length
    · have hk' : (k : Int) < (l.length : Int) := by omega
      obtain ⟨b, off, rfl, hb, hc⟩ := (RdI.below HRD.out hbw) (by intro e; simp [e] at hkl)
      have x0 := hc k hkl
      obtain ⟨x, hx⟩ : ∃ x, nthI l k = x := ⟨_, rfl⟩
      rw [hx] at x0
      have HC : Hid _ := hc
      have HX : Hid _ := hx
      have HOK : Hid (∀ y z, inB x m = y → (decide (k = 0) || decide (nthI l (k - 1) < x)) = z → okC l m k = (y && z)) := by
        show ∀ y z, _ → _ → _
        intro y z h1 h2
        unfold okC
        rw [hx, h1, h2]
      clear hx hc
      by_cases h0 : x < 0
      · have d0 : decide (x < 0) = true := decide_eq_true h0
        go_wp2_with fail
        go_quiet (fail)
        go_wp2
        go_ret
        refine ⟨?_, hbw.trans (below_drewN _ _ _)⟩
        rw [cls_no hkl (by rw [HOK.out false _ (by unfold inB; exact decide_eq_false (by omega)) rfl]; rfl)]
        rfl
      · have d0 : decide (x < 0) = false := decide_eq_false h0
        by_cases h1 : (m : Int) ≤ x
        · have d1 : decide ((m : Int) ≤ x) = true := decide_eq_true h1
          go_wp2_with fail
          go_quiet (fail)
          go_wp2
          go_ret
          refine ⟨?_, hbw.trans (below_drewN _ _ _)⟩
          rw [cls_no hkl (by rw [HOK.out false _ (by unfold inB; exact decide_eq_false (by omega)) rfl]; rfl)]
          rfl
        · have d1 : decide ((m : Int) ≤ x) = false := decide_eq_false h1
          have HY : Hid (inB x m = true) := by show inB x m = true; unfold inB; exact decide_eq_true (by omega)
          cases k with
          | zero =>
            rw [Nat.add_zero] at x0
            go_wp2_with fail
            go_quiet (fail)
            go_wp2
            go_roundw
            case rel =>
              refine ⟨0 + 1, by omega, by go_num, ?_, hbw.trans (below_drewN _ _ _)⟩
              refine (fun i hi => ?_ : ∀ i, i < 0 + 1 → okC l m i = true)
              obtain rfl : i = 0 := by omega
              rw [HOK.out _ _ HY.out rfl]
              rfl
            case measure => simp [intOf]; omega
          | succ j =>
            have x1 := HC.out j (by omega)
            obtain ⟨p, hp⟩ : ∃ p, nthI l j = p := ⟨_, rfl⟩
            rw [hp] at x1
            have HP : Hid _ := hp
            clear hp
            have hj1 : ((j + 1 : Nat) : Int) - 1 = (j : Int) := by omega
            have hj2 : (0 : Int) < ((j + 1 : Nat) : Int) := by omega
            have hj3 : (j : Int) < (l.length : Int) := by omega
            by_cases hq : x ≤ p
            · have d2 : decide (x ≤ p) = true := decide_eq_true hq
              go_wp2_with fail
              go_quiet (fail)
              go_wp2
              go_ret
              refine ⟨?_, hbw.trans (below_drewN _ _ _)⟩
              rw [cls_no hkl (by rw [HOK.out _ false HY.out (by simp [HP.out]; omega)]; rfl)]
              rfl
            · have d2 : decide (x ≤ p) = false := decide_eq_false hq
              go_wp2_with fail
              go_quiet (fail)
              go_wp2
              go_roundw
              case rel =>
                refine ⟨j + 1 + 1, by omega, by go_num, ?_, hbw.trans (below_drewN _ _ _)⟩
                refine (fun i hi => ?_ : ∀ i, i < j + 1 + 1 → okC l m i = true)
                by_cases e : i = j + 1
                · rw [e, HOK.out _ true HY.out (by simp [HP.out]; omega)]; rfl
                · exact HJ.out i (by omega)
              case measure => simp [intOf]; omega
    · obtain rfl : k = l.length := by omega
      go_wp2
      go_ret
      refine ⟨?_, hbw⟩
      rw [cls_yes HJ.out]
      rfl
end Go.Proofs.Ytpifkoblcbjiiaa
