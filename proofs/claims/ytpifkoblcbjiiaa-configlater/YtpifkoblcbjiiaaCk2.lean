/- Proved: contracts of Check, the program's and the document's. -/
import Derived.Test.YtpifkoblcbjiiaaTwi
namespace Go.Proofs.Ytpifkoblcbjiiaa
open Go.RowKit Go.Shelf
set_option linter.unusedVariables false

/-- May rules be? -/
def chkB (l : List Rl) : Bool := decide (l.length ≤ 32) && (l.all okR && decide (l.map key).Nodup)
def chkE (l : List Rl) : Int := if chkB l = true then 0 else 70

set_option maxRecDepth 100000 in
set_option maxHeartbeats 400000 in
theorem check_any (w : World) (a : Option Addr) (cp : Nat) (l : List Rl) (h : RdR w a l) (hl : Lt l) :
    Calls Try.prog 42 #[.slice a l.length cp] w fun e w' => e = .returned (.int .i64 (chkE l)) ∧ Below w.heap.size w w' := by
  have C := contW_any w a cp l h hl
  have hll := hl.1
  have HT : Hid (∀ W, Below w.heap.size w W → Calls Try.prog 60 #[.slice a l.length cp] W fun e w' => e = .returned (.bool (!decide (l.map key).Nodup)) ∧ Below W.heap.size W w') := fun W hW => twice_any W a cp l (h.below hW) (by omega)
  unfold chkE chkB
  obtain ⟨x, hx⟩ : ∃ x, l.all okR = x := ⟨_, rfl⟩
  obtain ⟨y, hy⟩ : ∃ y, decide (l.map key).Nodup = y := ⟨_, rfl⟩
  simp only [hy] at HT
  rw [hx] at C
  rw [hx, hy]
  clear hx hy h hl
  by_cases h3 : (32 : Int) < (l.length : Int)
  · rw [decide_eq_false (show ¬ l.length ≤ 32 by omega)]
    go_enter Try.func42, Try.ntmps42
    go_wp2
    go_ret
    exact ⟨rfl, Below.refl _ _⟩
  · rw [decide_eq_true (show l.length ≤ 32 by omega)]
    have h4 : decide ((32 : Int) < (l.length : Int)) = false := decide_eq_false (by omega)
    cases x with
    | false =>
      go_enter Try.func42, Try.ntmps42
      go_wp2_with (go_at_call 58; refine C.mono ?_; rintro e w1 ⟨rfl, hb1⟩)
      go_ret
      exact ⟨rfl, hb1⟩
    | true =>
      cases y with
      | false =>
        go_enter Try.func42, Try.ntmps42
        go_wp2_with (first | (go_at_call 58; refine C.mono ?_; rintro e w1 ⟨rfl, hb1⟩; have T1 := HT.out w1 hb1; clear C) | (go_at_call 60; refine T1.mono ?_; rintro e w2 ⟨rfl, hb2⟩; clear T1))
        go_ret
        exact ⟨rfl, hb1.trans (hb2.mono hb1.size)⟩
      | true =>
        go_enter Try.func42, Try.ntmps42
        go_wp2_with (first | (go_at_call 58; refine C.mono ?_; rintro e w1 ⟨rfl, hb1⟩; have T1 := HT.out w1 hb1; clear C) | (go_at_call 60; refine T1.mono ?_; rintro e w2 ⟨rfl, hb2⟩; clear T1))
        go_ret
        exact ⟨rfl, hb1.trans (hb2.mono hb1.size)⟩

set_option maxRecDepth 100000 in
set_option maxHeartbeats 1000000 in
theorem fine_any (w : World) (r : Rl) (h : RdO w r.sa r.os) (hl : r.os.length ≤ 1000) :
    Calls Try.prog 67 #[rv r] w fun e w' => e = .returned (.bool (okR r)) ∧ Below w.heap.size w w' := by
  obtain ⟨st, cl, nx, sa, sc, os⟩ := r
  dsimp only at h hl
  have e : okR ⟨st, cl, nx, sa, sc, os⟩ = (inB st 8 && (inB cl 16 && (inB nx 8 && (decide (os.length ≤ 3) && os.all okO)))) := rfl
  rw [e]
  clear e
  dsimp only [rv]
  have hb0 : Below w.heap.size w (w.alloc (.cells #[.int .i64 st, .int .i64 cl, .int .i64 nx, .slice sa os.length sc] 44)) := (Below.refl _ w).alloc (Nat.le_refl _) _
  have HB0 : Hid _ := hb0
  cases hx : inB st 8 with
  | false =>
    go_enter Try.func67, Try.ntmps67
    go_wp2_with (go_at_call 79; refine (in_any _ _ _).mono ?_; rintro e w' ⟨rfl, rfl⟩)
    go_ret
    exact ⟨rfl, HB0.out⟩
  | true =>
    cases hz : inB nx 8 with
    | false =>
      rw [Bool.false_and, Bool.and_false, Bool.and_false]
      go_enter Try.func67, Try.ntmps67
      go_wp2_with (go_at_call 79; refine (in_any _ _ _).mono ?_; rintro e w' ⟨rfl, rfl⟩)
      go_ret
      exact ⟨rfl, HB0.out⟩
    | true =>
      cases hy : inB cl 16 with
      | false =>
        go_enter Try.func67, Try.ntmps67
        go_wp2_with (go_at_call 79; refine (in_any _ _ _).mono ?_; rintro e w' ⟨rfl, rfl⟩)
        go_ret
        exact ⟨rfl, HB0.out⟩
      | true =>
        by_cases h3 : (3 : Int) < (os.length : Int)
        · rw [decide_eq_false (show ¬ os.length ≤ 3 by omega)]
          go_enter Try.func67, Try.ntmps67
          go_wp2_with (go_at_call 79; refine (in_any _ _ _).mono ?_; rintro e w' ⟨rfl, rfl⟩)
          go_ret
          exact ⟨rfl, HB0.out⟩
        · rw [decide_eq_true (show os.length ≤ 3 by omega)]
          simp only [Bool.true_and]
          obtain ⟨W0, hW0⟩ : ∃ W0, W0 = w.alloc (.cells #[.int .i64 st, .int .i64 cl, .int .i64 nx, .slice sa os.length sc] 44) := ⟨_, rfl⟩
          have HRD : Hid (RdO W0 sa os) := by rw [hW0]; exact h.below hb0
          obtain ⟨B, hB⟩ : ∃ B, w.heap.size = B := ⟨_, rfl⟩
          have c3 : W0.cell? ⟨B, 3, none⟩ = some (.slice sa os.length sc) := by rw [hW0, ← hB, World.cell?_alloc_new]; rfl
          have HC3 : Hid _ := c3
          have hBW : B < W0.heap.size := by rw [hW0, ← hB]; simp
          have HBW : Hid (Below w.heap.size w W0) := by rw [hW0]; exact hb0
          have HW0 : Hid _ := hW0
          clear hW0 c3 h hb0 HB0
          go_enter Try.func67, Try.ntmps67
          go_wp2_with (go_at_call 79; refine (in_any _ _ _).mono ?_; rintro e w' ⟨rfl, rfl⟩)
          rw [← HW0.out]
          have HBE : Hid _ := hB
          clear hB hx hy hz
          go_loopw [3] (fun s3 wr => ∃ k : Nat, k ≤ os.length ∧ s3 = .int .i64 k ∧ Hid (∀ i, i < k → okO (nthO os i) = true) ∧ Below W0.heap.size W0 wr) (fun s3 _ => os.length - (intOf s3).toNat)
          case atStart => exact ⟨0, Nat.zero_le _, rfl, (fun i hi => absurd hi (Nat.not_lt_zero _) : ∀ i, i < 0 → okO (nthO os i) = true), Below.refl _ _⟩
          case round =>
            obtain ⟨k, hk, rfl, HJ, hbw⟩ := hrel
            have c3 := (hbw.cell (p := ⟨B, 3, none⟩) hBW).trans HC3.out
            have hBr : B < wr.heap.size := Nat.lt_of_lt_of_le hBW hbw.size
            by_cases hkl : k < os.length
            · have hk' : (k : Int) < (os.length : Int) := by omega
              obtain ⟨o, ho⟩ : ∃ o, nthO os k = o := ⟨_, rfl⟩
              obtain ⟨b, off, rfl, hbb, x0, x1, x2⟩ := (RdO.below HRD.out hbw).cells hkl ho
              have HRE : Hid _ := ho
              clear ho
              obtain ⟨p, q, s⟩ := o
              have e : okO (p, q, s) = (inB p 16 && (inB q 1048577 && inB s 1000)) := rfl
              have HE : Hid _ := e
              clear e
              dsimp only at x0 x1 x2
              cases hx : inB p 16 with
              | false =>
                go_wp2_with (go_at_call 79; refine (in_any _ _ _).mono ?_; rintro e w' ⟨rfl, rfl⟩)
                go_ret
                refine ⟨?_, (HBW.out).trans ((hbw.alloc hbw.size _).mono (HBW.out).size)⟩
                rw [show os.all okO = false by rw [List.all_eq_false]; exact ⟨_, (memO os _).2 ⟨k, hkl, HRE.out⟩, by rw [HE.out, hx]; simp⟩]
                rfl
              | true =>
                cases hy : inB q 1048577 with
                | false =>
                  go_wp2_with (go_at_call 79; refine (in_any _ _ _).mono ?_; rintro e w' ⟨rfl, rfl⟩)
                  go_ret
                  refine ⟨?_, (HBW.out).trans ((hbw.alloc hbw.size _).mono (HBW.out).size)⟩
                  rw [show os.all okO = false by rw [List.all_eq_false]; exact ⟨_, (memO os _).2 ⟨k, hkl, HRE.out⟩, by rw [HE.out, hy]; simp⟩]
                  rfl
                | true =>
                  cases hz : inB s 1000 with
                  | false =>
                    go_wp2_with (go_at_call 79; refine (in_any _ _ _).mono ?_; rintro e w' ⟨rfl, rfl⟩)
                    go_ret
                    refine ⟨?_, (HBW.out).trans ((hbw.alloc hbw.size _).mono (HBW.out).size)⟩
                    rw [show os.all okO = false by rw [List.all_eq_false]; exact ⟨_, (memO os _).2 ⟨k, hkl, HRE.out⟩, by rw [HE.out, hz]; simp⟩]
                    rfl
                  | true =>
                    go_wp2_with (go_at_call 79; refine (in_any _ _ _).mono ?_; rintro e w' ⟨rfl, rfl⟩)
                    go_roundw
                    case rel =>
                      refine ⟨k + 1, by omega, by go_num, ?_, hbw.alloc hbw.size _⟩
                      refine (fun i hi => ?_ : ∀ i, i < k + 1 → okO (nthO os i) = true)
                      by_cases e : i = k
                      · rw [e, HRE.out, HE.out, hx, hy, hz]; rfl
                      · exact HJ.out i (by omega)
                    case measure => simp [intOf]; omega
            · obtain rfl : k = os.length := by omega
              go_wp2
              go_ret
              refine ⟨?_, (HBW.out).trans (hbw.mono (HBW.out).size)⟩
              have : os.all okO = true := by
                rw [List.all_eq_true]
                intro x hx
                obtain ⟨i, hi, rfl⟩ := (memO os x).1 hx
                exact HJ.out i hi
              rw [this]
              rfl
end Go.Proofs.Ytpifkoblcbjiiaa
