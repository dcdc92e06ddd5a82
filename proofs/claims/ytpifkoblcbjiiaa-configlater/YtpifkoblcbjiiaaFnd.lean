/- Proved: the contract of the document's Find. -/
import Derived.Test.YtpifkoblcbjiiaaBas
namespace Go.Proofs.Ytpifkoblcbjiiaa
open Go.RowKit Go.Shelf
set_option linter.unusedVariables false

abbrev rv (r : Rl) : Value := .agg #[.int .i64 r.st, .int .i64 r.cl, .int .i64 r.nx, .slice r.sa r.os.length r.sc]

set_option maxRecDepth 100000 in
set_option maxHeartbeats 1000000 in
theorem rfind_any (w : World) (a : Option Addr) (cp : Nat) (l : List Rl) (s c : Int) (h : RdR w a l) (hl : l.length ≤ 1000) :
    Calls Try.prog 68 #[.slice a l.length cp, .int .i64 s, .int .i64 c] w fun e w' => e = .returned (.int .i64 (fnd l s c)) ∧ w = w' := by
  have HR : Hid (RdR w a l) := h
  clear h
  go_enter Try.func68, Try.ntmps68
  go_wp2_with fail
  go_loopw [7] (fun s7 wr => ∃ k : Nat, k ≤ l.length ∧ s7 = .int .i64 k ∧ Hid (∀ i, i < k → isB s c (nthR l i) = false) ∧ wr = w) (fun s7 _ => l.length - (intOf s7).toNat)
  case atStart => exact ⟨0, Nat.zero_le _, rfl, (fun i hi => absurd hi (Nat.not_lt_zero _) : ∀ i, i < 0 → isB s c (nthR l i) = false), rfl⟩
  case round =>
    obtain ⟨k, hk, rfl, HJ, rfl⟩ := hrel
    by_cases hkl : k < l.length
    · have hk' : (k : Int) < (l.length : Int) := by omega
      obtain ⟨r, hr⟩ : ∃ r, nthR l k = r := ⟨_, rfl⟩
      obtain ⟨b, off, rfl, hB, x0, x1, x2, x3⟩ := HR.out.cells hkl hr
      have HRE : Hid _ := hr
      clear hr x2 x3
      by_cases e1 : r.st = s
      · by_cases e2 : r.cl = c
        · have HBT : Hid _ := (isB_true s c r).2 ⟨e1, e2⟩
          rw [e1] at x0
          rw [e2] at x1
          clear e1 e2
          go_wp2
          go_ret
          refine ⟨?_, rfl⟩
          rw [fnd_idx, idxP_at HJ.out hkl (by rw [HRE.out]; exact HBT.out)]
          rfl
        · have HBT : Hid _ := (isB_false s c r).2 (fun g => e2 g.2)
          have k1 : (r.cl == c) = false := by simpa using e2
          rw [e1] at x0
          clear e1
          go_wp2
          go_roundw
          case rel =>
            refine ⟨k + 1, by omega, by go_num, ?_, by first | rfl | trivial⟩
            refine (fun i hi => ?_ : ∀ i, i < k + 1 → isB s c (nthR l i) = false)
            by_cases e : i = k
            · rw [e, HRE.out]; exact HBT.out
            · exact HJ.out i (by omega)
          case measure => simp [intOf]; omega
      · have HBT : Hid _ := (isB_false s c r).2 (fun g => e1 g.1)
        have k1 : (r.st == s) = false := by simpa using e1
        go_wp2
        go_roundw
        case rel =>
          refine ⟨k + 1, by omega, by go_num, ?_, by first | rfl | trivial⟩
          refine (fun i hi => ?_ : ∀ i, i < k + 1 → isB s c (nthR l i) = false)
          by_cases e : i = k
          · rw [e, HRE.out]; exact HBT.out
          · exact HJ.out i (by omega)
        case measure => simp [intOf]; omega
    · obtain rfl : k = l.length := by omega
      go_wp2
      go_ret
      refine ⟨?_, rfl⟩
      rw [fnd_idx, idxP_no HJ.out]
      rfl
end Go.Proofs.Ytpifkoblcbjiiaa
