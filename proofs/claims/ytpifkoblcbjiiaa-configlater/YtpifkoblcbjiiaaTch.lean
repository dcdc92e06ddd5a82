/- Proved: the program's Check answers whether a slice holds the parents of a tree, and changes nothing. -/
import Derived.Test.YtpifkoblcbjiiaaTre
namespace Go.Proofs.Ytpifkoblcbjiiaa
open Go.RowKit Go.Shelf
set_option linter.unusedVariables false
attribute [local go_sem] Oper.semAt_some

def chk (zs : List Int) : Int := if okT zs = true then 0 else 50
theorem chk_ok {zs : List Int} (h : OKT zs) : chk zs = 0 := by unfold chk; rw [if_pos ((okT_iff zs).2 h)]
theorem chk_no {zs : List Int} (h : ¬ OKT zs) : chk zs = 50 := by unfold chk; rw [if_neg (fun g => h ((okT_iff zs).1 g))]

set_option maxRecDepth 100000 in
set_option maxHeartbeats 1000000 in
theorem tcheck_any (w : World) (n0 : Nat) (a : Option Addr) (c : Nat) (zs : List Int) (h : RdI w n0 a zs) (hl : zs.length ≤ 9223372036854775807) :
    Calls Try.prog 23 #[.slice a zs.length c] w fun e w' => e = .returned (.int .i64 (chk zs)) ∧ w' = w := by
  by_cases h1 : zs.length < 1
  · have hn : ¬ OKT zs := fun g => by have := g.1; omega
    have h1' : (zs.length : Int) < 1 := by omega
    have hd : decide ((zs.length : Int) < 1) = true := by simpa using h1'
    rw [chk_no hn]
    go_enter Try.func23, Try.ntmps23
    go_wp2
    go_ret
    exact ⟨rfl, rfl⟩
  · have hd : decide ((zs.length : Int) < 1) = false := by simp; omega
    have h1' : ¬ ((zs.length : Int) < 1) := by omega
    by_cases h2 : 16 < zs.length
    · have hn : ¬ OKT zs := fun g => by have := g.2.1; omega
      have h2' : (16 : Int) < (zs.length : Int) := by omega
      rw [chk_no hn]
      go_enter Try.func23, Try.ntmps23
      go_wp2
      go_ret
      exact ⟨rfl, rfl⟩
    · have h2' : ¬ ((16 : Int) < (zs.length : Int)) := by omega
      obtain ⟨b, off, rfl, hb, hc⟩ := h (by intro e; simp [e] at h1)
      obtain ⟨R, hR⟩ : ∃ R : Int, chk zs = R := ⟨_, rfl⟩
      have HR : Hid _ := hR
      rw [hR]
      have HCC : Hid _ := hc
      clear hR h hc
      go_enter Try.func23, Try.ntmps23
      go_wp2_with fail
      go_loopw [15] (fun si wr => wr = w ∧ ∃ k : Nat, k ≤ zs.length ∧ si = .int .i64 k ∧ Hid (∀ j, j < k → -1 ≤ nthI zs j ∧ nthI zs j < (j : Int))) (fun si _ => zs.length - (intOf si).toNat)
      case atStart => exact ⟨rfl, 0, Nat.zero_le _, rfl, (fun j hj => absurd hj (Nat.not_lt_zero _) : ∀ j, j < 0 → -1 ≤ nthI zs j ∧ nthI zs j < (j : Int))⟩
      case round =>
        obtain ⟨rfl, k, hk, rfl, HJ⟩ := hrel
        by_cases hkl : k < zs.length
        · have hk' : (k : Int) < (zs.length : Int) := by omega
          have x0 := HCC.out k hkl
          obtain ⟨x, hx⟩ : ∃ x, nthI zs k = x := ⟨_, rfl⟩
          rw [hx] at x0
          have HX : Hid _ := hx
          clear hx
          by_cases t0 : x = -1
          · subst t0
            go_wp2
            go_roundw
            case rel =>
              refine ⟨by first | rfl | trivial, k + 1, by omega, by go_num, ?_⟩
              refine (fun j hj => ?_ : ∀ j, j < k + 1 → -1 ≤ nthI zs j ∧ nthI zs j < (j : Int))
              by_cases e : j = k
              · rw [e, HX.out]; omega
              · exact HJ.out j (by omega)
            case measure => simp [intOf]; omega
          · have hd0 : (x == -1) = false := by simpa using t0
            by_cases t1 : x < 0
            · have hd1 : decide (x < 0) = true := by simpa using t1
              go_wp2
              go_ret
              refine ⟨?_, rfl⟩
              rw [← HR.out, chk_no (fun g => by have := (g.2.2 k hkl).1; rw [HX.out] at this; omega)]
              rfl
            · have hd1 : decide (x < 0) = false := by simpa using t1
              by_cases t2 : (k : Int) ≤ x
              · have hd2 : decide ((k : Int) ≤ x) = true := by simpa using t2
                go_wp2
                go_ret
                refine ⟨?_, rfl⟩
                rw [← HR.out, chk_no (fun g => by have := (g.2.2 k hkl).2; rw [HX.out] at this; omega)]
                rfl
              · have hd2 : decide ((k : Int) ≤ x) = false := by simpa using t2
                go_wp2
                go_roundw
                case rel =>
                  refine ⟨by first | rfl | trivial, k + 1, by omega, by go_num, ?_⟩
                  refine (fun j hj => ?_ : ∀ j, j < k + 1 → -1 ≤ nthI zs j ∧ nthI zs j < (j : Int))
                  by_cases e : j = k
                  · rw [e, HX.out]; omega
                  · exact HJ.out j (by omega)
                case measure => simp [intOf]; omega
        · obtain rfl : k = zs.length := by omega
          go_wp2
          go_ret
          refine ⟨?_, rfl⟩
          rw [← HR.out, chk_ok ⟨by omega, by omega, HJ.out⟩]
          rfl
end Go.Proofs.Ytpifkoblcbjiiaa
