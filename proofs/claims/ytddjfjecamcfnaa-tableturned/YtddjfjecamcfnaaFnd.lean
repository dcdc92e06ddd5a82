/- Proved: contracts of Find, the program's (by the library's IndexFunc and a function of its own) and the document's. -/
import Derived.Test.YtddjfjecamcfnaaBas
namespace Go.Proofs.Ytddjfjecamcfnaa
open Go.RowKit Go.Shelf
set_option linter.unusedVariables false

abbrev rv (r : Rl) : Value := .agg #[.int .i64 r.st, .int .i64 r.cl, .int .i64 r.nx, .slice r.sa r.os.length r.sc]

set_option maxRecDepth 100000 in
set_option maxHeartbeats 400000 in
theorem is_any (w : World) (r : Rl) (b1 b2 : Nat) (s c : Int) (h1 : w.cell? ⟨b1, 0, none⟩ = some (.int .i64 s)) (h2 : w.cell? ⟨b2, 0, none⟩ = some (.int .i64 c)) :
    Calls Try.prog 27 #[rv r, .pointer (some ⟨b1, 0, none⟩), .pointer (some ⟨b2, 0, none⟩)] w fun e w' => e = .returned (.bool (isB s c r)) ∧ Below w.heap.size w w' := by
  have l1 := clt' h1
  have l2 := clt' h2
  dsimp only at l1 l2
  obtain ⟨st, cl, nx, sa, sc, os⟩ := r
  by_cases e1 : st = s
  · subst e1
    by_cases e2 : cl = c
    · subst e2
      rw [show isB st cl ⟨st, cl, nx, sa, sc, os⟩ = true from (isB_true _ _ _).2 ⟨rfl, rfl⟩]
      dsimp only [rv]
      go_enter Try.func27, Try.ntmps27
      go_wp2
      go_ret
      exact ⟨rfl, (Below.refl _ _).alloc (Nat.le_refl _) _⟩
    · rw [show isB st c ⟨st, cl, nx, sa, sc, os⟩ = false from (isB_false _ _ _).2 (fun g => e2 g.2)]
      have k1 : (cl == c) = false := by simpa using e2
      dsimp only [rv]
      go_enter Try.func27, Try.ntmps27
      go_wp2
      go_ret
      exact ⟨rfl, (Below.refl _ _).alloc (Nat.le_refl _) _⟩
  · rw [show isB s c ⟨st, cl, nx, sa, sc, os⟩ = false from (isB_false _ _ _).2 (fun g => e1 g.1)]
    have k1 : (st == s) = false := by simpa using e1
    dsimp only [rv]
    go_enter Try.func27, Try.ntmps27
    go_wp2
    go_ret
    exact ⟨rfl, (Below.refl _ _).alloc (Nat.le_refl _) _⟩

set_option maxRecDepth 100000 in
set_option maxHeartbeats 1000000 in
theorem idx_find (w : World) (a : Option Addr) (cp : Nat) (l : List Rl) (b1 b2 : Nat) (s c : Int) (h : RdR w a l) (hl : l.length ≤ 1000) (h1 : w.cell? ⟨b1, 0, none⟩ = some (.int .i64 s)) (h2 : w.cell? ⟨b2, 0, none⟩ = some (.int .i64 c)) :
    Calls Try.prog 26 #[.slice a l.length cp, .func (.func 27) #[] #[.pointer (some ⟨b1, 0, none⟩), .pointer (some ⟨b2, 0, none⟩)]] w fun e w' => e = .returned (.int .i64 (fnd l s c)) ∧ Below w.heap.size w w' := by
  have l1 := clt' h1
  have l2 := clt' h2
  dsimp only at l1 l2
  have HR : Hid (RdR w a l) := h
  have H1 : Hid _ := h1
  have H2 : Hid _ := h2
  have eg : ∀ args w, (callFunc 27 args).run Try.prog w = .ok (.enter 27 args) w := enters_of Try.func27 (by kernel_rfl) rfl
  clear h h1 h2
  go_enter Try.func26, Try.ntmps26
  go_wp2_with fail
  go_loopw [8] (fun s8 wr => ∃ k : Nat, k ≤ l.length ∧ s8 = .int .i64 k ∧ Hid (∀ i, i < k → isB s c (nthR l i) = false) ∧ Below w.heap.size w wr) (fun s8 _ => l.length - (intOf s8).toNat)
  case atStart => exact ⟨0, Nat.zero_le _, rfl, (fun i hi => absurd hi (Nat.not_lt_zero _) : ∀ i, i < 0 → isB s c (nthR l i) = false), Below.refl _ _⟩
  case round =>
    obtain ⟨k, hk, rfl, HJ, hbw⟩ := hrel
    by_cases hkl : k < l.length
    · have hk' : (k : Int) < (l.length : Int) := by omega
      obtain ⟨r, hr⟩ : ∃ r, nthR l k = r := ⟨_, rfl⟩
      obtain ⟨b, off, rfl, hB, x0, x1, x2, x3⟩ := (HR.out.below hbw).cells hkl hr
      have C := is_any wr r b1 b2 s c ((hbw.cell (p := ⟨b1, 0, none⟩) l1).trans H1.out) ((hbw.cell (p := ⟨b2, 0, none⟩) l2).trans H2.out)
      have HRE : Hid _ := hr
      clear hr
      cases hbit : isB s c r with
      | true =>
        rw [hbit] at C
        have HBT : Hid _ := hbit
        clear hbit
        obtain ⟨st, cl, nx, sa, sc, os⟩ := r
        dsimp only [rv] at C x0 x1 x2 x3
        go_wp2_with (go_at_call 27; refine C.mono ?_; rintro e w' ⟨rfl, hb1⟩)
        go_ret
        refine ⟨?_, hbw.trans (hb1.mono hbw.size)⟩
        rw [fnd_idx, idxP_at HJ.out hkl (by rw [HRE.out]; exact HBT.out)]
        rfl
      | false =>
        rw [hbit] at C
        have HBT : Hid _ := hbit
        clear hbit
        obtain ⟨st, cl, nx, sa, sc, os⟩ := r
        dsimp only [rv] at C x0 x1 x2 x3
        go_wp2_with (go_at_call 27; refine C.mono ?_; rintro e w' ⟨rfl, hb1⟩)
        go_roundw
        case rel =>
          refine ⟨k + 1, by omega, by go_num, ?_, hbw.trans (hb1.mono hbw.size)⟩
          refine (fun i hi => ?_ : ∀ i, i < k + 1 → isB s c (nthR l i) = false)
          by_cases e : i = k
          · rw [e, HRE.out]; exact HBT.out
          · exact HJ.out i (by omega)
        case measure => simp [intOf]; omega
    · obtain rfl : k = l.length := by omega
      go_wp2
      go_ret
      refine ⟨?_, hbw⟩
      rw [fnd_idx, idxP_no HJ.out]
      rfl

set_option maxRecDepth 100000 in
set_option maxHeartbeats 400000 in
theorem find_any (w : World) (a : Option Addr) (cp : Nat) (l : List Rl) (s c : Int) (h : RdR w a l) (hl : l.length ≤ 1000) :
    Calls Try.prog 14 #[.slice a l.length cp, .int .i64 s, .int .i64 c] w fun e w' => e = .returned (.int .i64 (fnd l s c)) ∧ Below w.heap.size w w' := by
  have hb0 : Below w.heap.size w ((w.alloc (.cells #[.int .i64 s] 3)).alloc (.cells #[.int .i64 c] 3)) := ((Below.refl _ w).alloc (Nat.le_refl _) _).alloc (by simp) _
  have I := idx_find ((w.alloc (.cells #[.int .i64 s] 3)).alloc (.cells #[.int .i64 c] 3)) a cp l w.heap.size (w.heap.size + 1) s c (h.below hb0) hl
    (by rw [World.cell?_alloc_lt _ _ _ (by simp), World.cell?_alloc_new]; rfl)
    (by rw [show w.heap.size + 1 = (w.alloc (.cells #[.int .i64 s] 3)).heap.size by simp, World.cell?_alloc_new]; rfl)
  clear h
  go_enter Try.func14, Try.ntmps14
  go_wp2_with (go_at_call 26; refine I.mono ?_; rintro e w' ⟨rfl, hb1⟩)
  go_ret
  exact ⟨rfl, hb0.trans (hb1.mono hb0.size)⟩

set_option maxRecDepth 100000 in
set_option maxHeartbeats 1000000 in
theorem rfind_any (w : World) (a : Option Addr) (cp : Nat) (l : List Rl) (s c : Int) (h : RdR w a l) (hl : l.length ≤ 1000) :
    Calls Try.prog 15 #[.slice a l.length cp, .int .i64 s, .int .i64 c] w fun e w' => e = .returned (.int .i64 (fnd l s c)) ∧ w = w' := by
  have HR : Hid (RdR w a l) := h
  clear h
  go_enter Try.func15, Try.ntmps15
  go_wp2_with fail
  go_loopw [7] (fun s7 wr => ∃ k : Nat, k ≤ l.length ∧ s7 = .int .i64 k ∧ Hid (∀ i, i < k → isB s c (nthR l i) = false) ∧ wr = w) (fun s7 _ => l.length - (intOf s7).toNat)
  case atStart => exact ⟨0, Nat.zero_le _, rfl, (fun i hi => absurd hi (Nat.not_lt_zero _) : ∀ i, i < 0 → isB s c (nthR l i) = false), rfl⟩
  case round =>
    obtain ⟨k, hk, rfl, HJ, rfl⟩ := hrel
    by_cases hkl : k < l.length
    · have hk' : (k : Int) < (l.length : Int) := by omega
      obtain ⟨r, hr⟩ : ∃ r, nthR l k = r := ⟨_, rfl⟩
      obtain ⟨b, off, rfl, hB, x0, x1, x2, x3⟩ := HR.out.cells hkl hr
      have HRE : Hid _ := hr
      clear hr x2 x3
      by_cases e1 : r.st = s
      · by_cases e2 : r.cl = c
        · have HBT : Hid _ := (isB_true s c r).2 ⟨e1, e2⟩
          rw [e1] at x0
          rw [e2] at x1
          clear e1 e2
          go_wp2
          go_ret
          refine ⟨?_, rfl⟩
          rw [fnd_idx, idxP_at HJ.out hkl (by rw [HRE.out]; exact HBT.out)]
          rfl
        · have HBT : Hid _ := (isB_false s c r).2 (fun g => e2 g.2)
          have k1 : (r.cl == c) = false := by simpa using e2
          rw [e1] at x0
          clear e1
          go_wp2
          go_roundw
          case rel =>
            refine ⟨k + 1, by omega, by go_num, ?_, by first | rfl | trivial⟩
            refine (fun i hi => ?_ : ∀ i, i < k + 1 → isB s c (nthR l i) = false)
            by_cases e : i = k
            · rw [e, HRE.out]; exact HBT.out
            · exact HJ.out i (by omega)
          case measure => simp [intOf]; omega
      · have HBT : Hid _ := (isB_false s c r).2 (fun g => e1 g.1)
        have k1 : (r.st == s) = false := by simpa using e1
        go_wp2
        go_roundw
        case rel =>
          refine ⟨k + 1, by omega, by go_num, ?_, by first | rfl | trivial⟩
          refine (fun i hi => ?_ : ∀ i, i < k + 1 → isB s c (nthR l i) = false)
          by_cases e : i = k
          · rw [e, HRE.out]; exact HBT.out
          · exact HJ.out i (by omega)
        case measure => simp [intOf]; omega
    · obtain rfl : k = l.length := by omega
      go_wp2
      go_ret
      refine ⟨?_, rfl⟩
      rw [fnd_idx, idxP_no HJ.out]
      rfl
end Go.Proofs.Ytddjfjecamcfnaa
