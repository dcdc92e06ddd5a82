/- Proved: contracts of isWrong, by the library's ContainsFunc over the sends of a rule, and over rules. -/
import Derived.Test.YtpifkoblcbjiiaaStp
namespace Go.Proofs.Ytpifkoblcbjiiaa
open Go.RowKit Go.Shelf
set_option linter.unusedVariables false

def inB (n m : Int) : Bool := decide (0 ≤ n ∧ n < m)
def okO (o : O) : Bool := inB o.1 16 && (inB o.2.1 1048577 && inB o.2.2 1000)
def okR (r : Rl) : Bool := inB r.st 8 && (inB r.cl 16 && (inB r.nx 8 && (decide (r.os.length ≤ 3) && r.os.all okO)))

set_option maxHeartbeats 400000 in
theorem isb_any (n m : Int) (w : World) :
    Calls Try.prog 74 #[.int .i64 n, .int .i64 m] w fun e w' => e = .returned (.bool (inB n m)) ∧ w = w' := by
  by_cases h : 0 ≤ n
  · by_cases g : n < m
    · rw [show inB n m = true from decide_eq_true ⟨h, g⟩]
      go_enter Try.func74, Try.ntmps74
      go_wp2
      go_ret
      exact ⟨rfl, rfl⟩
    · rw [show inB n m = false from decide_eq_false (fun x => g x.2)]
      go_enter Try.func74, Try.ntmps74
      go_wp2
      go_ret
      exact ⟨rfl, rfl⟩
  · rw [show inB n m = false from decide_eq_false (fun x => h x.1)]
    go_enter Try.func74, Try.ntmps74
    go_wp2
    go_ret
    exact ⟨rfl, rfl⟩

set_option maxHeartbeats 400000 in
theorem in_any (n m : Int) (w : World) :
    Calls Try.prog 79 #[.int .i64 n, .int .i64 m] w fun e w' => e = .returned (.bool (inB n m)) ∧ w = w' := by
  by_cases h : 0 ≤ n
  · by_cases g : n < m
    · rw [show inB n m = true from decide_eq_true ⟨h, g⟩]
      go_enter Try.func79, Try.ntmps79
      go_wp2
      go_ret
      exact ⟨rfl, rfl⟩
    · rw [show inB n m = false from decide_eq_false (fun x => g x.2)]
      go_enter Try.func79, Try.ntmps79
      go_wp2
      go_ret
      exact ⟨rfl, rfl⟩
  · rw [show inB n m = false from decide_eq_false (fun x => h x.1)]
    go_enter Try.func79, Try.ntmps79
    go_wp2
    go_ret
    exact ⟨rfl, rfl⟩

set_option maxRecDepth 100000 in
set_option maxHeartbeats 400000 in
theorem wrongO_any (w : World) (o : O) :
    Calls Try.prog 75 #[ov o] w fun e w' => e = .returned (.bool (!okO o)) ∧ Below w.heap.size w w' := by
  obtain ⟨p, q, r⟩ := o
  have e : okO (p, q, r) = (inB p 16 && (inB q 1048577 && inB r 1000)) := rfl
  rw [e]
  dsimp only [ov]
  clear e
  cases hx : inB p 16 with
  | false =>
    go_enter Try.func75, Try.ntmps75
    go_wp2_with (go_at_call 74; refine (isb_any _ _ _).mono ?_; rintro e w' ⟨rfl, rfl⟩)
    go_ret
    exact ⟨rfl, (Below.refl _ _).alloc (Nat.le_refl _) _⟩
  | true =>
    cases hy : inB q 1048577 with
    | false =>
      go_enter Try.func75, Try.ntmps75
      go_wp2_with (go_at_call 74; refine (isb_any _ _ _).mono ?_; rintro e w' ⟨rfl, rfl⟩)
      go_ret
      exact ⟨rfl, (Below.refl _ _).alloc (Nat.le_refl _) _⟩
    | true =>
      go_enter Try.func75, Try.ntmps75
      go_wp2_with (go_at_call 74; refine (isb_any _ _ _).mono ?_; rintro e w' ⟨rfl, rfl⟩)
      go_ret
      exact ⟨by cases inB r 1000 <;> rfl, (Below.refl _ _).alloc (Nat.le_refl _) _⟩

set_option maxRecDepth 100000 in
set_option maxHeartbeats 1000000 in
theorem idxO_any (w : World) (a : Option Addr) (cp : Nat) (l : List O) (h : RdO w a l) (hl : l.length ≤ 1000) :
    Calls Try.prog 78 #[.slice a l.length cp, .func (.func 75) #[] #[]] w fun e w' => ∃ r : Int, e = .returned (.int .i64 r) ∧ decide (0 ≤ r) = !l.all okO ∧ Below w.heap.size w w' := by
  have HR : Hid (RdO w a l) := h
  have eg : ∀ args w, (callFunc 75 args).run Try.prog w = .ok (.enter 75 args) w := enters_of Try.func75 (by kernel_rfl) rfl
  clear h
  go_enter Try.func78, Try.ntmps78
  go_wp2_with fail
  go_loopw [8] (fun s8 wr => ∃ k : Nat, k ≤ l.length ∧ s8 = .int .i64 k ∧ Hid (∀ i, i < k → okO (nthO l i) = true) ∧ Below w.heap.size w wr) (fun s8 _ => l.length - (intOf s8).toNat)
  case atStart => exact ⟨0, Nat.zero_le _, rfl, (fun i hi => absurd hi (Nat.not_lt_zero _) : ∀ i, i < 0 → okO (nthO l i) = true), Below.refl _ _⟩
  case round =>
    obtain ⟨k, hk, rfl, HJ, hbw⟩ := hrel
    by_cases hkl : k < l.length
    · have hk' : (k : Int) < (l.length : Int) := by omega
      obtain ⟨o, ho⟩ : ∃ o, nthO l k = o := ⟨_, rfl⟩
      obtain ⟨b, off, rfl, hB, x0, x1, x2⟩ := (RdO.below HR.out hbw).cells hkl ho
      have C := wrongO_any wr o
      have HRE : Hid _ := ho
      clear ho
      cases hbit : okO o with
      | false =>
        rw [hbit] at C
        have HBT : Hid _ := hbit
        clear hbit
        obtain ⟨p, q, r⟩ := o
        dsimp only [ov] at C x0 x1 x2
        go_wp2_with (go_at_call 75; refine C.mono ?_; rintro e w' ⟨rfl, hb1⟩)
        go_ret
        refine ⟨_, rfl, ?_, hbw.trans (hb1.mono hbw.size)⟩
        have : l.all okO = false := by
          rw [List.all_eq_false]
          exact ⟨_, (memO l _).2 ⟨k, hkl, HRE.out⟩, by rw [HBT.out]; decide⟩
        rw [this]
        simp
      | true =>
        rw [hbit] at C
        have HBT : Hid _ := hbit
        clear hbit
        obtain ⟨p, q, r⟩ := o
        dsimp only [ov] at C x0 x1 x2
        go_wp2_with (go_at_call 75; refine C.mono ?_; rintro e w' ⟨rfl, hb1⟩)
        go_roundw
        case rel =>
          refine ⟨k + 1, by omega, by go_num, ?_, hbw.trans (hb1.mono hbw.size)⟩
          refine (fun i hi => ?_ : ∀ i, i < k + 1 → okO (nthO l i) = true)
          by_cases e : i = k
          · rw [e, HRE.out]; exact HBT.out
          · exact HJ.out i (by omega)
        case measure => simp [intOf]; omega
    · obtain rfl : k = l.length := by omega
      go_wp2
      go_ret
      refine ⟨_, rfl, ?_, hbw⟩
      have : l.all okO = true := by
        rw [List.all_eq_true]
        intro x hx
        obtain ⟨i, hi, rfl⟩ := (memO l x).1 hx
        exact HJ.out i hi
      rw [this]
      rfl
set_option maxRecDepth 100000 in
theorem contO_any (w : World) (a : Option Addr) (cp : Nat) (l : List O) (h : RdO w a l) (hl : l.length ≤ 1000) :
    Calls Try.prog 65 #[.slice a l.length cp, .func (.func 75) #[] #[]] w fun e w' => e = .returned (.bool (!l.all okO)) ∧ Below w.heap.size w w' := by
  have I := idxO_any w a cp l h hl
  obtain ⟨B, hB⟩ : ∃ B, l.all okO = B := ⟨_, rfl⟩
  rw [hB] at I ⊢
  clear hB h
  go_enter Try.func65, Try.ntmps65
  go_wp2_with (go_at_call 78; refine I.mono ?_; rintro e w' ⟨r, rfl, hr, hb1⟩; have HR : Hid _ := hr; clear hr I)
  go_ret
  refine ⟨?_, hb1⟩
  have e := HR.out
  simp [e, Array.getD]

set_option maxRecDepth 100000 in
set_option maxHeartbeats 1000000 in
theorem wrong_any (w : World) (r : Rl) (h : RdO w r.sa r.os) (hl : r.os.length ≤ 1000) :
    Calls Try.prog 59 #[rv r] w fun e w' => e = .returned (.bool (!okR r)) ∧ Below w.heap.size w w' := by
  obtain ⟨st, cl, nx, sa, sc, os⟩ := r
  dsimp only at h hl
  have e : okR ⟨st, cl, nx, sa, sc, os⟩ = (inB st 8 && (inB cl 16 && (inB nx 8 && (decide (os.length ≤ 3) && os.all okO)))) := rfl
  have hb0 : Below w.heap.size w (w.alloc (.cells #[.int .i64 st, .int .i64 cl, .int .i64 nx, .slice sa os.length sc] 44)) := (Below.refl _ w).alloc (Nat.le_refl _) _
  have C4 := contO_any (w.alloc (.cells #[.int .i64 st, .int .i64 cl, .int .i64 nx, .slice sa os.length sc] 44)) sa sc os (h.below hb0) hl
  have HB0 : Hid _ := hb0
  rw [e]
  dsimp only [rv]
  obtain ⟨u, hu⟩ : ∃ u, os.all okO = u := ⟨_, rfl⟩
  rw [hu] at C4 ⊢
  clear hu e h hb0
  cases hx : inB st 8 with
  | false =>
    go_enter Try.func59, Try.ntmps59
    go_wp2_with (go_at_call 74; refine (isb_any _ _ _).mono ?_; rintro e w' ⟨rfl, rfl⟩)
    go_ret
    exact ⟨rfl, HB0.out⟩
  | true =>
    cases hy : inB cl 16 with
    | false =>
      go_enter Try.func59, Try.ntmps59
      go_wp2_with (go_at_call 74; refine (isb_any _ _ _).mono ?_; rintro e w' ⟨rfl, rfl⟩)
      go_ret
      exact ⟨rfl, HB0.out⟩
    | true =>
      cases hz : inB nx 8 with
      | false =>
        go_enter Try.func59, Try.ntmps59
        go_wp2_with (go_at_call 74; refine (isb_any _ _ _).mono ?_; rintro e w' ⟨rfl, rfl⟩)
        go_ret
        exact ⟨rfl, HB0.out⟩
      | true =>
        by_cases h3 : (3 : Int) < (os.length : Int)
        · rw [decide_eq_false (show ¬ os.length ≤ 3 by omega)]
          go_enter Try.func59, Try.ntmps59
          go_wp2_with (go_at_call 74; refine (isb_any _ _ _).mono ?_; rintro e w' ⟨rfl, rfl⟩)
          go_ret
          exact ⟨rfl, HB0.out⟩
        · rw [decide_eq_true (show os.length ≤ 3 by omega)]
          go_enter Try.func59, Try.ntmps59
          go_wp2_with (first | (go_at_call 74; refine (isb_any _ _ _).mono ?_; rintro e w' ⟨rfl, rfl⟩) | (go_at_call 65; refine C4.mono ?_; rintro e w1 ⟨rfl, hb1⟩))
          go_ret
          have h4 : decide ((3 : Int) < (os.length : Int)) = false := decide_eq_false (by omega)
          exact ⟨by cases u <;> simp [h4, Array.getD], (HB0.out).trans (hb1.mono (HB0.out).size)⟩
end Go.Proofs.Ytpifkoblcbjiiaa
