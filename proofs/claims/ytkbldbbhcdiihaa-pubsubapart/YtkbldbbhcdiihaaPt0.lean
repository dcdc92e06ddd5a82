/- Proved: classes as bits of a number; how the program's table lies in memory; its check; what puts a class in, and takes it out. -/
import Derived.Test.YtkbldbbhcdiihaaIfc
import Derived.Laws.BitsAllLaws
namespace Go.Proofs.Ytkbldbbhcdiihaa
open Go.RowKit Go.Shelf
set_option linter.unusedVariables false

/-! ### Bits -/
theorem bit_in (u c i : Nat) : (u ||| 2 ^ c).testBit i = (u.testBit i || decide (c = i)) := by
  rw [Nat.testBit_or, Nat.testBit_two_pow]
theorem two_lt {c : Nat} (h : c < 16) : 2 ^ c < 4294967296 := Nat.lt_of_lt_of_le (Nat.pow_lt_pow_right (by decide) h) (by decide)
theorem bit_out (u c i : Nat) (hc : c < 16) (hi : i < 16) : (u &&& (4294967295 - 2 ^ c)).testBit i = (u.testBit i && !decide (c = i)) := by
  have e : 4294967295 - 2 ^ c = 2 ^ 32 - (2 ^ c + 1) := by
    rw [show (2 : Nat) ^ 32 = 4294967296 from by decide]
    omega
  rw [Nat.testBit_and, e, Nat.testBit_two_pow_sub_succ (by simpa using two_lt hc), Nat.testBit_two_pow]
  have : decide (i < 32) = true := by simp; omega
  rw [this, Bool.true_and]
theorem or_lt {u m : Nat} (hu : u < 4294967296) (hm : m < 4294967296) : u ||| m < 4294967296 := by
  have := Nat.or_lt_two_pow (n := 32) (by simpa using hu) (by simpa using hm)
  simpa using this
theorem and_lt {u m : Nat} (hu : u < 4294967296) : u &&& m < 4294967296 := Nat.lt_of_le_of_lt Nat.and_le_left hu
theorem and_bit (u c : Nat) : decide (u &&& 2 ^ c = 0) = !u.testBit c := by
  cases h : u.testBit c with
  | true =>
    refine decide_eq_false (fun e => ?_)
    have g := congrArg (fun n => n.testBit c) e
    simp [Nat.testBit_and, h] at g
  | false =>
    refine decide_eq_true (Nat.eq_of_testBit_eq (fun i => ?_))
    rw [Nat.testBit_and, Nat.testBit_two_pow, Nat.zero_testBit]
    by_cases e : c = i
    · rw [← e, h]; rfl
    · rw [decide_eq_false e, Bool.and_false]
theorem sh_two {c : Nat} (h : c < 16) : IntKind.u32.wrap (1 * 2 ^ c) = ((2 ^ c : Nat) : Int) := by
  rw [IntKind.wrap_u32', Int.one_mul]
  have := two_lt h
  have e : ((2 : Int) ^ c) = ((2 ^ c : Nat) : Int) := by simp
  rw [e]
  exact Int.emod_eq_of_lt (Int.natCast_nonneg _) (by simpa using Int.ofNat_lt.2 this)
/-- What is put in, or taken out. -/
def turnN (u c : Nat) (is : Bool) : Nat := if is then u ||| 2 ^ c else u &&& (4294967295 - 2 ^ c)
theorem turnN_lt {u c : Nat} (is : Bool) (hu : u < 4294967296) (hc : c < 16) : turnN u c is < 4294967296 := by
  unfold turnN
  split
  · exact or_lt hu (two_lt hc)
  · exact and_lt hu
theorem turnN_bit {u c i : Nat} (is : Bool) (hc : c < 16) (hi : i < 16) : (turnN u c is).testBit i = if i = c then is else u.testBit i := by
  unfold turnN
  cases is with
  | true =>
    rw [if_pos rfl, bit_in]
    by_cases e : i = c
    · rw [if_pos e, e]; simp
    · rw [if_neg e, decide_eq_false (fun g => e g.symm)]; simp
  | false =>
    rw [if_neg (by decide), bit_out u c i hc hi]
    by_cases e : i = c
    · rw [if_pos e, e]; simp
    · rw [if_neg e, decide_eq_false (fun g => e g.symm)]; simp

set_option maxRecDepth 100000 in
theorem have_any (w : World) (u c : Nat) (hu : u < 4294967296) (hc : c < 16) :
    Calls Try.prog 30 #[.int .u32 (u : Int), .int .i64 (c : Int)] w fun e w' => e = .returned (.bool (u.testBit c)) ∧ w = w' := by
  obtain ⟨m, hm⟩ : ∃ m, 2 ^ c = m := ⟨_, rfl⟩
  have hml := two_lt hc
  have hsh : Op.shift .shl .u32 1 .i64 (c : Int) = pure (.int .u32 (m : Int)) := by
    rw [shift_shl .u32 .i64 1 (c : Int) (by omega) (by simp [IntKind.bits]; omega), ← hm]
    have e : ((c : Int)).toNat = c := by simp
    rw [e, sh_two hc]
  have hb := and_bit u c
  rw [hm] at hb hml
  have ha := u32_and_nat u m hu hml
  obtain ⟨t, ht⟩ : ∃ t, u &&& m = t := ⟨_, rfl⟩
  rw [ht] at ha hb
  have HB : Hid _ := hb
  clear hb ht hm hc
  go_enter Try.func30, Try.ntmps30
  go_wp2
  go_ret
  refine ⟨?_, rfl⟩
  have e : ((t : Int) != 0) = u.testBit c := by
    have h := HB.out
    cases g : u.testBit c <;> rw [g] at h <;> simp at h ⊢ <;> omega
  simp [e, Array.getD]

/-! ### What puts a class in, and takes it out -/
set_option maxRecDepth 100000 in
theorem in_any (w : World) (c : Nat) :
    Calls Try.prog 41 #[.int .i64 (c : Int)] w fun e w' => e = .returned (.func (.func 45) #[] #[.pointer (some ⟨w.heap.size, 0, none⟩)]) ∧ w' = w.alloc (.cells #[.int .i64 (c : Int)] 3) := by
  go_enter Try.func41, Try.ntmps41
  go_wp2
  go_ret
  exact ⟨rfl, rfl⟩
set_option maxRecDepth 100000 in
theorem out_any (w : World) (c : Nat) :
    Calls Try.prog 40 #[.int .i64 (c : Int)] w fun e w' => e = .returned (.func (.func 44) #[] #[.pointer (some ⟨w.heap.size, 0, none⟩)]) ∧ w' = w.alloc (.cells #[.int .i64 (c : Int)] 3) := by
  go_enter Try.func40, Try.ntmps40
  go_wp2
  go_ret
  exact ⟨rfl, rfl⟩
set_option maxRecDepth 100000 in
theorem puts_any (w : World) (b u c : Nat) (hu : u < 4294967296) (hc : c < 16) (hb : w.cell? ⟨b, 0, none⟩ = some (.int .i64 (c : Int))) :
    Calls Try.prog 45 #[.int .u32 (u : Int), .pointer (some ⟨b, 0, none⟩)] w fun e w' => e = .returned (.int .u32 (turnN u c true : Nat)) ∧ w = w' := by
  obtain ⟨m, hm⟩ : ∃ m, 2 ^ c = m := ⟨_, rfl⟩
  have hml := two_lt hc
  have hsh : Op.shift .shl .u32 1 .i64 (c : Int) = pure (.int .u32 (m : Int)) := by
    rw [shift_shl .u32 .i64 1 (c : Int) (by omega) (by simp [IntKind.bits]; omega), ← hm]
    have e : ((c : Int)).toNat = c := by simp
    rw [e, sh_two hc]
  have ht : turnN u c true = u ||| m := by rw [← hm]; rfl
  rw [hm] at hml
  have ha := u32_or_nat u m hu hml
  rw [← ht] at ha
  obtain ⟨t, hT⟩ : ∃ t, turnN u c true = t := ⟨_, rfl⟩
  rw [hT] at ha ⊢
  clear ht hT hm hc
  go_enter Try.func45, Try.ntmps45
  go_wp2
  go_ret
  exact ⟨rfl, rfl⟩
set_option maxRecDepth 100000 in
theorem takes_any (w : World) (b u c : Nat) (hu : u < 4294967296) (hc : c < 16) (hb : w.cell? ⟨b, 0, none⟩ = some (.int .i64 (c : Int))) :
    Calls Try.prog 44 #[.int .u32 (u : Int), .pointer (some ⟨b, 0, none⟩)] w fun e w' => e = .returned (.int .u32 (turnN u c false : Nat)) ∧ w = w' := by
  obtain ⟨m, hm⟩ : ∃ m, 2 ^ c = m := ⟨_, rfl⟩
  have hml := two_lt hc
  have hsh : Op.shift .shl .u32 1 .i64 (c : Int) = pure (.int .u32 (m : Int)) := by
    rw [shift_shl .u32 .i64 1 (c : Int) (by omega) (by simp [IntKind.bits]; omega), ← hm]
    have e : ((c : Int)).toNat = c := by simp
    rw [e, sh_two hc]
  have ht : turnN u c false = u &&& (4294967295 - m) := by rw [← hm]; rfl
  rw [hm] at hml
  have ha := u32_andNot_nat u m hu hml
  rw [← ht] at ha
  obtain ⟨t, hT⟩ : ∃ t, turnN u c false = t := ⟨_, rfl⟩
  rw [hT] at ha ⊢
  clear ht hT hm hc
  go_enter Try.func44, Try.ntmps44
  go_wp2
  go_ret
  exact ⟨rfl, rfl⟩

/-! ### Which federates, which classes there are -/
set_option maxRecDepth 100000 in
theorem isfed_any (w : World) (f : Int) :
    Calls Try.prog 36 #[.int .i64 f] w fun e w' => e = .returned (.bool (decide (okF f = 0))) ∧ w = w' := by
  unfold okF
  by_cases h1 : f < 0
  · have d1 : decide (0 ≤ f) = false := by simpa using h1
    rw [if_pos (.inl h1)]
    go_enter Try.func36, Try.ntmps36
    go_wp2
    go_ret
    exact ⟨rfl, rfl⟩
  · have h1' : 0 ≤ f := by omega
    have d1 : decide (0 ≤ f) = true := by simpa using h1'
    by_cases h2 : 8 ≤ f
    · have d2 : decide (f < 8) = false := by simpa using h2
      rw [if_pos (.inr h2)]
      go_enter Try.func36, Try.ntmps36
      go_wp2
      go_ret
      exact ⟨rfl, rfl⟩
    · have h2' : f < 8 := by omega
      have d2 : decide (f < 8) = true := by simpa using h2'
      rw [if_neg (by omega)]
      go_enter Try.func36, Try.ntmps36
      go_wp2
      go_ret
      exact ⟨rfl, rfl⟩
set_option maxRecDepth 100000 in
theorem pchk_any (w : World) (tb : Nat) (az : Option Addr) (cz : Nat) (zs : List Int) (f c : Int) (h0 : w.cell? ⟨tb, 0, none⟩ = some (.slice az zs.length cz)) :
    Calls Try.prog 29 #[.pointer (some ⟨tb, 0, none⟩), .int .i64 f, .int .i64 c] w fun e w' => e = .returned (.int .i64 (okFC zs.length f c)) ∧ w = w' := by
  have I1 := isfed_any w f
  unfold okF at I1
  unfold okFC
  by_cases h1 : f < 0 ∨ 8 ≤ f
  · rw [if_pos h1] at I1 ⊢
    clear h1
    go_enter Try.func29, Try.ntmps29
    go_wp2_with (go_at_call 36; refine I1.mono ?_; rintro e w' ⟨rfl, rfl⟩)
    go_ret
    exact ⟨rfl, rfl⟩
  · rw [if_neg h1] at I1 ⊢
    clear h1
    by_cases h3 : c < 0
    · have d3 : decide (c < 0) = true := by simpa using h3
      rw [if_pos (.inl h3)]
      go_enter Try.func29, Try.ntmps29
      go_wp2_with (go_at_call 36; refine I1.mono ?_; rintro e w' ⟨rfl, rfl⟩)
      go_ret
      exact ⟨rfl, rfl⟩
    · have d3 : decide (c < 0) = false := by simpa using h3
      by_cases h4 : (zs.length : Int) ≤ c
      · have d4 : decide ((zs.length : Int) ≤ c) = true := by simpa using h4
        rw [if_pos (.inr h4)]
        go_enter Try.func29, Try.ntmps29
        go_wp2_with (go_at_call 36; refine I1.mono ?_; rintro e w' ⟨rfl, rfl⟩)
        go_ret
        exact ⟨rfl, rfl⟩
      · have d4 : decide ((zs.length : Int) ≤ c) = false := by simpa using h4
        rw [if_neg (by omega)]
        go_enter Try.func29, Try.ntmps29
        go_wp2_with (go_at_call 36; refine I1.mono ?_; rintro e w' ⟨rfl, rfl⟩)
        go_ret
        exact ⟨rfl, rfl⟩
end Go.Proofs.Ytkbldbbhcdiihaa
