/- Proved: keys and messages as plain data, their order; contracts of what compares keys: vtime.Cmp, and the document's own comparison. -/
import Derived.Test.YtpkemgpnpadkfaaBas
namespace Go.Proofs.Ytpkemgpnpadkfaa
open Go.RowKit Go.Sort
set_option linter.unusedVariables false

abbrev K := Int × Int × Int
abbrev M := K × Int × Int × Int
def enc (m : M) : List Value := [.int .i64 m.1.1, .int .i64 m.1.2.1, .int .i64 m.1.2.2, .int .i64 m.2.1, .int .i64 m.2.2.1, .int .i64 m.2.2.2]
theorem enc_len (m : M) : (enc m).length = 6 := rfl
theorem enc_one (m : M) : ∀ v ∈ enc m, v.oneCell' = true := by
  intro v hv
  simp [enc] at hv
  rcases hv with rfl | rfl | rfl | rfl | rfl | rfl <;> rfl
abbrev kv (k : K) : Value := .agg #[.int .i64 k.1, .int .i64 k.2.1, .int .i64 k.2.2]
abbrev mv (m : M) : Value := .agg #[.int .i64 m.1.1, .int .i64 m.1.2.1, .int .i64 m.1.2.2, .int .i64 m.2.1, .int .i64 m.2.2.1, .int .i64 m.2.2.2]
def i64 (x : Int) : Prop := -9223372036854775808 ≤ x ∧ x ≤ 9223372036854775807
def kwf (k : K) : Prop := i64 k.1 ∧ i64 k.2.1 ∧ i64 k.2.2
def mwf (m : M) : Prop := kwf m.1 ∧ i64 m.2.1 ∧ i64 m.2.2.1 ∧ i64 m.2.2.2

/-! ### The order of keys -/
def cmpI (x y : Int) : Int := if x < y then -1 else if y < x then 1 else 0
def or3 (a b c : Int) : Int := if a ≠ 0 then a else if b ≠ 0 then b else c
def kcmp (a b : K) : Int := or3 (cmpI a.1 b.1) (cmpI a.2.1 b.2.1) (cmpI a.2.2 b.2.2)
def klt (a b : K) : Bool := decide (kcmp a b < 0)
theorem klt_iff (a b : K) : klt a b = true ↔ (a.1 < b.1 ∨ (a.1 = b.1 ∧ (a.2.1 < b.2.1 ∨ (a.2.1 = b.2.1 ∧ a.2.2 < b.2.2)))) := by
  unfold klt kcmp or3 cmpI
  rw [decide_eq_true_iff]
  repeat' split
  all_goals omega
theorem klt_false_iff (a b : K) : klt a b = false ↔ ¬ (a.1 < b.1 ∨ (a.1 = b.1 ∧ (a.2.1 < b.2.1 ∨ (a.2.1 = b.2.1 ∧ a.2.2 < b.2.2)))) := by
  rw [← klt_iff]; simp
theorem klt_irrefl (a : K) : klt a a = false := by rw [klt_false_iff]; omega
theorem klt_trans {a b c : K} (h : klt a b = true) (g : klt b c = true) : klt a c = true := by rw [klt_iff] at *; omega
theorem klt_asymm {a b : K} (h : klt a b = true) : klt b a = false := by rw [klt_iff] at h; rw [klt_false_iff]; omega
theorem kle_trans {a b c : K} (h : klt b a = false) (g : klt c b = false) : klt c a = false := by rw [klt_false_iff] at *; omega
theorem klt_of_lt_of_le {a b c : K} (h : klt a b = true) (g : klt c b = false) : klt a c = true := by rw [klt_iff] at *; rw [klt_false_iff] at g; omega
theorem keq_of {a b : K} (h : klt a b = false) (g : klt b a = false) : a = b := by
  rw [klt_false_iff] at h g
  obtain ⟨a1, a2, a3⟩ := a
  obtain ⟨b1, b2, b3⟩ := b
  simp only [Prod.mk.injEq] at *
  omega
theorem klt_or {a b : K} (h : a ≠ b) : klt a b = true ∨ klt b a = true := by
  cases h1 : klt a b
  · cases h2 : klt b a
    · exact absurd (keq_of h1 h2) h
    · exact .inr rfl
  · exact .inl rfl
theorem kcmp_self (a : K) : kcmp a a = 0 := by unfold kcmp or3 cmpI; simp
theorem kcmp_pos (a b : K) : 0 < kcmp a b ↔ klt b a = true := by
  rw [klt_iff]
  unfold kcmp or3 cmpI
  repeat' split
  all_goals omega
theorem kcmp_neg (a b : K) : kcmp a b < 0 ↔ klt a b = true := by unfold klt; rw [decide_eq_true_iff]


set_option maxHeartbeats 400000 in
theorem isNaN_any (x : Int) (w : World) :
    Calls Try.prog 35 #[.int .i64 x] w fun e w' => e = .returned (.bool false) ∧ w' = w := by
  go_enter Try.func35, Try.ntmps35
  go_wp2
  go_ret
  exact ⟨rfl, rfl⟩

set_option maxHeartbeats 400000 in
theorem compare_any (x y : Int) (w : World) :
    Calls Try.prog 33 #[.int .i64 x, .int .i64 y] w fun e w' => e = .returned (.int .i64 (cmpI x y)) ∧ w' = w := by
  by_cases h : x < y
  · rw [show cmpI x y = -1 from if_pos h]
    go_enter Try.func33, Try.ntmps33
    go_wp2
    go_ret
    exact ⟨rfl, rfl⟩
  · by_cases g : y < x
    · rw [show cmpI x y = 1 from by unfold cmpI; rw [if_neg h, if_pos g]]
      go_enter Try.func33, Try.ntmps33
      go_wp2
      go_ret
      exact ⟨rfl, rfl⟩
    · rw [show cmpI x y = 0 from by unfold cmpI; rw [if_neg h, if_neg g]]
      go_enter Try.func33, Try.ntmps33
      go_wp2
      go_ret
      exact ⟨rfl, rfl⟩


theorem ret_int {k : IntKind} {a b : Int} (h : a = b) : Ending.returned (.int k a) = .returned (.int k b) := by rw [h]

set_option maxHeartbeats 400000 in
theorem or_any (a b c : Int) (blk off cap : Nat) (w : World)
    (h0 : w.cell? ⟨blk, off, none⟩ = some (.int .i64 a)) (h1 : w.cell? ⟨blk, off + 1, none⟩ = some (.int .i64 b))
    (h2 : w.cell? ⟨blk, off + 2, none⟩ = some (.int .i64 c)) :
    Calls Try.prog 32 #[.slice (some ⟨blk, off, none⟩) 3 cap] w fun e w' => e = .returned (.int .i64 (or3 a b c)) ∧ w' = w := by
  go_enter Try.func32, Try.ntmps32
  go_wp2
  go_loop [8] (fun i => i = .int .i64 0 ∨ (i = .int .i64 1 ∧ a = 0) ∨ (i = .int .i64 2 ∧ a = 0 ∧ b = 0) ∨ (i = .int .i64 3 ∧ a = 0 ∧ b = 0 ∧ c = 0)) (fun i => 3 - (intOf i).toNat)
  case atStart => exact Or.inl rfl
  case round =>
    rcases hrel with rfl | ⟨rfl, ha⟩ | ⟨rfl, ha, hb⟩ | ⟨rfl, ha, hb, hc⟩
    · by_cases ha : a = 0
      · have hk : (a != 0) = false := by simpa using ha
        have HA : Hid (a = 0) := ha
        clear ha
        go_wp2
        go_round
        case rel => exact Or.inr (Or.inl ⟨by go_num, HA.out⟩)
        case measure => simp [intOf]
      · have hk : (a != 0) = true := by simpa using ha
        go_wp2
        go_ret
        exact ⟨ret_int (by unfold or3; rw [if_pos ha]), rfl⟩
    · have HA : Hid (a = 0) := ha
      clear ha
      by_cases hb : b = 0
      · have hk : (b != 0) = false := by simpa using hb
        have HB : Hid (b = 0) := hb
        clear hb
        go_wp2
        go_round
        case rel => exact Or.inr (Or.inr (Or.inl ⟨by go_num, HA.out, HB.out⟩))
        case measure => simp [intOf]
      · have hk : (b != 0) = true := by simpa using hb
        go_wp2
        go_ret
        exact ⟨ret_int (by unfold or3; rw [if_neg (by simpa using HA.out), if_pos hb]), rfl⟩
    · have HA : Hid (a = 0) := ha
      have HB : Hid (b = 0) := hb
      clear ha hb
      by_cases hc : c = 0
      · have hk : (c != 0) = false := by simpa using hc
        have HC : Hid (c = 0) := hc
        clear hc
        go_wp2
        go_round
        case rel => exact Or.inr (Or.inr (Or.inr ⟨by go_num, HA.out, HB.out, HC.out⟩))
        case measure => simp [intOf]
      · have hk : (c != 0) = true := by simpa using hc
        go_wp2
        go_ret
        exact ⟨ret_int (by unfold or3; rw [if_neg (by simpa using HA.out), if_neg (by simpa using HB.out)]), rfl⟩
    · have HA : Hid (a = 0) := ha
      have HB : Hid (b = 0) := hb
      have HC : Hid (c = 0) := hc
      clear ha hb hc
      go_wp2
      go_ret
      exact ⟨ret_int (by unfold or3; rw [if_neg (by simpa using HA.out), if_neg (by simpa using HB.out), HC.out]), rfl⟩


theorem grow3_drew (w : World) (o1 o2 o3 : Obj) : (((w.alloc o1).alloc o2).alloc o3).drew = grow (w.drewN 1) (#[o1] ++ #[o2] ++ #[o3]) := by
  rw [alloc_eq_grow, alloc_eq_grow, alloc_eq_grow, grow_grow, grow_grow]
  rfl
theorem grow2_drewN (w : World) (o1 o2 : Obj) (q : Nat) (os : Array Obj) : grow (((w.alloc o1).alloc o2).drewN q) os = grow (w.drewN q) (#[o1] ++ #[o2] ++ os) := by
  rw [alloc_eq_grow, alloc_eq_grow, grow_grow]
  show grow (grow (w.drewN q) (#[o1] ++ #[o2])) os = _
  rw [grow_grow]
theorem or_new (a b c : Int) (blk : Nat) (W : World) (hb : W.heap.size = blk) :
    Calls Try.prog 32 #[.slice (some ⟨blk, 0, none⟩) 3 3] (W.alloc (.cells #[.int .i64 a, .int .i64 b, .int .i64 c] 3)).drew
      fun e w' => e = .returned (.int .i64 (or3 a b c)) ∧ w' = (W.alloc (.cells #[.int .i64 a, .int .i64 b, .int .i64 c] 3)).drew := by
  subst hb
  refine or_any a b c _ 0 3 _ ?_ ?_ ?_
  · go_simp
  · go_simp
  · go_simp

set_option maxHeartbeats 1000000 in
theorem cmp_any (a b : K) (w : World) :
    Calls Try.prog 27 #[kv a, kv b] w
      fun e w' => e = .returned (.int .i64 (kcmp a b)) ∧ ∃ q os, w' = grow (w.drewN q) os := by
  obtain ⟨a1, a2, a3⟩ := a
  obtain ⟨b1, b2, b3⟩ := b
  go_enter Try.func27, Try.ntmps27
  go_wp2_with fail
  go_region_held3 (fun w' => w'.cell? ⟨w.heap.size, 0, none⟩ = some (.int .i64 a1) ∧ w'.cell? ⟨w.heap.size, 1, none⟩ = some (.int .i64 a2) ∧ w'.cell? ⟨w.heap.size, 2, none⟩ = some (.int .i64 a3) ∧ w'.cell? ⟨w.heap.size + 1, 0, none⟩ = some (.int .i64 b1) ∧ w'.cell? ⟨w.heap.size + 1, 1, none⟩ = some (.int .i64 b2) ∧ w'.cell? ⟨w.heap.size + 1, 2, none⟩ = some (.int .i64 b3)) (go_keep) (first | (go_at_call 33; refine (compare_any _ _ _).mono ?_; rintro e w' ⟨rfl, rfl⟩) | (go_at_call 32; refine (or_new _ _ _ _ _ ?_).mono ?_; (focus simp); rintro e w' ⟨rfl, rfl⟩))
  go_wp2
  go_ret
  exact ⟨rfl, 1, _, grow3_drew _ _ _ _⟩

set_option maxHeartbeats 400000 in
theorem refcmp_lt1 (a1 a2 a3 b1 b2 b3 : Int) (w : World) (h : a1 < b1) :
    Calls Try.prog 23 #[.agg #[.int .i64 a1, .int .i64 a2, .int .i64 a3], .agg #[.int .i64 b1, .int .i64 b2, .int .i64 b3]] w
      fun e w' => e = .returned (.int .i64 (-1)) ∧ Below w.heap.size w w' := by
  have k1 : (a1 == b1) = false := by simp; omega
  go_enter Try.func23, Try.ntmps23
  go_wp2
  go_ret
  exact ⟨rfl, ((Below.refl _ _).alloc (Nat.le_refl _) _).alloc (by simp) _⟩

set_option maxHeartbeats 400000 in
theorem refcmp_gt1 (a1 a2 a3 b1 b2 b3 : Int) (w : World) (h : b1 < a1) :
    Calls Try.prog 23 #[.agg #[.int .i64 a1, .int .i64 a2, .int .i64 a3], .agg #[.int .i64 b1, .int .i64 b2, .int .i64 b3]] w
      fun e w' => e = .returned (.int .i64 1) ∧ Below w.heap.size w w' := by
  have k1 : (a1 == b1) = false := by simp; omega
  have k2 : ¬ a1 < b1 := by omega
  go_enter Try.func23, Try.ntmps23
  go_wp2
  go_ret
  exact ⟨rfl, ((Below.refl _ _).alloc (Nat.le_refl _) _).alloc (by simp) _⟩

set_option maxHeartbeats 400000 in
theorem refcmp_lt2 (a1 a2 a3 b2 b3 : Int) (w : World) (h : a2 < b2) :
    Calls Try.prog 23 #[.agg #[.int .i64 a1, .int .i64 a2, .int .i64 a3], .agg #[.int .i64 a1, .int .i64 b2, .int .i64 b3]] w
      fun e w' => e = .returned (.int .i64 (-1)) ∧ Below w.heap.size w w' := by
  have k1 : (a2 == b2) = false := by simp; omega
  go_enter Try.func23, Try.ntmps23
  go_wp2
  go_ret
  exact ⟨rfl, ((Below.refl _ _).alloc (Nat.le_refl _) _).alloc (by simp) _⟩

set_option maxHeartbeats 400000 in
theorem refcmp_gt2 (a1 a2 a3 b2 b3 : Int) (w : World) (h : b2 < a2) :
    Calls Try.prog 23 #[.agg #[.int .i64 a1, .int .i64 a2, .int .i64 a3], .agg #[.int .i64 a1, .int .i64 b2, .int .i64 b3]] w
      fun e w' => e = .returned (.int .i64 1) ∧ Below w.heap.size w w' := by
  have k1 : (a2 == b2) = false := by simp; omega
  have k2 : ¬ a2 < b2 := by omega
  go_enter Try.func23, Try.ntmps23
  go_wp2
  go_ret
  exact ⟨rfl, ((Below.refl _ _).alloc (Nat.le_refl _) _).alloc (by simp) _⟩

set_option maxHeartbeats 400000 in
theorem refcmp_lt3 (a1 a2 a3 b3 : Int) (w : World) (h : a3 < b3) :
    Calls Try.prog 23 #[.agg #[.int .i64 a1, .int .i64 a2, .int .i64 a3], .agg #[.int .i64 a1, .int .i64 a2, .int .i64 b3]] w
      fun e w' => e = .returned (.int .i64 (-1)) ∧ Below w.heap.size w w' := by
  have k1 : (a3 == b3) = false := by simp; omega
  go_enter Try.func23, Try.ntmps23
  go_wp2
  go_ret
  exact ⟨rfl, ((Below.refl _ _).alloc (Nat.le_refl _) _).alloc (by simp) _⟩

set_option maxHeartbeats 400000 in
theorem refcmp_gt3 (a1 a2 a3 b3 : Int) (w : World) (h : b3 < a3) :
    Calls Try.prog 23 #[.agg #[.int .i64 a1, .int .i64 a2, .int .i64 a3], .agg #[.int .i64 a1, .int .i64 a2, .int .i64 b3]] w
      fun e w' => e = .returned (.int .i64 1) ∧ Below w.heap.size w w' := by
  have k1 : (a3 == b3) = false := by simp; omega
  have k2 : ¬ a3 < b3 := by omega
  go_enter Try.func23, Try.ntmps23
  go_wp2
  go_ret
  exact ⟨rfl, ((Below.refl _ _).alloc (Nat.le_refl _) _).alloc (by simp) _⟩

set_option maxHeartbeats 400000 in
theorem refcmp_eq (a1 a2 a3 : Int) (w : World)  :
    Calls Try.prog 23 #[.agg #[.int .i64 a1, .int .i64 a2, .int .i64 a3], .agg #[.int .i64 a1, .int .i64 a2, .int .i64 a3]] w
      fun e w' => e = .returned (.int .i64 0) ∧ Below w.heap.size w w' := by
  go_enter Try.func23, Try.ntmps23
  go_wp2
  go_ret
  exact ⟨rfl, ((Below.refl _ _).alloc (Nat.le_refl _) _).alloc (by simp) _⟩


theorem refcmp_any (a b : K) (w : World) :
    Calls Try.prog 23 #[kv a, kv b] w
      fun e w' => e = .returned (.int .i64 (kcmp a b)) ∧ Below w.heap.size w w' := by
  obtain ⟨a1, a2, a3⟩ := a
  obtain ⟨b1, b2, b3⟩ := b
  by_cases h1 : a1 < b1
  · rw [show kcmp (a1, a2, a3) (b1, b2, b3) = -1 from by simp [kcmp, or3, cmpI, h1]]
    exact refcmp_lt1 _ _ _ _ _ _ w h1
  · by_cases g1 : b1 < a1
    · rw [show kcmp (a1, a2, a3) (b1, b2, b3) = 1 from by simp [kcmp, or3, cmpI, h1, g1]]
      exact refcmp_gt1 _ _ _ _ _ _ w g1
    · obtain rfl : b1 = a1 := by omega
      by_cases h2 : a2 < b2
      · rw [show kcmp (b1, a2, a3) (b1, b2, b3) = -1 from by simp [kcmp, or3, cmpI, h2]]
        exact refcmp_lt2 _ _ _ _ _ w h2
      · by_cases g2 : b2 < a2
        · rw [show kcmp (b1, a2, a3) (b1, b2, b3) = 1 from by simp [kcmp, or3, cmpI, h2, g2]]
          exact refcmp_gt2 _ _ _ _ _ w g2
        · obtain rfl : b2 = a2 := by omega
          by_cases h3 : a3 < b3
          · rw [show kcmp (b1, b2, a3) (b1, b2, b3) = -1 from by simp [kcmp, or3, cmpI, h3]]
            exact refcmp_lt3 _ _ _ _ w h3
          · by_cases g3 : b3 < a3
            · rw [show kcmp (b1, b2, a3) (b1, b2, b3) = 1 from by simp [kcmp, or3, cmpI, h3, g3]]
              exact refcmp_gt3 _ _ _ _ w g3
            · obtain rfl : b3 = a3 := by omega
              rw [show kcmp (b1, b2, b3) (b1, b2, b3) = 0 from by simp [kcmp, or3, cmpI]]
              exact refcmp_eq _ _ _ w

end Go.Proofs.Ytpkemgpnpadkfaa
