/- Proved: contracts of what compares keys and messages: vtime.Cmp, the pile's inTurn, and the document's own comparison. -/
import Derived.Test.YtmfcbalhabcodaaGreatJRow
import Derived.RegionTactic
import Derived.LoopTactic
import Derived.Deep.RegionWith
import Derived.Deep.QuietTactic
import Derived.BigQuiet
import Derived.Shelf.SlSortCmp.QuietGrown
import Derived.Outline
import Derived.RowKit3
namespace Go.Proofs.YtmfcbalhabcodaaGreat
open Go.RowKit Go.Sort
set_option linter.unusedVariables false

abbrev K := Int × Int × Int
abbrev kv (k : K) : Value := .agg #[.int .i64 k.1, .int .i64 k.2.1, .int .i64 k.2.2]
def cmpI (x y : Int) : Int := if x < y then -1 else if y < x then 1 else 0
def or3 (a b c : Int) : Int := if a ≠ 0 then a else if b ≠ 0 then b else c
def or2 (a b : Int) : Int := if a ≠ 0 then a else b
def kcmp (a b : K) : Int := or3 (cmpI a.1 b.1) (cmpI a.2.1 b.2.1) (cmpI a.2.2 b.2.2)
abbrev ky (x : M) : K := (x.t, x.fr, x.sq)
/-- Which of both is first: by their keys, then by whom they go to. -/
def mcmp (a b : M) : Int := or2 (kcmp (ky a) (ky b)) (cmpI a.dst b.dst)
theorem below_grow (w : World) (q : Nat) (os : Array Obj) : Below w.heap.size w (grow (w.drewN q) os) :=
  ⟨rfl, rfl, rfl, by simp [grow, World.drewN], fun k hk => by simp [grow, World.drewN, Array.getElem?_append, hk]⟩

set_option maxHeartbeats 400000 in
theorem isNaN_any (x : Int) (w : World) :
    Calls Tryz.prog 125 #[.int .i64 x] w fun e w' => e = .returned (.bool false) ∧ w' = w := by
  go_enter Tryz.func125, Tryz.ntmps125
  go_wp2
  go_ret
  exact ⟨rfl, rfl⟩

set_option maxHeartbeats 400000 in
theorem compare_any (x y : Int) (w : World) :
    Calls Tryz.prog 98 #[.int .i64 x, .int .i64 y] w fun e w' => e = .returned (.int .i64 (cmpI x y)) ∧ w' = w := by
  by_cases h : x < y
  · rw [show cmpI x y = -1 from if_pos h]
    go_enter Tryz.func98, Tryz.ntmps98
    go_wp2
    go_ret
    exact ⟨rfl, rfl⟩
  · by_cases g : y < x
    · rw [show cmpI x y = 1 from by unfold cmpI; rw [if_neg h, if_pos g]]
      go_enter Tryz.func98, Tryz.ntmps98
      go_wp2
      go_ret
      exact ⟨rfl, rfl⟩
    · rw [show cmpI x y = 0 from by unfold cmpI; rw [if_neg h, if_neg g]]
      go_enter Tryz.func98, Tryz.ntmps98
      go_wp2
      go_ret
      exact ⟨rfl, rfl⟩


theorem ret_int {k : IntKind} {a b : Int} (h : a = b) : Ending.returned (.int k a) = .returned (.int k b) := by rw [h]

set_option maxHeartbeats 400000 in
theorem or_any (a b c : Int) (blk off cap : Nat) (w : World)
    (h0 : w.cell? ⟨blk, off, none⟩ = some (.int .i64 a)) (h1 : w.cell? ⟨blk, off + 1, none⟩ = some (.int .i64 b))
    (h2 : w.cell? ⟨blk, off + 2, none⟩ = some (.int .i64 c)) :
    Calls Tryz.prog 96 #[.slice (some ⟨blk, off, none⟩) 3 cap] w fun e w' => e = .returned (.int .i64 (or3 a b c)) ∧ w' = w := by
  go_enter Tryz.func96, Tryz.ntmps96
  go_wp2
  go_loop [8] (fun i => i = .int .i64 0 ∨ (i = .int .i64 1 ∧ a = 0) ∨ (i = .int .i64 2 ∧ a = 0 ∧ b = 0) ∨ (i = .int .i64 3 ∧ a = 0 ∧ b = 0 ∧ c = 0)) (fun i => 3 - (intOf i).toNat)
  case atStart => exact Or.inl rfl
  case round =>
    rcases hrel with rfl | ⟨rfl, ha⟩ | ⟨rfl, ha, hb⟩ | ⟨rfl, ha, hb, hc⟩
    · by_cases ha : a = 0
      · have hk : (a != 0) = false := by simpa using ha
        have HA : Hid (a = 0) := ha
        clear ha
        go_wp2
        go_round
        case rel => exact Or.inr (Or.inl ⟨by go_num, HA.out⟩)
        case measure => simp [intOf]
      · have hk : (a != 0) = true := by simpa using ha
        go_wp2
        go_ret
        exact ⟨ret_int (by unfold or3; rw [if_pos ha]), rfl⟩
    · have HA : Hid (a = 0) := ha
      clear ha
      by_cases hb : b = 0
      · have hk : (b != 0) = false := by simpa using hb
        have HB : Hid (b = 0) := hb
        clear hb
        go_wp2
        go_round
        case rel => exact Or.inr (Or.inr (Or.inl ⟨by go_num, HA.out, HB.out⟩))
        case measure => simp [intOf]
      · have hk : (b != 0) = true := by simpa using hb
        go_wp2
        go_ret
        exact ⟨ret_int (by unfold or3; rw [if_neg (by simpa using HA.out), if_pos hb]), rfl⟩
    · have HA : Hid (a = 0) := ha
      have HB : Hid (b = 0) := hb
      clear ha hb
      by_cases hc : c = 0
      · have hk : (c != 0) = false := by simpa using hc
        have HC : Hid (c = 0) := hc
        clear hc
        go_wp2
        go_round
        case rel => exact Or.inr (Or.inr (Or.inr ⟨by go_num, HA.out, HB.out, HC.out⟩))
        case measure => simp [intOf]
      · have hk : (c != 0) = true := by simpa using hc
        go_wp2
        go_ret
        exact ⟨ret_int (by unfold or3; rw [if_neg (by simpa using HA.out), if_neg (by simpa using HB.out)]), rfl⟩
    · have HA : Hid (a = 0) := ha
      have HB : Hid (b = 0) := hb
      have HC : Hid (c = 0) := hc
      clear ha hb hc
      go_wp2
      go_ret
      exact ⟨ret_int (by unfold or3; rw [if_neg (by simpa using HA.out), if_neg (by simpa using HB.out), HC.out]), rfl⟩


theorem grow3_drew (w : World) (o1 o2 o3 : Obj) : (((w.alloc o1).alloc o2).alloc o3).drew = grow (w.drewN 1) (#[o1] ++ #[o2] ++ #[o3]) := by
  rw [alloc_eq_grow, alloc_eq_grow, alloc_eq_grow, grow_grow, grow_grow]
  rfl
theorem grow2_drewN (w : World) (o1 o2 : Obj) (q : Nat) (os : Array Obj) : grow (((w.alloc o1).alloc o2).drewN q) os = grow (w.drewN q) (#[o1] ++ #[o2] ++ os) := by
  rw [alloc_eq_grow, alloc_eq_grow, grow_grow]
  show grow (grow (w.drewN q) (#[o1] ++ #[o2])) os = _
  rw [grow_grow]
theorem or_new (a b c : Int) (blk : Nat) (W : World) (hb : W.heap.size = blk) :
    Calls Tryz.prog 96 #[.slice (some ⟨blk, 0, none⟩) 3 3] (W.alloc (.cells #[.int .i64 a, .int .i64 b, .int .i64 c] 3)).drew
      fun e w' => e = .returned (.int .i64 (or3 a b c)) ∧ w' = (W.alloc (.cells #[.int .i64 a, .int .i64 b, .int .i64 c] 3)).drew := by
  subst hb
  refine or_any a b c _ 0 3 _ ?_ ?_ ?_
  · go_simp
  · go_simp
  · go_simp

set_option maxHeartbeats 1000000 in
theorem cmp_any (a b : K) (w : World) :
    Calls Tryz.prog 97 #[kv a, kv b] w
      fun e w' => e = .returned (.int .i64 (kcmp a b)) ∧ ∃ q os, w' = grow (w.drewN q) os := by
  obtain ⟨a1, a2, a3⟩ := a
  obtain ⟨b1, b2, b3⟩ := b
  go_enter Tryz.func97, Tryz.ntmps97
  go_wp2_with fail
  go_region_held3 (fun w' => w'.cell? ⟨w.heap.size, 0, none⟩ = some (.int .i64 a1) ∧ w'.cell? ⟨w.heap.size, 1, none⟩ = some (.int .i64 a2) ∧ w'.cell? ⟨w.heap.size, 2, none⟩ = some (.int .i64 a3) ∧ w'.cell? ⟨w.heap.size + 1, 0, none⟩ = some (.int .i64 b1) ∧ w'.cell? ⟨w.heap.size + 1, 1, none⟩ = some (.int .i64 b2) ∧ w'.cell? ⟨w.heap.size + 1, 2, none⟩ = some (.int .i64 b3)) (go_keep) (first | (go_at_call 98; refine (compare_any _ _ _).mono ?_; rintro e w' ⟨rfl, rfl⟩) | (go_at_call 96; refine (or_new _ _ _ _ _ ?_).mono ?_; (focus simp); rintro e w' ⟨rfl, rfl⟩))
  go_wp2
  go_ret
  exact ⟨rfl, 1, _, grow3_drew _ _ _ _⟩

set_option maxHeartbeats 400000 in
theorem or2_any (a b : Int) (blk off cap : Nat) (w : World)
    (h0 : w.cell? ⟨blk, off, none⟩ = some (.int .i64 a)) (h1 : w.cell? ⟨blk, off + 1, none⟩ = some (.int .i64 b)) :
    Calls Tryz.prog 96 #[.slice (some ⟨blk, off, none⟩) 2 cap] w fun e w' => e = .returned (.int .i64 (or2 a b)) ∧ w' = w := by
  go_enter Tryz.func96, Tryz.ntmps96
  go_wp2
  go_loop [8] (fun i => i = .int .i64 0 ∨ (i = .int .i64 1 ∧ a = 0) ∨ (i = .int .i64 2 ∧ a = 0 ∧ b = 0)) (fun i => 2 - (intOf i).toNat)
  case atStart => exact Or.inl rfl
  case round =>
    rcases hrel with rfl | ⟨rfl, ha⟩ | ⟨rfl, ha, hb⟩
    · by_cases ha : a = 0
      · have hk : (a != 0) = false := by simpa using ha
        have HA : Hid (a = 0) := ha
        clear ha
        go_wp2
        go_round
        case rel => exact Or.inr (Or.inl ⟨by go_num, HA.out⟩)
        case measure => simp [intOf]
      · have hk : (a != 0) = true := by simpa using ha
        go_wp2
        go_ret
        exact ⟨ret_int (by unfold or2; rw [if_pos ha]), rfl⟩
    · have HA : Hid (a = 0) := ha
      clear ha
      by_cases hb : b = 0
      · have hk : (b != 0) = false := by simpa using hb
        have HB : Hid (b = 0) := hb
        clear hb
        go_wp2
        go_round
        case rel => exact Or.inr (Or.inr ⟨by go_num, HA.out, HB.out⟩)
        case measure => simp [intOf]
      · have hk : (b != 0) = true := by simpa using hb
        go_wp2
        go_ret
        exact ⟨ret_int (by unfold or2; rw [if_neg (by simpa using HA.out)]), rfl⟩
    · have HA : Hid (a = 0) := ha
      have HB : Hid (b = 0) := hb
      clear ha hb
      go_wp2
      go_ret
      exact ⟨ret_int (by unfold or2; rw [if_neg (by simpa using HA.out), HB.out]), rfl⟩
theorem or2_new (a b : Int) (blk : Nat) (W : World) (hb : W.heap.size = blk) :
    Calls Tryz.prog 96 #[.slice (some ⟨blk, 0, none⟩) 2 2] (W.alloc (.cells #[.int .i64 a, .int .i64 b] 3)).drew
      fun e w' => e = .returned (.int .i64 (or2 a b)) ∧ w' = (W.alloc (.cells #[.int .i64 a, .int .i64 b] 3)).drew := by
  subst hb
  refine or2_any a b _ 0 2 _ ?_ ?_
  · go_simp
  · go_simp
theorem or2_al (a b : Int) (blk : Nat) (W : World) (hb : W.heap.size = blk) :
    Calls Tryz.prog 96 #[.slice (some ⟨blk, 0, none⟩) 2 2] (W.alloc (.cells #[.int .i64 a, .int .i64 b] 3))
      fun e w' => e = .returned (.int .i64 (or2 a b)) ∧ w' = (W.alloc (.cells #[.int .i64 a, .int .i64 b] 3)) := by
  subst hb
  refine or2_any a b _ 0 2 _ ?_ ?_
  · go_simp
  · go_simp

set_option maxHeartbeats 400000 in
theorem refcmp_lt1 (a1 a2 a3 b1 b2 b3 : Int) (w : World) (h : a1 < b1) :
    Calls Tryz.prog 82 #[.agg #[.int .i64 a1, .int .i64 a2, .int .i64 a3], .agg #[.int .i64 b1, .int .i64 b2, .int .i64 b3]] w
      fun e w' => e = .returned (.int .i64 (-1)) ∧ Below w.heap.size w w' := by
  have k1 : (a1 == b1) = false := by simp; omega
  go_enter Tryz.func82, Tryz.ntmps82
  go_wp2
  go_ret
  exact ⟨rfl, ((Below.refl _ _).alloc (Nat.le_refl _) _).alloc (by simp) _⟩

set_option maxHeartbeats 400000 in
theorem refcmp_gt1 (a1 a2 a3 b1 b2 b3 : Int) (w : World) (h : b1 < a1) :
    Calls Tryz.prog 82 #[.agg #[.int .i64 a1, .int .i64 a2, .int .i64 a3], .agg #[.int .i64 b1, .int .i64 b2, .int .i64 b3]] w
      fun e w' => e = .returned (.int .i64 1) ∧ Below w.heap.size w w' := by
  have k1 : (a1 == b1) = false := by simp; omega
  have k2 : ¬ a1 < b1 := by omega
  go_enter Tryz.func82, Tryz.ntmps82
  go_wp2
  go_ret
  exact ⟨rfl, ((Below.refl _ _).alloc (Nat.le_refl _) _).alloc (by simp) _⟩

set_option maxHeartbeats 400000 in
theorem refcmp_lt2 (a1 a2 a3 b2 b3 : Int) (w : World) (h : a2 < b2) :
    Calls Tryz.prog 82 #[.agg #[.int .i64 a1, .int .i64 a2, .int .i64 a3], .agg #[.int .i64 a1, .int .i64 b2, .int .i64 b3]] w
      fun e w' => e = .returned (.int .i64 (-1)) ∧ Below w.heap.size w w' := by
  have k1 : (a2 == b2) = false := by simp; omega
  go_enter Tryz.func82, Tryz.ntmps82
  go_wp2
  go_ret
  exact ⟨rfl, ((Below.refl _ _).alloc (Nat.le_refl _) _).alloc (by simp) _⟩

set_option maxHeartbeats 400000 in
theorem refcmp_gt2 (a1 a2 a3 b2 b3 : Int) (w : World) (h : b2 < a2) :
    Calls Tryz.prog 82 #[.agg #[.int .i64 a1, .int .i64 a2, .int .i64 a3], .agg #[.int .i64 a1, .int .i64 b2, .int .i64 b3]] w
      fun e w' => e = .returned (.int .i64 1) ∧ Below w.heap.size w w' := by
  have k1 : (a2 == b2) = false := by simp; omega
  have k2 : ¬ a2 < b2 := by omega
  go_enter Tryz.func82, Tryz.ntmps82
  go_wp2
  go_ret
  exact ⟨rfl, ((Below.refl _ _).alloc (Nat.le_refl _) _).alloc (by simp) _⟩

set_option maxHeartbeats 400000 in
theorem refcmp_lt3 (a1 a2 a3 b3 : Int) (w : World) (h : a3 < b3) :
    Calls Tryz.prog 82 #[.agg #[.int .i64 a1, .int .i64 a2, .int .i64 a3], .agg #[.int .i64 a1, .int .i64 a2, .int .i64 b3]] w
      fun e w' => e = .returned (.int .i64 (-1)) ∧ Below w.heap.size w w' := by
  have k1 : (a3 == b3) = false := by simp; omega
  go_enter Tryz.func82, Tryz.ntmps82
  go_wp2
  go_ret
  exact ⟨rfl, ((Below.refl _ _).alloc (Nat.le_refl _) _).alloc (by simp) _⟩

set_option maxHeartbeats 400000 in
theorem refcmp_gt3 (a1 a2 a3 b3 : Int) (w : World) (h : b3 < a3) :
    Calls Tryz.prog 82 #[.agg #[.int .i64 a1, .int .i64 a2, .int .i64 a3], .agg #[.int .i64 a1, .int .i64 a2, .int .i64 b3]] w
      fun e w' => e = .returned (.int .i64 1) ∧ Below w.heap.size w w' := by
  have k1 : (a3 == b3) = false := by simp; omega
  have k2 : ¬ a3 < b3 := by omega
  go_enter Tryz.func82, Tryz.ntmps82
  go_wp2
  go_ret
  exact ⟨rfl, ((Below.refl _ _).alloc (Nat.le_refl _) _).alloc (by simp) _⟩

set_option maxHeartbeats 400000 in
theorem refcmp_eq (a1 a2 a3 : Int) (w : World)  :
    Calls Tryz.prog 82 #[.agg #[.int .i64 a1, .int .i64 a2, .int .i64 a3], .agg #[.int .i64 a1, .int .i64 a2, .int .i64 a3]] w
      fun e w' => e = .returned (.int .i64 0) ∧ Below w.heap.size w w' := by
  go_enter Tryz.func82, Tryz.ntmps82
  go_wp2
  go_ret
  exact ⟨rfl, ((Below.refl _ _).alloc (Nat.le_refl _) _).alloc (by simp) _⟩


theorem refcmp_any (a b : K) (w : World) :
    Calls Tryz.prog 82 #[kv a, kv b] w
      fun e w' => e = .returned (.int .i64 (kcmp a b)) ∧ Below w.heap.size w w' := by
  obtain ⟨a1, a2, a3⟩ := a
  obtain ⟨b1, b2, b3⟩ := b
  by_cases h1 : a1 < b1
  · rw [show kcmp (a1, a2, a3) (b1, b2, b3) = -1 from by simp [kcmp, or3, cmpI, h1]]
    exact refcmp_lt1 _ _ _ _ _ _ w h1
  · by_cases g1 : b1 < a1
    · rw [show kcmp (a1, a2, a3) (b1, b2, b3) = 1 from by simp [kcmp, or3, cmpI, h1, g1]]
      exact refcmp_gt1 _ _ _ _ _ _ w g1
    · obtain rfl : b1 = a1 := by omega
      by_cases h2 : a2 < b2
      · rw [show kcmp (b1, a2, a3) (b1, b2, b3) = -1 from by simp [kcmp, or3, cmpI, h2]]
        exact refcmp_lt2 _ _ _ _ _ w h2
      · by_cases g2 : b2 < a2
        · rw [show kcmp (b1, a2, a3) (b1, b2, b3) = 1 from by simp [kcmp, or3, cmpI, h2, g2]]
          exact refcmp_gt2 _ _ _ _ _ w g2
        · obtain rfl : b2 = a2 := by omega
          by_cases h3 : a3 < b3
          · rw [show kcmp (b1, b2, a3) (b1, b2, b3) = -1 from by simp [kcmp, or3, cmpI, h3]]
            exact refcmp_lt3 _ _ _ _ w h3
          · by_cases g3 : b3 < a3
            · rw [show kcmp (b1, b2, a3) (b1, b2, b3) = 1 from by simp [kcmp, or3, cmpI, h3, g3]]
              exact refcmp_gt3 _ _ _ _ w g3
            · obtain rfl : b3 = a3 := by omega
              rw [show kcmp (b1, b2, b3) (b1, b2, b3) = 0 from by simp [kcmp, or3, cmpI]]
              exact refcmp_eq _ _ _ w


/-! ### Worlds that have grown -/
def Gr (w w' : World) : Prop := ∃ q os, w' = grow (w.drewN q) os
theorem Gr.refl (w : World) : Gr w w := ⟨0, #[], by rw [grow_empty]; rfl⟩
theorem Gr.trans {a b c : World} (h : Gr a b) (k : Gr b c) : Gr a c := by
  obtain ⟨q, os, rfl⟩ := h
  obtain ⟨q', os', rfl⟩ := k
  refine ⟨q + q', os ++ os', ?_⟩
  have e : (grow (a.drewN q) os).drewN q' = grow (a.drewN (q + q')) os := by rw [← World.drewN_drewN]; rfl
  rw [e, grow_grow]
theorem Gr.alloc {a b : World} (h : Gr a b) (o : Obj) : Gr a (b.alloc o) := h.trans ⟨0, #[o], by rw [alloc_eq_grow]; rfl⟩
theorem Gr.drew {a b : World} (h : Gr a b) : Gr a b.drew := h.trans ⟨1, #[], by rw [grow_empty]; rfl⟩
theorem Gr.below {a b : World} (h : Gr a b) : Below a.heap.size a b := by
  obtain ⟨q, os, rfl⟩ := h
  exact below_grow _ _ _

set_option maxRecDepth 100000 in
set_option maxHeartbeats 1000000 in
theorem inTurn_any (a b : M) (w : World) :
    Calls Tryz.prog 65 #[mv a, mv b] w
      fun e w' => e = .returned (.int .i64 (mcmp a b)) ∧ ∃ q os, w' = grow (w.drewN q) os := by
  have mixed : Tryz.prog.follows .mixedOrders = true := by kernel_rfl
  obtain ⟨a1, a2, a3, a4, a5, a6⟩ := a
  obtain ⟨b1, b2, b3, b4, b5, b6⟩ := b
  have hc := fun W => cmp_any (a1, a2, a3) (b1, b2, b3) W
  have hm : mcmp ⟨a1, a2, a3, a4, a5, a6⟩ ⟨b1, b2, b3, b4, b5, b6⟩ = or2 (kcmp (a1, a2, a3) (b1, b2, b3)) (cmpI a4 b4) := rfl
  rw [hm]
  have HC : Hid _ := hc
  clear hm hc
  dsimp only [mv] at HC ⊢
  generalize kcmp (a1, a2, a3) (b1, b2, b3) = r at HC ⊢
  obtain ⟨W0, hW0⟩ : ∃ W0, W0 = (w.alloc (.cells #[.int .i64 a1, .int .i64 a2, .int .i64 a3, .int .i64 a4, .int .i64 a5, .int .i64 a6] 38)).alloc (.cells #[.int .i64 b1, .int .i64 b2, .int .i64 b3, .int .i64 b4, .int .i64 b5, .int .i64 b6] 38) := ⟨_, rfl⟩
  have hG0 : Gr w W0 := by rw [hW0]; exact ((Gr.refl w).alloc _).alloc _
  have sA : w.heap.size < W0.heap.size := by rw [hW0]; simp; omega
  have sB : w.heap.size + 1 < W0.heap.size := by rw [hW0]; simp
  have HX : Hid (∀ W, Below W0.heap.size W0 W → W.cell? ⟨w.heap.size, 0, none⟩ = some (.int .i64 a1) ∧ W.cell? ⟨w.heap.size, 1, none⟩ = some (.int .i64 a2) ∧ W.cell? ⟨w.heap.size, 2, none⟩ = some (.int .i64 a3) ∧ W.cell? ⟨w.heap.size, 3, none⟩ = some (.int .i64 a4) ∧ W.cell? ⟨w.heap.size + 1, 0, none⟩ = some (.int .i64 b1) ∧ W.cell? ⟨w.heap.size + 1, 1, none⟩ = some (.int .i64 b2) ∧ W.cell? ⟨w.heap.size + 1, 2, none⟩ = some (.int .i64 b3) ∧ W.cell? ⟨w.heap.size + 1, 3, none⟩ = some (.int .i64 b4)) := fun W hW => by
    refine ⟨(hW.cell (p := ⟨w.heap.size, 0, none⟩) sA).trans ?_, (hW.cell (p := ⟨w.heap.size, 1, none⟩) sA).trans ?_, (hW.cell (p := ⟨w.heap.size, 2, none⟩) sA).trans ?_, (hW.cell (p := ⟨w.heap.size, 3, none⟩) sA).trans ?_, (hW.cell (p := ⟨w.heap.size + 1, 0, none⟩) sB).trans ?_, (hW.cell (p := ⟨w.heap.size + 1, 1, none⟩) sB).trans ?_, (hW.cell (p := ⟨w.heap.size + 1, 2, none⟩) sB).trans ?_, (hW.cell (p := ⟨w.heap.size + 1, 3, none⟩) sB).trans ?_⟩ <;> (rw [hW0]; go_simp)
  have HG0 : Hid _ := hG0
  have HW0 : Hid _ := hW0
  clear hG0 hW0
  go_enter Tryz.func65, Tryz.ntmps65
  go_wp2_with fail
  rw [← HW0.out]
  obtain ⟨x0, x1, x2, x3, y0, y1, y2, y3⟩ := HX.out W0 (Below.refl _ _)
  obtain ⟨A, hA⟩ : ∃ A, w.heap.size = A := ⟨_, rfl⟩
  obtain ⟨B, hB⟩ : ∃ B, w.heap.size + 1 = B := ⟨_, rfl⟩
  simp only [hB] at *
  simp only [hA] at *
  clear hA hB HW0
  go_region_held3 (fun w' => w'.cell? ⟨A, 0, none⟩ = some (.int .i64 a1) ∧ w'.cell? ⟨A, 1, none⟩ = some (.int .i64 a2) ∧ w'.cell? ⟨A, 2, none⟩ = some (.int .i64 a3) ∧ w'.cell? ⟨A, 3, none⟩ = some (.int .i64 a4) ∧ w'.cell? ⟨B, 0, none⟩ = some (.int .i64 b1) ∧ w'.cell? ⟨B, 1, none⟩ = some (.int .i64 b2) ∧ w'.cell? ⟨B, 2, none⟩ = some (.int .i64 b3) ∧ w'.cell? ⟨B, 3, none⟩ = some (.int .i64 b4)) (go_keep) (first
    | (go_at_call 96; refine (or2_al _ _ _ _ ?_).mono ?_; (focus simp); rintro e w' ⟨rfl, rfl⟩)
    | (go_at_call 98; refine (compare_any _ _ _).mono ?_; rintro e w' ⟨rfl, rfl⟩)
    | (go_at_call 97; refine (HC.out _).mono ?_; rintro e w1 ⟨rfl, hg1⟩; have HG1 : Hid (Gr _ w1) := hg1; obtain ⟨z0, z1, z2, z3, z4, z5, z6, z7⟩ := HX.out w1 (((Below.refl _ W0).drew).trans (Gr.below hg1)); clear hg1))
  all_goals go_wp2
  all_goals go_ret
  all_goals exact ⟨rfl, ((Gr.trans (Gr.drew (Hid.out HG0)) (Hid.out HG1)).alloc _)⟩
end Go.Proofs.YtmfcbalhabcodaaGreat
