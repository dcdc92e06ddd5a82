/- Proved: contracts of the functions that reckon with times; no condition. -/
import Derived.Test.YtmhopjpbhdficaaBas
namespace Go.Proofs.Ytmhopjpbhdficaa
open Go.RowKit Go.Shelf
set_option linter.unusedVariables false

def nthI (zs : List Int) (i : Nat) : Int := zs.getD i 0
/-- A slice of integers that can be read. -/
def RdI (w : World) (a : Option Addr) (zs : List Int) : Prop := zs ≠ [] → ∃ b off, a = some ⟨b, off, none⟩ ∧ b < w.heap.size ∧ ∀ i, i < zs.length → w.cell? ⟨b, off + i, none⟩ = some (.int .i64 (nthI zs i))
theorem rdI_of_row {W : World} {b0 : Nat} {v : Value} {xs : List Int} (h : W.ownsRow b0 3 1 v xs.length (xs.map (Value.int .i64))) : ∃ a c, v = .slice a xs.length c ∧ RdI W a xs := by
  have h0 := h
  rcases h.2 with ⟨rfl, hk⟩ | ⟨g, cap, cur, rfl, _, hg, _, _, hs, h3⟩
  · exact ⟨none, 0, by rw [hk], fun hz => absurd (List.eq_nil_of_length_eq_zero hk) hz⟩
  · refine ⟨_, cap, rfl, fun _ => ⟨g, 0, rfl, (Array.getElem?_eq_some_iff.1 hg).1, fun i hi => ?_⟩⟩
    rw [Nat.zero_add, World.ownsRow.cellAt h0 _ (by omega)]
    simp [nthI, hi]
/-- What a number counts as where a time is asked for. -/
def cnt (t : Int) : Int := if t > 1099511627776 then 1125899906842624 else if t < 0 then 0 else t
theorem cnt_lo (t : Int) : 0 ≤ cnt t := by unfold cnt; split <;> (try split) <;> omega
theorem cnt_hi (t : Int) : cnt t ≤ 1125899906842624 := by unfold cnt; split <;> (try split) <;> omega
theorem cnt_big {t : Int} (h : 1099511627776 < t) : cnt t = 1125899906842624 := by unfold cnt; rw [if_pos h]
theorem cnt_mid {t : Int} (h0 : 0 ≤ t) (h : t ≤ 1099511627776) : cnt t = t := by
  unfold cnt; rw [if_neg (by omega), if_neg (by omega)]
theorem cnt_low {t : Int} (h : t < 0) : cnt t = 0 := by
  unfold cnt; rw [if_neg (by omega), if_pos h]

set_option maxHeartbeats 400000 in
theorem counted_any (t : Int) (w : World) :
    Calls Try.prog 28 #[.int .i64 t] w fun e w' => e = .returned (.int .i64 (cnt t)) ∧ w = w' := by
  by_cases h : 1099511627776 < t
  · rw [cnt_big h]
    go_enter Try.func28, Try.ntmps28
    go_wp2
    go_ret
    exact ⟨rfl, rfl⟩
  · by_cases h0 : t < 0
    · rw [cnt_low h0]
      have e : max t 0 = 0 := by omega
      go_enter Try.func28, Try.ntmps28
      go_wp2
      go_ret
      exact ⟨rfl, rfl⟩
    · rw [cnt_mid (by omega) (by omega)]
      have e : max t 0 = t := by omega
      go_enter Try.func28, Try.ntmps28
      go_wp2
      go_ret
      exact ⟨rfl, rfl⟩
set_option maxHeartbeats 400000 in
theorem time_any (t : Int) (w : World) :
    Calls Try.prog 29 #[.int .i64 t] w fun e w' => e = .returned (.int .i64 (cnt t)) ∧ w = w' := by
  by_cases h0 : t < 0
  · rw [cnt_low h0]
    go_enter Try.func29, Try.ntmps29
    go_wp2
    go_ret
    exact ⟨rfl, rfl⟩
  · by_cases h : 1099511627776 < t
    · rw [cnt_big h]
      go_enter Try.func29, Try.ntmps29
      go_wp2
      go_ret
      exact ⟨rfl, rfl⟩
    · rw [cnt_mid (by omega) (by omega)]
      go_enter Try.func29, Try.ntmps29
      go_wp2
      go_ret
      exact ⟨rfl, rfl⟩

def vadd (t d : Int) : Int := cnt (cnt t + cnt d)
theorem cnt_two (t : Int) : cnt t = 1125899906842624 ∨ cnt t ≤ 1099511627776 := by
  unfold cnt; split <;> (try split) <;> omega
set_option maxHeartbeats 400000 in
theorem add_any (t d : Int) (w : World) :
    Calls Try.prog 22 #[.int .i64 t, .int .i64 d] w fun e w' => e = .returned (.int .i64 (vadd t d)) ∧ w = w' := by
  have h1 := cnt_lo t
  have h2 := cnt_hi t
  have h3 := cnt_lo d
  have h4 := cnt_hi d
  go_enter Try.func22, Try.ntmps22
  go_wp2_with (go_at_call 28; refine (counted_any _ _).mono ?_; rintro e w' ⟨rfl, rfl⟩)
  go_ret
  exact ⟨rfl, rfl⟩

set_option maxHeartbeats 400000 in
theorem refadd_any (t d : Int) (w : World) :
    Calls Try.prog 24 #[.int .i64 t, .int .i64 d] w fun e w' => e = .returned (.int .i64 (vadd t d)) ∧ w = w' := by
  have h1 := cnt_lo t
  have h3 := cnt_lo d
  rcases cnt_two t with ht | ht
  · have ev : vadd t d = 1125899906842624 := by unfold vadd; rw [ht]; exact cnt_big (by omega)
    rw [ev]
    have kb : (cnt t == 1125899906842624) = true := by simpa using ht
    clear ht
    go_enter Try.func24, Try.ntmps24
    go_wp2_with (go_at_call 29; refine (time_any _ _).mono ?_; rintro e w' ⟨rfl, rfl⟩)
    go_ret
    exact ⟨rfl, rfl⟩
  · have ka : (cnt t == 1125899906842624) = false := by simp; omega
    rcases cnt_two d with hd | hd
    · have ev : vadd t d = 1125899906842624 := by unfold vadd; rw [hd]; exact cnt_big (by omega)
      rw [ev]
      have kb : (cnt d == 1125899906842624) = true := by simpa using hd
      clear ht hd
      go_enter Try.func24, Try.ntmps24
      go_wp2_with (go_at_call 29; refine (time_any _ _).mono ?_; rintro e w' ⟨rfl, rfl⟩)
      go_ret
      exact ⟨rfl, rfl⟩
    · have kb : (cnt d == 1125899906842624) = false := by simp; omega
      go_enter Try.func24, Try.ntmps24
      go_wp2_with (go_at_call 29; refine (time_any _ _).mono ?_; rintro e w' ⟨rfl, rfl⟩)
      go_ret
      exact ⟨rfl, rfl⟩

/-- Which numbers are times. -/
def okT (t : Int) : Bool := decide (0 ≤ t ∧ t ≤ 1099511627776 ∨ t = 1125899906842624)
set_option maxHeartbeats 400000 in
theorem within_any (t m : Int) (w : World) :
    Calls Try.prog 27 #[.int .i64 t, .int .i64 m] w fun e w' => e = .returned (.bool (decide (0 ≤ t ∧ t ≤ m))) ∧ w = w' := by
  by_cases h : 0 ≤ t
  · by_cases h2 : t ≤ m
    · have e : decide (0 ≤ t ∧ t ≤ m) = true := by simp; omega
      rw [e]
      go_enter Try.func27, Try.ntmps27
      go_wp2
      go_ret
      exact ⟨rfl, rfl⟩
    · have e : decide (0 ≤ t ∧ t ≤ m) = false := by simp; omega
      rw [e]
      go_enter Try.func27, Try.ntmps27
      go_wp2
      go_ret
      exact ⟨rfl, rfl⟩
  · have e : decide (0 ≤ t ∧ t ≤ m) = false := by simp; omega
    rw [e]
    go_enter Try.func27, Try.ntmps27
    go_wp2
    go_ret
    exact ⟨rfl, rfl⟩
set_option maxHeartbeats 400000 in
theorem valid_any (t : Int) (w : World) :
    Calls Try.prog 20 #[.int .i64 t] w fun e w' => e = .returned (.bool (okT t)) ∧ w = w' := by
  have C := within_any t 1099511627776
  by_cases h : 0 ≤ t ∧ t ≤ 1099511627776
  · have e1 : decide (0 ≤ t ∧ t ≤ 1099511627776) = true := by simpa using h
    have e : okT t = true := by unfold okT; simp; omega
    rw [e]
    simp only [e1] at C
    clear h e1
    go_enter Try.func20, Try.ntmps20
    go_wp2_with (go_at_call 27; refine (C _).mono ?_; rintro e w' ⟨rfl, rfl⟩)
    go_ret
    exact ⟨rfl, rfl⟩
  · have e1 : decide (0 ≤ t ∧ t ≤ 1099511627776) = false := by simpa using h
    simp only [e1] at C
    by_cases h2 : t = 1125899906842624
    · have d : (t == 1125899906842624) = true := by simpa using h2
      have e : okT t = true := by unfold okT; simp; omega
      rw [e]
      clear h e1 h2
      go_enter Try.func20, Try.ntmps20
      go_wp2_with (go_at_call 27; refine (C _).mono ?_; rintro e w' ⟨rfl, rfl⟩)
      go_ret
      exact ⟨rfl, rfl⟩
    · have d : (t == 1125899906842624) = false := by simpa using h2
      have e : okT t = false := by unfold okT; simp; omega
      rw [e]
      clear h e1 h2
      go_enter Try.func20, Try.ntmps20
      go_wp2_with (go_at_call 27; refine (C _).mono ?_; rintro e w' ⟨rfl, rfl⟩)
      go_ret
      exact ⟨rfl, rfl⟩
set_option maxHeartbeats 400000 in
theorem refvalid_any (t : Int) (w : World) :
    Calls Try.prog 21 #[.int .i64 t] w fun e w' => e = .returned (.bool (okT t)) ∧ w = w' := by
  by_cases h0 : 0 ≤ t
  · by_cases h1 : t ≤ 1099511627776
    · have e : okT t = true := by unfold okT; simp; omega
      rw [e]
      go_enter Try.func21, Try.ntmps21
      go_wp2
      go_ret
      exact ⟨rfl, rfl⟩
    · by_cases h2 : t = 1125899906842624
      · have d : (t == 1125899906842624) = true := by simpa using h2
        have e : okT t = true := by unfold okT; simp; omega
        rw [e]
        clear h2
        go_enter Try.func21, Try.ntmps21
        go_wp2
        go_ret
        exact ⟨rfl, rfl⟩
      · have d : (t == 1125899906842624) = false := by simpa using h2
        have e : okT t = false := by unfold okT; simp; omega
        rw [e]
        clear h2
        go_enter Try.func21, Try.ntmps21
        go_wp2
        go_ret
        exact ⟨rfl, rfl⟩
  · have d : (t == 1125899906842624) = false := by simp; omega
    have e : okT t = false := by unfold okT; simp; omega
    rw [e]
    go_enter Try.func21, Try.ntmps21
    go_wp2
    go_ret
    exact ⟨rfl, rfl⟩
/-- The least of some numbers, each as it counts; Inf of none. -/
def lstI (zs : List Int) : Int := zs.foldl (fun m x => min m (cnt x)) 1125899906842624
theorem lstI_app (zs : List Int) (x : Int) : lstI (zs ++ [x]) = min (lstI zs) (cnt x) := by simp [lstI]
theorem takeI_succ (zs : List Int) (k : Nat) (h : k < zs.length) : zs.take (k + 1) = zs.take k ++ [nthI zs k] := by
  rw [List.take_add_one]
  simp [nthI, h]

set_option maxHeartbeats 400000 in
theorem least_any (w : World) (a : Option Addr) (c : Nat) (zs : List Int) (h : RdI w a zs) (hl : zs.length ≤ 100000) :
    Calls Try.prog 23 #[.slice a zs.length c] w fun e w' => e = .returned (.int .i64 (lstI zs)) ∧ w = w' := by
  have HR : Hid _ := h
  clear h
  go_enter Try.func23, Try.ntmps23
  go_wp2
  go_loop [3, 8] (fun n i => ∃ k : Nat, k ≤ zs.length ∧ i = .int .i64 k ∧ n = .int .i64 (lstI (zs.take k))) (fun _ i => zs.length - (intOf i).toNat)
  case atStart => exact ⟨0, Nat.zero_le _, rfl, rfl⟩
  case round =>
    obtain ⟨k, hk, rfl, rfl⟩ := hrel
    by_cases hlt : k < zs.length
    · obtain ⟨b, off, rfl, hb, hc⟩ := HR.out (by intro e; rw [e] at hlt; simp at hlt)
      have hcell := hc k hlt
      obtain ⟨x, HX⟩ : ∃ x, Hid (nthI zs k = x) := ⟨_, rfl⟩
      obtain ⟨m, HM⟩ : ∃ m, Hid (lstI (zs.take k) = m) := ⟨_, rfl⟩
      rw [HX.out] at hcell
      have HS : Hid (lstI (zs.take (k + 1)) = min m (cnt x)) := by show _ = _; rw [takeI_succ zs k hlt, lstI_app, HX.out, HM.out]
      rw [HM.out]
      clear hc
      go_wp2_with (go_at_call 28; refine (counted_any _ _).mono ?_; rintro e w' ⟨rfl, rfl⟩)
      go_round
      case rel => exact ⟨k + 1, by omega, by go_num, by rw [HS.out]⟩
      case measure => simp [intOf]; omega
    · obtain rfl : k = zs.length := by omega
      rw [List.take_length]
      go_wp2
      go_ret
      exact ⟨rfl, rfl⟩
set_option maxHeartbeats 400000 in
theorem refleast_any (w : World) (a : Option Addr) (c : Nat) (zs : List Int) (h : RdI w a zs) (hl : zs.length ≤ 100000) :
    Calls Try.prog 25 #[.slice a zs.length c] w fun e w' => e = .returned (.int .i64 (lstI zs)) ∧ w = w' := by
  have HR : Hid _ := h
  clear h
  go_enter Try.func25, Try.ntmps25
  go_wp2
  go_loop [3, 4] (fun n i => ∃ k : Nat, k ≤ zs.length ∧ i = .int .i64 k ∧ n = .int .i64 (lstI (zs.take k))) (fun _ i => zs.length - (intOf i).toNat)
  case atStart => exact ⟨0, Nat.zero_le _, rfl, rfl⟩
  case round =>
    obtain ⟨k, hk, rfl, rfl⟩ := hrel
    by_cases hlt : k < zs.length
    · obtain ⟨b, off, rfl, hb, hc⟩ := HR.out (by intro e; rw [e] at hlt; simp at hlt)
      have hcell := hc k hlt
      obtain ⟨x, HX⟩ : ∃ x, Hid (nthI zs k = x) := ⟨_, rfl⟩
      obtain ⟨m, HM⟩ : ∃ m, Hid (lstI (zs.take k) = m) := ⟨_, rfl⟩
      rw [HX.out] at hcell
      have HS : Hid (lstI (zs.take (k + 1)) = min m (cnt x)) := by show _ = _; rw [takeI_succ zs k hlt, lstI_app, HX.out, HM.out]
      rw [HM.out]
      clear hc
      go_wp2_with (go_at_call 29; refine (time_any _ _).mono ?_; rintro e w' ⟨rfl, rfl⟩)
      go_round
      case rel => exact ⟨k + 1, by omega, by go_num, by rw [HS.out]⟩
      case measure => simp [intOf]; omega
    · obtain rfl : k = zs.length := by omega
      rw [List.take_length]
      go_wp2
      go_ret
      exact ⟨rfl, rfl⟩
end Go.Proofs.Ytmhopjpbhdficaa
