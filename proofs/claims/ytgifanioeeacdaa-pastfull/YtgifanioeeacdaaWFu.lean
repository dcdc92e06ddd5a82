/- Proved: the walk of PastFull. -/
import Derived.Test.YtgifanioeeacdaaLw0
namespace Go.Proofs.Ytgifanioeeacdaa
open Go.RowKit Go.Shelf Go.Sort
set_option linter.unusedVariables false

/-- Entries of the times 0 to n - 1. -/
def rng (n : Nat) : List P := (List.range n).map (fun j : Nat => mkP (j : Int) 0 0 0 0)
theorem rng_succ (n : Nat) : rng (n + 1) = rng n ++ [mkP (n : Int) 0 0 0 0] := by unfold rng; rw [List.range_succ]; simp
theorem rng_len (n : Nat) : (rng n).length = n := by simp [rng]
theorem rng_lt {n : Nat} {x : P} (h : x ∈ rng n) : x.m.1.1 < (n : Int) := by
  obtain ⟨j, hj, rfl⟩ := List.mem_map.1 h
  have := List.mem_range.1 hj
  show (j : Int) < (n : Int)
  omega
theorem rng_low (n k : Nat) : ((rng n).filter (low (k : Int))).length = min n k ∧ ((rng n).filter (fun x => !low (k : Int) x)).length = n - min n k := by
  induction n with
  | zero => exact ⟨rfl, rfl⟩
  | succ n ih =>
    rw [rng_succ, List.filter_append, List.length_append, List.filter_append, List.length_append, ih.1, ih.2]
    have e : low (k : Int) (mkP (n : Int) 0 0 0 0) = decide (n < k) := by show decide ((n : Int) < (k : Int)) = _; simp
    by_cases h : n < k
    · simp [e, h]; omega
    · simp [e, h]; omega
theorem rng_bef (n k : Nat) : ((rng n).filter (bef ((k : Int), -1, 0))).length = min n k ∧ ((rng n).filter (fun x => !bef ((k : Int), -1, 0) x)).length = n - min n k := by
  induction n with
  | zero => exact ⟨rfl, rfl⟩
  | succ n ih =>
    rw [rng_succ, List.filter_append, List.length_append, List.filter_append, List.length_append, ih.1, ih.2]
    have e : bef ((k : Int), -1, 0) (mkP (n : Int) 0 0 0 0) = decide (n < k) := by
      show klt ((n : Int), 0, 0) ((k : Int), -1, 0) = _
      rw [Bool.eq_iff_iff, klt_iff]
      simp
    by_cases h : n < k
    · simp [e, h]; omega
    · simp [e, h]; omega
/-- What is there while it is filled anew. -/
def Lp (w W : World) (b k i : Nat) : Prop := ∃ fl L, One w W fl L b ∧ fl ≤ 64 ∧ L.length = 64 - k + i ∧ ∀ x ∈ L, x.m.1.1 < 1000 + (i : Int)
theorem Lp.settle {w W : World} {b k : Nat} (hk : k ≤ 64) (h : One w W 0 (rng 64) b) :
    Calls Try.prog 16 #[.pointer (some ⟨b, 0, none⟩), .int .i64 (k : Int)] W fun e w' => ∃ a c, e = .returned (.slice a k c) ∧ Lp w w' b k 0 := by
  refine (h.settle (k : Int)).mono fun e w' ⟨a, c, he, ho, _⟩ => ⟨a, c, ?_, _, _, ho, ?_, ?_, fun x hx => ?_⟩
  · rw [he]
    unfold gonT
    rw [(rng_low 64 k).1, Nat.min_eq_right hk]
  · omega
  · rw [(rng_low 64 k).2, Nat.min_eq_right hk]; rfl
  · have := rng_lt (List.mem_filter.1 hx).1
    omega
theorem Lp.back {w W : World} {b k : Nat} (hk : k ≤ 64) (h : One w W 0 (rng 64) b) :
    Calls Try.prog 14 #[.pointer (some ⟨b, 0, none⟩), .agg #[.int .i64 (64 - (k : Int)), .int .i64 (-1), .int .i64 0]] W fun e w' => ∃ a c, e = .returned (.slice a k c) ∧ Lp w w' b k 0 := by
  have e1 : 64 - (k : Int) = ((64 - k : Nat) : Int) := by omega
  rw [e1]
  refine (h.back (((64 - k : Nat) : Int), -1, 0)).mono fun e w' ⟨a, c, he, ho, _⟩ => ⟨a, c, ?_, _, _, ho, by decide, ?_, fun x hx => ?_⟩
  · rw [he]
    unfold gonK
    rw [List.length_reverse, (rng_bef 64 (64 - k)).2, Nat.min_eq_right (by omega), show 64 - (64 - k) = k by omega]
  · rw [(rng_bef 64 (64 - k)).1, Nat.min_eq_right (by omega)]; rfl
  · have := rng_lt (List.mem_filter.1 hx).1
    omega
theorem Lp.push {w W : World} {b k i : Nat} (hi : i < k) (hk : k ≤ 64) (h : Lp w W b k i) :
    Calls Try.prog 11 #[.pointer (some ⟨b, 0, none⟩), .agg #[.int .i64 (1000 + (i : Int)), .int .i64 0, .int .i64 0, .int .i64 0, .int .i64 0, .int .i64 0, .int .i64 0, .int .i64 0, .int .i64 0, .slice none 0 0]] W fun e w' => e = .returned (.int .i64 0) ∧ Lp w w' b k (i + 1) := by
  obtain ⟨fl, L, h, hf, hl, hL⟩ := h
  have h2 := push_ok (fl := fl) (L := L) (e := mkP (1000 + (i : Int)) 0 0 0 0) (by show fl ≤ 1000 + (i : Int); omega) (fun x hx => klt_of_T (hL x hx)) (by omega)
  have h1 := h.pushZ (1000 + (i : Int)) 0 0 0 0
  rw [h2.1, h2.2] at h1
  refine h1.mono fun e w' ⟨he, ho⟩ => ⟨he, fl, _, ho, hf, by simp; omega, fun x hx => ?_⟩
  rcases List.mem_append.1 hx with g | g
  · have := hL x g
    omega
  · obtain rfl : x = mkP (1000 + (i : Int)) 0 0 0 0 := by simpa using g
    show 1000 + (i : Int) < 1000 + ((i + 1 : Nat) : Int)
    omega
theorem Lp.end {w W : World} {b k : Nat} (hk : k ≤ 64) (h : Lp w W b k k) :
    Calls Try.prog 11 #[.pointer (some ⟨b, 0, none⟩), .agg #[.int .i64 5000, .int .i64 0, .int .i64 0, .int .i64 0, .int .i64 0, .int .i64 0, .int .i64 0, .int .i64 0, .int .i64 0, .slice none 0 0]] W fun e w' => e = .returned (.int .i64 2) ∧ Below w.heap.size w w' := by
  obtain ⟨fl, L, h, hf, hl, hL⟩ := h
  have h2 := push_full (fl := fl) (L := L) (e := mkP 5000 0 0 0 0) (by show fl ≤ 5000; omega) (fun x hx => klt_of_T (by have := hL x hx; show x.m.1.1 < 5000; omega)) (by omega)
  have h1 := h.pushZ 5000 0 0 0 0
  rw [h2.1, h2.2] at h1
  exact h1.mono fun e w' ⟨he, ho⟩ => ⟨he, ho.bel⟩
set_option maxRecDepth 100000 in
set_option maxHeartbeats 4000000 in
theorem full_walk (w : World) (s : Bool) (n : Int) (hn : 0 ≤ n ∧ n ≤ 255) :
    Calls Try.prog 7 #[.bool s, .int .u8 n] w fun e w' => e = .returned (.bool true) ∧ Below w.heap.size w w' := by
  obtain ⟨hn0, hn2⟩ := hn
  obtain ⟨b, hb⟩ : ∃ b, w.heap.size = b := ⟨_, rfl⟩
  have NW := One.new w
  rw [hb] at NW
  have PU1 : Hid (∀ {W : World} {i : Nat}, i < 64 → One w W 0 (rng i) b → Calls Try.prog 11 #[.pointer (some ⟨b, 0, none⟩), .agg #[.int .i64 (i : Int), .int .i64 0, .int .i64 0, .int .i64 0, .int .i64 0, .int .i64 0, .int .i64 0, .int .i64 0, .int .i64 0, .slice none 0 0]] W fun e w' => e = .returned (.int .i64 0) ∧ One w w' 0 (rng (i + 1)) b) := fun {W i} hi h => by
    have h1 := h.pushZ (i : Int) 0 0 0 0
    have h2 := push_ok (fl := 0) (L := rng i) (e := mkP (i : Int) 0 0 0 0) (by show (0 : Int) ≤ (i : Int); omega) (fun x hx => klt_of_T (rng_lt hx)) (by rw [rng_len]; exact hi)
    rw [h2.1, h2.2, ← rng_succ] at h1
    exact h1
  have PU2 : Hid (∀ {W : World}, One w W 0 (rng 64) b → Calls Try.prog 11 #[.pointer (some ⟨b, 0, none⟩), .agg #[.int .i64 1000, .int .i64 0, .int .i64 0, .int .i64 0, .int .i64 0, .int .i64 0, .int .i64 0, .int .i64 0, .int .i64 0, .slice none 0 0]] W fun e w' => e = .returned (.int .i64 2) ∧ One w w' 0 (rng 64) b) := fun {W} h => by
    have h1 := h.pushZ 1000 0 0 0 0
    have h2 := push_full (fl := 0) (L := rng 64) (e := mkP 1000 0 0 0 0) (by decide) (fun x hx => klt_of_T (by have := rng_lt hx; show x.m.1.1 < 1000; omega)) (by rw [rng_len]; exact Nat.le_refl _)
    rw [h2.1, h2.2] at h1
    exact h1
  have LN : Hid (∀ {W : World}, One w W 0 (rng 64) b → Calls Try.prog 23 #[.pointer (some ⟨b, 0, none⟩)] W fun e w' => e = .returned (.int .i64 64) ∧ W = w') := fun {W} h => by
    have := h.len
    rw [rng_len] at this
    exact this
  clear hb
  go_enter Try.func7, Try.ntmps7
  go_wp2_with (go_at_call 9; refine NW.mono ?_; rintro e w1 ⟨rfl, h1⟩; have H1 : Hid (One w w1 0 [] b) := h1; clear h1 NW)
  go_loopw [6] (fun s6 wr => ∃ i : Nat, s6 = .int .i64 i ∧ i ≤ 64 ∧ Hid (One w wr 0 (rng i) b)) (fun s6 _ => 64 - (intOf s6).toNat)
  case atStart => exact ⟨0, rfl, by omega, H1.out⟩
  case round =>
    obtain ⟨i, rfl, hi, HN⟩ := hrel
    by_cases hlt : i < 64
    · have hlt' : (i : Int) < 64 := by omega
      go_wp2_with (go_at_call 11; refine (Hid.out PU1 hlt (Hid.out HN)).mono ?_; rintro e w2 ⟨rfl, h2⟩; have H2 : Hid (One w w2 0 (rng (i + 1)) b) := h2; clear h2)
      go_roundw
      case rel => exact ⟨i + 1, by go_num, by omega, H2.out⟩
      case measure => simp [intOf]; omega
    · obtain rfl : i = 64 := by omega
      obtain ⟨k, hk⟩ : ∃ k : Nat, n % 65 = (k : Int) := ⟨(n % 65).toNat, by omega⟩
      have hk64 : k ≤ 64 := by omega
      have hkt : n.tmod 65 = (k : Int) := by rw [Int.tmod_eq_emod_of_nonneg hn0]; exact hk
      have HON : Hid (∀ o, One w (wr.alloc o) 0 (rng 64) b) := fun o => HN.out.on (al _ _)
      cases s
      · go_wp2_with (first
          | (go_at_call 14; refine (Lp.back hk64 (Hid.out H2)).mono ?_; rintro e w4 ⟨a, c, rfl, h4⟩; have H4 : Hid (Lp w w4 b k 0) := h4; clear h4)
          | (go_at_call 23; refine (Hid.out LN (Hid.out H2)).mono ?_; rintro e w3 ⟨rfl, rfl⟩)
          | (go_at_call 11; refine (Hid.out PU2 (Hid.out HON _)).mono ?_; rintro e w2 ⟨rfl, h2⟩; have H2 : Hid (One w w2 0 (rng 64) b) := h2; clear h2))
        go_loopw [10] (fun s10 wr => ∃ i : Nat, s10 = .int .i64 i ∧ i ≤ k ∧ Hid (Lp w wr b k i)) (fun s10 _ => k - (intOf s10).toNat)
        case atStart => exact ⟨0, rfl, Nat.zero_le _, H4.out⟩
        case round =>
          obtain ⟨i, rfl, hi, HL⟩ := hrel
          by_cases hlt : i < k
          · have hlt' : (i : Int) < (k : Int) := by omega
            go_wp2_with (go_at_call 11; refine (Lp.push hlt hk64 (Hid.out HL)).mono ?_; rintro e w5 ⟨rfl, h5⟩; have H5 : Hid (Lp w w5 b k (i + 1)) := h5; clear h5)
            go_roundw
            case rel => exact ⟨i + 1, by go_num, by omega, H5.out⟩
            case measure => simp [intOf]; omega
          · obtain rfl : i = k := by omega
            go_wp2_with (go_at_call 11; refine (Lp.end hk64 (Hid.out HL)).mono ?_; rintro e w5 ⟨rfl, h5⟩)
            go_ret
            exact ⟨rfl, h5⟩
      · go_wp2_with (first
          | (go_at_call 16; refine (Lp.settle hk64 (Hid.out H2)).mono ?_; rintro e w4 ⟨a, c, rfl, h4⟩; have H4 : Hid (Lp w w4 b k 0) := h4; clear h4)
          | (go_at_call 23; refine (Hid.out LN (Hid.out H2)).mono ?_; rintro e w3 ⟨rfl, rfl⟩)
          | (go_at_call 11; refine (Hid.out PU2 (Hid.out HON _)).mono ?_; rintro e w2 ⟨rfl, h2⟩; have H2 : Hid (One w w2 0 (rng 64) b) := h2; clear h2))
        go_loopw [10] (fun s10 wr => ∃ i : Nat, s10 = .int .i64 i ∧ i ≤ k ∧ Hid (Lp w wr b k i)) (fun s10 _ => k - (intOf s10).toNat)
        case atStart => exact ⟨0, rfl, Nat.zero_le _, H4.out⟩
        case round =>
          obtain ⟨i, rfl, hi, HL⟩ := hrel
          by_cases hlt : i < k
          · have hlt' : (i : Int) < (k : Int) := by omega
            go_wp2_with (go_at_call 11; refine (Lp.push hlt hk64 (Hid.out HL)).mono ?_; rintro e w5 ⟨rfl, h5⟩; have H5 : Hid (Lp w w5 b k (i + 1)) := h5; clear h5)
            go_roundw
            case rel => exact ⟨i + 1, by go_num, by omega, H5.out⟩
            case measure => simp [intOf]; omega
          · obtain rfl : i = k := by omega
            go_wp2_with (go_at_call 11; refine (Lp.end hk64 (Hid.out HL)).mono ?_; rintro e w5 ⟨rfl, h5⟩)
            go_ret
            exact ⟨rfl, h5⟩
end Go.Proofs.Ytgifanioeeacdaa
