/- Proved: contracts of the small functions that tell whether numbers, and classes, may be; and of the library's Contains. -/
import Derived.Test.YtpifkoblcbjiiaaFw
namespace Go.Proofs.Ytpifkoblcbjiiaa
open Go.RowKit Go.Shelf
set_option linter.unusedVariables false

def wi (n a b : Int) : Bool := decide (a ≤ n ∧ n ≤ b)
set_option maxHeartbeats 400000 in
theorem within_any (n a b : Int) (w : World) :
    Calls Try.prog 26 #[.int .i64 n, .int .i64 a, .int .i64 b] w fun e w' => e = .returned (.bool (wi n a b)) ∧ w = w' := by
  by_cases h : a ≤ n
  · by_cases g : n ≤ b
    · rw [show wi n a b = true from decide_eq_true ⟨h, g⟩]
      go_enter Try.func26, Try.ntmps26
      go_wp2
      go_ret
      exact ⟨rfl, rfl⟩
    · rw [show wi n a b = false from decide_eq_false (fun x => g x.2)]
      go_enter Try.func26, Try.ntmps26
      go_wp2
      go_ret
      exact ⟨rfl, rfl⟩
  · rw [show wi n a b = false from decide_eq_false (fun x => h x.1)]
    go_enter Try.func26, Try.ntmps26
    go_wp2
    go_ret
    exact ⟨rfl, rfl⟩
theorem wi_inB (n m : Int) : wi n 0 (m - 1) = inB n m := by
  unfold wi inB
  congr 1
  apply propext
  omega
set_option maxHeartbeats 400000 in
theorem isclass_any (n : Int) (m : Nat) (hm : m ≤ 1000) (w : World) :
    Calls Try.prog 61 #[.int .i64 n, .int .i64 (m : Int)] w fun e w' => e = .returned (.bool (inB n m)) ∧ w = w' := by
  have C := fun W => within_any n 0 ((m : Int) - 1) W
  rw [wi_inB] at C
  go_enter Try.func61, Try.ntmps61
  go_wp2_with (go_at_call 26; refine (C _).mono ?_; rintro e w' ⟨rfl, rfl⟩)
  go_ret
  exact ⟨rfl, rfl⟩

/-- The i-th of some classes is one that there is, and above the one ahead of it. -/
def okC (l : List Int) (m : Nat) (i : Nat) : Bool := inB (nthI l i) m && (decide (i = 0) || decide (nthI l (i - 1) < nthI l i))
def cls (l : List Int) (m : Nat) : Bool := (List.range l.length).all (okC l m)
theorem cls_no {l : List Int} {m k : Nat} (hk : k < l.length) (h : okC l m k = false) : cls l m = false := by
  unfold cls
  rw [List.all_eq_false]
  exact ⟨k, by simpa using hk, by rw [h]; decide⟩
theorem cls_yes {l : List Int} {m : Nat} (h : ∀ i, i < l.length → okC l m i = true) : cls l m = true := by
  unfold cls
  rw [List.all_eq_true]
  exact fun i hi => h i (by simpa using hi)

set_option maxRecDepth 100000 in
set_option maxHeartbeats 1000000 in
theorem areclasses_any (w : World) (n0 : Nat) (a : Option Addr) (c : Nat) (l : List Int) (m : Nat) (h : RdI w n0 a l) (hl : l.length ≤ 1000) (hm : m ≤ 1000) :
    Calls Try.prog 44 #[.slice a l.length c, .int .i64 (m : Int)] w fun e w' => e = .returned (.bool (cls l m)) ∧ w = w' := by
  have HRD : Hid _ := h
  clear h
  go_enter Try.func44, Try.ntmps44
  go_wp2_with fail
  go_loopw [9] (fun s9 wr => ∃ k : Nat, k ≤ l.length ∧ s9 = .int .i64 k ∧ Hid (∀ i, i < k → okC l m i = true) ∧ wr = w) (fun s9 _ => l.length - (intOf s9).toNat)
  case atStart => exact ⟨0, Nat.zero_le _, rfl, (fun i hi => absurd hi (Nat.not_lt_zero _) : ∀ i, i < 0 → okC l m i = true), rfl⟩
  case round =>
    obtain ⟨k, hk, rfl, HJ, rfl⟩ := hrel
    by_cases hkl : k < l.length
    · have hk' : (k : Int) < (l.length : Int) := by omega
      obtain ⟨b, off, rfl, hb, hc⟩ := HRD.out (by intro e; simp [e] at hkl)
      have x0 := hc k hkl
      obtain ⟨x, hx⟩ : ∃ x, nthI l k = x := ⟨_, rfl⟩
      rw [hx] at x0
      have HC : Hid _ := hc
      clear hc
      have C := isclass_any x m hm
      have HX : Hid _ := hx
      have HOK : Hid (∀ y z, inB x m = y → (decide (k = 0) || decide (nthI l (k - 1) < x)) = z → okC l m k = (y && z)) := by
        show ∀ y z, _ → _ → _
        intro y z h1 h2
        unfold okC
        rw [hx, h1, h2]
      clear hx
      cases hy : inB x m with
      | false =>
        have HY : Hid _ := hy
        go_wp2_with (go_at_call 61; refine (C _).mono ?_; rintro e w' ⟨rfl, rfl⟩)
        go_ret
        refine ⟨?_, rfl⟩
        rw [cls_no hkl (by rw [HOK.out _ _ HY.out rfl]; rfl)]
        rfl
      | true =>
        have HY : Hid _ := hy
        cases k with
        | zero =>
          rw [Nat.add_zero] at x0
          go_wp2_with (go_at_call 61; refine (C _).mono ?_; rintro e w' ⟨rfl, rfl⟩)
          go_roundw
          case rel =>
            refine ⟨0 + 1, by omega, by go_num, ?_, by first | rfl | trivial⟩
            refine (fun i hi => ?_ : ∀ i, i < 0 + 1 → okC l m i = true)
            obtain rfl : i = 0 := by omega
            rw [HOK.out _ _ HY.out rfl]
            rfl
          case measure => simp [intOf]; omega
        | succ j =>
          have x1 := HC.out j (by omega)
          obtain ⟨p, hp⟩ : ∃ p, nthI l j = p := ⟨_, rfl⟩
          rw [hp] at x1
          have HP : Hid _ := hp
          clear hp
          have hj1 : ((j + 1 : Nat) : Int) - 1 = (j : Int) := by omega
          have hj2 : (0 : Int) < ((j + 1 : Nat) : Int) := by omega
          have hj3 : (j : Int) < (l.length : Int) := by omega
          by_cases hq : x ≤ p
          · go_wp2_with (go_at_call 61; refine (C _).mono ?_; rintro e w' ⟨rfl, rfl⟩)
            go_ret
            refine ⟨?_, rfl⟩
            rw [cls_no hkl (by rw [HOK.out _ false HY.out (by simp [HP.out]; omega)]; rfl)]
            rfl
          · go_wp2_with (go_at_call 61; refine (C _).mono ?_; rintro e w' ⟨rfl, rfl⟩)
            go_roundw
            case rel =>
              refine ⟨j + 1 + 1, by omega, by go_num, ?_, by first | rfl | trivial⟩
              refine (fun i hi => ?_ : ∀ i, i < j + 1 + 1 → okC l m i = true)
              by_cases e : i = j + 1
              · rw [e, HOK.out _ true HY.out (by simp [HP.out]; omega)]; rfl
              · exact HJ.out i (by omega)
            case measure => simp [intOf]; omega
    · obtain rfl : k = l.length := by omega
      go_wp2
      go_ret
      refine ⟨?_, rfl⟩
      rw [cls_yes HJ.out]
      rfl

set_option maxRecDepth 100000 in
set_option maxHeartbeats 1000000 in
theorem index_any (w : World) (n0 : Nat) (a : Option Addr) (c : Nat) (zs : List Int) (v : Int) (h : RdI w n0 a zs) (hl : zs.length ≤ 1000) :
    Calls Try.prog 53 #[.slice a zs.length c, .int .i64 v] w fun e w' => ∃ r : Int, e = .returned (.int .i64 r) ∧ decide (0 ≤ r) = decide (v ∈ zs) ∧ w = w' := by
  have HRD : Hid _ := h
  clear h
  go_enter Try.func53, Try.ntmps53
  go_wp2_with fail
  go_loopw [8] (fun si wr => wr = w ∧ ∃ k : Nat, k ≤ zs.length ∧ si = .int .i64 k ∧ Hid (∀ j, j < k → nthI zs j ≠ v)) (fun si _ => zs.length - (intOf si).toNat)
  case atStart => exact ⟨rfl, 0, Nat.zero_le _, rfl, (fun j hj => absurd hj (Nat.not_lt_zero _) : ∀ j, j < 0 → nthI zs j ≠ v)⟩
  case round =>
    obtain ⟨rfl, k, hk, rfl, HJ⟩ := hrel
    by_cases hkl : k < zs.length
    · have hk' : (k : Int) < (zs.length : Int) := by omega
      obtain ⟨b, off, rfl, hb, hc⟩ := HRD.out (by intro e; simp [e] at hkl)
      have x0 := hc k hkl
      clear hc
      obtain ⟨x, hx⟩ : ∃ x, nthI zs k = x := ⟨_, rfl⟩
      rw [hx] at x0
      have HX : Hid _ := hx
      clear hx
      by_cases t0 : x = v
      · subst t0
        go_wp2
        go_ret
        refine ⟨_, rfl, ?_, rfl⟩
        rw [decide_eq_true ((mem_nth zs x).2 ⟨k, hkl, HX.out⟩)]
        simp
      · have hd0 : (v == x) = false := by simpa using fun e => t0 e.symm
        go_wp2
        go_roundw
        case rel =>
          refine ⟨by first | rfl | trivial, k + 1, by omega, by go_num, ?_⟩
          refine (fun j hj => ?_ : ∀ j, j < k + 1 → nthI zs j ≠ v)
          by_cases e : j = k
          · rw [e, HX.out]; exact t0
          · exact HJ.out j (by omega)
        case measure => simp [intOf]; omega
    · obtain rfl : k = zs.length := by omega
      go_wp2
      go_ret
      refine ⟨_, rfl, ?_, rfl⟩
      rw [decide_eq_false (p := v ∈ zs) (fun g => by obtain ⟨j, hj, e⟩ := (mem_nth zs v).1 g; exact HJ.out j hj e)]
      rfl
set_option maxRecDepth 100000 in
theorem contains_any (w : World) (n0 : Nat) (a : Option Addr) (c : Nat) (zs : List Int) (v : Int) (h : RdI w n0 a zs) (hl : zs.length ≤ 1000) :
    Calls Try.prog 32 #[.slice a zs.length c, .int .i64 v] w fun e w' => e = .returned (.bool (decide (v ∈ zs))) ∧ w = w' := by
  have I := index_any w n0 a c zs v h hl
  obtain ⟨B, hB⟩ : ∃ B, decide (v ∈ zs) = B := ⟨_, rfl⟩
  rw [hB] at I ⊢
  clear hB h
  go_enter Try.func32, Try.ntmps32
  go_wp2_with (go_at_call 53; refine I.mono ?_; rintro e w' ⟨r, rfl, hr, rfl⟩; have HR : Hid _ := hr; clear hr I)
  go_ret
  refine ⟨?_, rfl⟩
  have e := HR.out
  simp [e, Array.getD]
end Go.Proofs.Ytpifkoblcbjiiaa
