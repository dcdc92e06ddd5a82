/- Proved: the library's ContainsFunc with a federate's classes; the program's Publishes and Hears at its table. -/
import Derived.Test.YtkbldbbhcdiihaaPt2
import Derived.Lib.QuietBelow
namespace Go.Proofs.Ytkbldbbhcdiihaa
open Go.RowKit Go.Shelf Go.Sort
set_option linter.unusedVariables false

set_option maxRecDepth 100000 in
set_option maxHeartbeats 1000000 in
theorem idx_any (w : World) (a : Option Addr) (c : Nat) (xs : List Int) (u : Nat) (h : RdI w w.heap.size a xs) (hl : xs.length ≤ 16) (hx : ∀ x ∈ xs, 0 ≤ x ∧ x < 16) (hu : u < 4294967296) :
    Calls Try.prog 37 #[.slice a xs.length c, .func (.func 30) #[.int .u32 (u : Int)] #[]] w fun e w' => ∃ r, e = .returned (.int .i64 r) ∧ decide (0 ≤ r) = xs.any (fun x => u.testBit x.toNat) ∧ w = w' := by
  have HRD : Hid _ := h
  have HX : Hid _ := hx
  have eg : ∀ args w, (callFunc 30 args).run Try.prog w = .ok (.enter 30 args) w := enters_of Try.func30 (by kernel_rfl) rfl
  clear h hx
  go_enter Try.func37, Try.ntmps37
  go_wp2_with fail
  go_loopw [8] (fun s8 wr => ∃ k : Nat, k ≤ xs.length ∧ s8 = .int .i64 k ∧ Hid (∀ i, i < k → u.testBit (nthI xs i).toNat = false) ∧ wr = w) (fun s8 _ => xs.length - (intOf s8).toNat)
  case atStart => exact ⟨0, Nat.zero_le _, rfl, (fun i hi => absurd hi (Nat.not_lt_zero _) : ∀ i, i < 0 → u.testBit (nthI xs i).toNat = false), rfl⟩
  case round =>
    obtain ⟨k, hk, rfl, HJ, rfl⟩ := hrel
    by_cases hkl : k < xs.length
    · have hk' : (k : Int) < (xs.length : Int) := by omega
      obtain ⟨b, off, rfl, hb, hc⟩ := HRD.out (by intro e; simp [e] at hkl)
      have x0 := hc k hkl
      have hm : nthI xs k ∈ xs := (mem_nth xs _).2 ⟨k, hkl, rfl⟩
      have hxx := HX.out _ hm
      obtain ⟨x, hxe⟩ : ∃ x, nthI xs k = x := ⟨_, rfl⟩
      rw [hxe] at x0 hm hxx
      obtain ⟨y, rfl⟩ := Int.eq_ofNat_of_zero_le hxx.1
      have C := have_any wr u y hu (by omega)
      have HXE : Hid _ := hxe
      have HM : Hid _ := hm
      clear hxe hm hc hxx
      cases hbit : u.testBit y with
      | true =>
        rw [hbit] at C
        have HBT : Hid _ := hbit
        clear hbit
        go_wp2_with (go_at_call 30; refine C.mono ?_; rintro e w' ⟨rfl, rfl⟩)
        go_ret
        refine ⟨_, rfl, ?_, rfl⟩
        rw [List.any_eq_true.2 ⟨_, HM.out, by simpa using HBT.out⟩]
        simp
      | false =>
        rw [hbit] at C
        have HBT : Hid _ := hbit
        clear hbit
        go_wp2_with (go_at_call 30; refine C.mono ?_; rintro e w' ⟨rfl, rfl⟩)
        go_roundw
        case rel =>
          refine ⟨k + 1, by omega, by go_num, ?_, by first | rfl | trivial⟩
          refine (fun i hi => ?_ : ∀ i, i < k + 1 → u.testBit (nthI xs i).toNat = false)
          by_cases e : i = k
          · rw [e, HXE.out]; simpa using HBT.out
          · exact HJ.out i (by omega)
        case measure => simp [intOf]; omega
    · obtain rfl : k = xs.length := by omega
      go_wp2
      go_ret
      refine ⟨_, rfl, ?_, rfl⟩
      rw [List.any_eq_false.2 (fun x hx => by obtain ⟨i, hi, e⟩ := (mem_nth xs x).1 hx; rw [← e, HJ.out i hi]; decide)]
      rfl
set_option maxRecDepth 100000 in
theorem cont_any (w : World) (a : Option Addr) (c : Nat) (xs : List Int) (u : Nat) (h : RdI w w.heap.size a xs) (hl : xs.length ≤ 16) (hx : ∀ x ∈ xs, 0 ≤ x ∧ x < 16) (hu : u < 4294967296) :
    Calls Try.prog 32 #[.slice a xs.length c, .func (.func 30) #[.int .u32 (u : Int)] #[]] w fun e w' => e = .returned (.bool (xs.any (fun x => u.testBit x.toNat))) ∧ w = w' := by
  have I := idx_any w a c xs u h hl hx hu
  obtain ⟨B, hB⟩ : ∃ B, xs.any (fun x => u.testBit x.toNat) = B := ⟨_, rfl⟩
  rw [hB] at I ⊢
  clear hB h hx
  go_enter Try.func32, Try.ntmps32
  go_wp2_with (go_at_call 37; refine I.mono ?_; rintro e w' ⟨r, rfl, hr, rfl⟩; have HR : Hid _ := hr; clear hr I)
  go_ret
  refine ⟨?_, rfl⟩
  have e := HR.out
  simp [e, Array.getD]

set_option maxRecDepth 100000 in
theorem ppubs_any {w : World} {F : Nat → Prop} {tb : Nat} {zs : List Int} {p s : Tab} (h : PT tb zs p s w F) (f c : Int) :
    Calls Try.prog 17 #[.pointer (some ⟨tb, 0, none⟩), .int .i64 f, .int .i64 c] w fun e w' => e = .returned (.bool (pubB zs.length p f c)) ∧ w = w' := by
  obtain ⟨U, V, az, cz, h⟩ := h
  have C := pchk_any w tb az cz zs f c h.c0
  unfold pubB
  rcases okFC_cases zs.length f c with ⟨e, _⟩ | ⟨e, hf0, hf8, hc0, hcl⟩
  · rw [decide_eq_false e, Bool.false_and]
    obtain ⟨r, hr⟩ : ∃ r, okFC zs.length f c = r := ⟨_, rfl⟩
    rw [hr] at C e
    have d0 : (r == 0) = false := by simpa using e
    clear h
    go_enter Try.func17, Try.ntmps17
    go_wp2_with (go_at_call 29; refine C.mono ?_; rintro e w' ⟨rfl, rfl⟩)
    go_ret
    exact ⟨rfl, rfl⟩
  · rw [e] at C
    rw [decide_eq_true e, Bool.true_and]
    obtain ⟨k, rfl⟩ := Int.eq_ofNat_of_zero_le hf0
    obtain ⟨i, rfl⟩ := Int.eq_ofNat_of_zero_le hc0
    have hk8 : k < 8 := by omega
    have H1 := have_any w (U k) i (h.bu k hk8) (by have := h.ok.2.1; omega)
    have hkk : ((k : Int)).toNat = k := by simp
    rw [h.tu k i hk8 (by omega)] at H1
    rw [hkk]
    have c1 := h.cu k hk8
    have v1 : (0 : Int) ≤ (k : Int) := by omega
    have v2 : (k : Int) < 8 := by omega
    obtain ⟨r, hr⟩ : ∃ r, p k (i : Int) = r := ⟨_, rfl⟩
    rw [hr] at H1 ⊢
    clear hr e h hkk
    go_enter Try.func17, Try.ntmps17
    go_wp2_with (first | (go_at_call 29; refine C.mono ?_; rintro e w' ⟨rfl, rfl⟩) | (go_at_call 30; refine H1.mono ?_; rintro e w' ⟨rfl, rfl⟩))
    go_ret
    exact ⟨rfl, rfl⟩
end Go.Proofs.Ytkbldbbhcdiihaa
