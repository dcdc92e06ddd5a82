/- Proved: what lines.Int writes of any integer, and what lines.Num tells of any text. -/
import Derived.Test.YtjlcmgfgbmcjpaaDoorShelfN
import Derived.Test.YtjlcmgfgbmcjpaaDoorNum0
import Derived.WalkKit
import Derived.LoopTactic
import Derived.Outline
import Derived.Below
import Derived.Lib.SmallJoins
namespace Go.Proofs.YtjlcmgfgbmcjpaaDoor
open Go.RowKit
set_option linter.unusedVariables false

theorem hideN {p : Prop} (h : p) : Hid p := h
/-- The library's table of the powers of ten lies as its text lays it. -/
def TabAt (w : World) : Prop := Lib.TabIs Tryd.prog w "internal/strconv.uint64pow10" .u64 Lib.pow10Tab
/-- A variable of type error holds an error, or nil. -/
def ErrAt (g : Nat) (w : World) : Prop := ∃ ev, w.cell? ⟨g, 0, none⟩ = some ev ∧ (ev = .nilIface ∨ ∃ te pe, ev = .iface te pe)
/-- What Num and Int lean on. -/
def NumAt (w : World) : Prop := TabAt w ∧ ErrAt 1 w ∧ ErrAt 2 w
theorem gPow : Tryd.prog.globalNamed "internal/strconv.uint64pow10" = some 3 := by kernel_rfl
theorem TabAt.keep {w w' : World} (h : TabAt w) (hb : Below w.heap.size w w') : TabAt w' := Go.Joins.var_stays gPow h hb (Nat.le_refl _)
theorem ErrAt.keep {g : Nat} {w w' : World} (h : ErrAt g w) (hb : Below w.heap.size w w') : ErrAt g w' := by
  obtain ⟨ev, h1, h2⟩ := h
  exact ⟨ev, (hb.cell (World.block_lt_of_cell? _ _ h1)).trans h1, h2⟩
theorem NumAt.keep {w w' : World} (h : NumAt w) (hb : Below w.heap.size w w') : NumAt w' := ⟨h.1.keep hb, h.2.1.keep hb, h.2.2.keep hb⟩
theorem below_grow (w : World) (k : Nat) (os : Array Obj) : Below w.heap.size w (Go.Sort.grow (w.drewN k) os) := by
  refine ⟨rfl, rfl, rfl, ?_, fun j hj => ?_⟩
  · show w.heap.size ≤ (w.heap ++ os).size
    simp
  · show (w.heap ++ os)[j]? = w.heap[j]?
    rw [Array.getElem?_append_left hj]

theorem itoa_any (n : Int) (w : World) (h0 : -9223372036854775808 ≤ n) (h1 : n ≤ 9223372036854775807) (ht : TabAt w) :
    Calls Tryd.prog 32 #[.int .i64 n] w fun e w' => e = .returned (.string ⟨(Lib.itoa n).toArray⟩) ∧ Below w.heap.size w w' := by
  refine (Tryd.strconv_Itoa n h0 h1 w ht).mono ?_
  rintro e w' ⟨rfl, k, os, rfl⟩
  exact ⟨rfl, below_grow w k os⟩
theorem int_any (n : Int) (w : World) (h0 : -9223372036854775808 ≤ n) (h1 : n ≤ 9223372036854775807) (ht : TabAt w) :
    Calls Tryd.prog 17 #[.int .i64 n] w fun e w' => e = .returned (.string ⟨(Lib.itoa n).toArray⟩) ∧ Below w.heap.size w w' := by
  go_enter Tryd.func17, Tryd.ntmps17
  go_wp2_with (go_at_call 32; refine (itoa_any n _ h0 h1 ht).mono ?_; rintro e w1 ⟨rfl, hb1⟩; have HB := hideN hb1; clear hb1)
  go_ret
  exact ⟨rfl, HB.out⟩
theorem atoi_ok (s : ByteArray) (v : Int) (w : World) (hs : s.size ≤ 1073741824) (h : Lib.atoiAll s.data.toList = .ok v) :
    Calls Tryd.prog 31 #[.string s] w fun e w' => e = .returned (.tuple #[.int .i64 v, .nilIface]) ∧ Below w.heap.size w w' := by
  refine (Tryd.strconv_Atoi_ok s (by omega) v h w).mono ?_
  rintro e w' ⟨rfl, rfl | ⟨t, rfl⟩⟩
  · exact ⟨rfl, Below.refl _ _⟩
  · exact ⟨rfl, Lib.bytesWorld_below w 5 t⟩
theorem atoi_bad (s : ByteArray) (w : World) (hs : s.size ≤ 1073741824) (h : ∀ v, Lib.atoiAll s.data.toList ≠ .ok v) (hn : NumAt w) :
    Calls Tryd.prog 31 #[.string s] w fun e w' => (∃ (v : Int) (N : Nat), e = .returned (.tuple #[.int .i64 v, .iface 109 (.pointer (some ⟨N, 0, none⟩))])) ∧ Below w.heap.size w w' := by
  obtain ⟨_, ⟨ev1, hv1, he1⟩, ⟨ev2, hv2, he2⟩⟩ := hn
  cases hx : Lib.atoiAll s.data.toList with
  | ok v => exact absurd hx (h v)
  | «syntax» =>
    refine (Tryd.strconv_Atoi_syntax s (by omega) hx ev1 w hv1 he1).mono ?_
    rintro e w' ⟨N, rfl, _, _, hb⟩
    exact ⟨⟨_, N, rfl⟩, hb⟩
  | range =>
    refine (Tryd.strconv_Atoi_range s (by omega) hx ev2 w hv2 he2).mono ?_
    rintro e w' ⟨N, rfl, _, _, hb⟩
    exact ⟨⟨_, N, rfl⟩, hb⟩
theorem str_eq {l : List UInt8} {s : ByteArray} (h : l = s.data.toList) : (⟨l.toArray⟩ : ByteArray) = s := by cases s; subst h; simp
theorem str_ne {l : List UInt8} {s : ByteArray} (h : l ≠ s.data.toList) : (⟨l.toArray⟩ : ByteArray) ≠ s := by
  rintro rfl; exact h (by simp)

set_option maxHeartbeats 1000000 in
theorem num_any (s : ByteArray) (w : World) (hs : s.size ≤ 1073741824) (hn : NumAt w) :
    Calls Tryd.prog 15 #[.string s] w fun e w' => e = .returned (.tuple #[.int .i64 (numN s.data.toList), .int .i64 (numE s.data.toList)]) ∧ Below w.heap.size w w' := by
  by_cases hok : ∃ v, Lib.atoiAll s.data.toList = .ok v
  · obtain ⟨v, hv⟩ := hok
    have hbd := Lib.atoiAll_bounds hv
    have hA := atoi_ok s v w hs hv
    by_cases he : Lib.itoa v = s.data.toList
    · have hI := fun (x : World) (ht : TabAt x) => int_any v x hbd.1 hbd.2 ht
      simp only [str_eq he] at hI
      by_cases h1 : v < -1152921504606846976
      · have HR := hideN (num_none (l := s.data.toList) (by rw [← he]; exact numOf_big v hbd (.inl h1)))
        clear hv he
        go_enter Tryd.func15, Tryd.ntmps15
        go_wp2_with (first | (go_at_call 31; refine hA.mono ?_; rintro e w1 ⟨rfl, hb1⟩; have hn1 := hn.keep hb1; have HB1 := hideN hb1; clear hb1) | (go_at_call 17; refine (hI _ hn1.1).mono ?_; rintro e w2 ⟨rfl, hb2⟩; have HB2 := hideN hb2; clear hb2))
        go_ret2
        exact ⟨by rw [HR.out.1, HR.out.2]; rfl, HB1.out.trans (HB2.out.mono HB1.out.size)⟩
      · by_cases h2 : 1152921504606846976 < v
        · have HR := hideN (num_none (l := s.data.toList) (by rw [← he]; exact numOf_big v hbd (.inr h2)))
          clear hv he
          go_enter Tryd.func15, Tryd.ntmps15
          go_wp2_with (first | (go_at_call 31; refine hA.mono ?_; rintro e w1 ⟨rfl, hb1⟩; have hn1 := hn.keep hb1; have HB1 := hideN hb1; clear hb1) | (go_at_call 17; refine (hI _ hn1.1).mono ?_; rintro e w2 ⟨rfl, hb2⟩; have HB2 := hideN hb2; clear hb2))
          go_ret2
          exact ⟨by rw [HR.out.1, HR.out.2]; rfl, HB1.out.trans (HB2.out.mono HB1.out.size)⟩
        · have HR := hideN (num_some (l := s.data.toList) (by rw [← he]; exact numOf_itoa v (by omega) (by omega)))
          clear hv he
          go_enter Tryd.func15, Tryd.ntmps15
          go_wp2_with (first | (go_at_call 31; refine hA.mono ?_; rintro e w1 ⟨rfl, hb1⟩; have hn1 := hn.keep hb1; have HB1 := hideN hb1; clear hb1) | (go_at_call 17; refine (hI _ hn1.1).mono ?_; rintro e w2 ⟨rfl, hb2⟩; have HB2 := hideN hb2; clear hb2))
          go_ret2
          exact ⟨by rw [HR.out.1, HR.out.2]; rfl, HB1.out.trans (HB2.out.mono HB1.out.size)⟩
    · have hI := fun (x : World) (ht : TabAt x) => int_any v x hbd.1 hbd.2 ht
      obtain ⟨T, hT⟩ : ∃ T : ByteArray, T = ⟨(Lib.itoa v).toArray⟩ := ⟨_, rfl⟩
      simp only [← hT] at hI
      have hne : ¬ (T.toList = s.toList) := by rw [ByteArray.toList_eq, ByteArray.toList_eq, hT]; simpa using he
      have hnb : (T.toList == s.toList) = false := by rw [beq_eq_false_iff_ne]; exact hne
      have HR := hideN (num_none (l := s.data.toList) (by
        unfold numOf; rw [hv]; exact if_neg (fun h => he h.1)))
      clear hv he hT
      go_enter Tryd.func15, Tryd.ntmps15
      go_wp2_with (first | (go_at_call 31; refine hA.mono ?_; rintro e w1 ⟨rfl, hb1⟩; have hn1 := hn.keep hb1; have HB1 := hideN hb1; clear hb1) | (go_at_call 17; refine (hI _ hn1.1).mono ?_; rintro e w2 ⟨rfl, hb2⟩; have HB2 := hideN hb2; clear hb2))
      go_ret2
      exact ⟨by rw [HR.out.1, HR.out.2]; rfl, HB1.out.trans (HB2.out.mono HB1.out.size)⟩
  · have hA := atoi_bad s w hs (fun v e => hok ⟨v, e⟩) hn
    have HR := hideN (num_none (l := s.data.toList) (by
      unfold numOf
      split
      · rename_i v hv; exact absurd ⟨v, hv⟩ hok
      · rfl))
    clear hok
    go_enter Tryd.func15, Tryd.ntmps15
    go_wp2_with (go_at_call 31; refine hA.mono ?_; rintro e w1 ⟨⟨v, N, rfl⟩, hb1⟩; have HB1 := hideN hb1; clear hb1)
    go_ret2
    exact ⟨by rw [HR.out.1, HR.out.2]; rfl, HB1.out⟩
end Go.Proofs.YtjlcmgfgbmcjpaaDoor
