/- Proved: contracts of Bound and of the closure in it, whatever the order in which the map is gone through. -/
import Derived.Test.YtmhopjpbhdficaaCl0
namespace Go.Proofs.Ytmhopjpbhdficaa
open Go.RowKit Go.Shelf
set_option linter.unusedVariables false

set_option maxHeartbeats 1000000 in
theorem lower_any {w : World} {q : Nat} {m : Int} (hb : w.heap[q]? = some (.cells #[.int .i64 m] 3 (0, 0))) (x : Int) :
    Calls Try.prog 26 #[.int .i64 x, .pointer (some ⟨q, 0, none⟩)] w fun e w' => e = .returned (.tuple #[]) ∧ w' = w.setCell ⟨q, 0, none⟩ (.int .i64 (min m x)) := by
  have hc : w.cell? ⟨q, 0, none⟩ = some (.int .i64 m) := cellB hb 0
  have hf : w.frozen? ⟨q, 0, none⟩ = false := by simp [World.frozen?, hb]
  clear hb
  go_enter Try.func26, Try.ntmps26
  go_wp2
  go_end0
  exact ⟨rfl, rfl⟩
theorem box_set {w : World} {q : Nat} {m : Int} (hb : w.heap[q]? = some (.cells #[.int .i64 m] 3 (0, 0))) (x : Int) : (w.setCell ⟨q, 0, none⟩ (.int .i64 x)).heap[q]? = some (.cells #[.int .i64 x] 3 (0, 0)) := by
  rw [heap_setCell_same w q 0 _ _ _ hb]
  rfl
/-- What is known of the least while the map is gone through: those that came. -/
structure Lw (n me : Nat) (c : Int → Int) (left : Lit → Bool) (m : Int) : Prop where
  le : ∀ j, isCl n me j = true → left (.int .i64 j) = false → m ≤ c j
  hi : m ≤ 1125899906842624
  is : m = 1125899906842624 ∨ ∃ j, isCl n me j = true ∧ m = c j
theorem Lw.step {n me : Nat} {c : Int → Int} {left : Lit → Bool} {m : Int} (h : Lw n me c left m) {x : Int} (hx : isCl n me x = true) : Lw n me c (fun z => left z && !z.sameKey (.int .i64 x)) (min m (c x)) := by
  refine ⟨fun j hj hl => ?_, ?_, ?_⟩
  · by_cases e : j = x
    · subst e; omega
    · have : left (.int .i64 j) = false := by
        rw [Maps.sameKey_ne (lit_ne e)] at hl
        simpa using hl
      have := h.le j hj this
      omega
  · have := h.hi; omega
  · by_cases e : m ≤ c x
    · have e2 : min m (c x) = m := by omega
      rw [e2]; exact h.is
    · exact Or.inr ⟨x, hx, by omega⟩

set_option maxRecDepth 100000 in
set_option maxHeartbeats 2000000 in
theorem bound_any {n me : Nat} {c : Int → Int} {t : Int} {b mb : Nat} {w : World} (h : PC n me c t b mb w) :
    Calls Try.prog 16 #[.pointer (some ⟨b, 0, none⟩)] w fun e w' => e = .returned (.int .i64 (bnd n me c)) ∧ Below w.heap.size w w' := by
  have hlt := h.lt
  have hml := h.mlt
  have c0 := h.c0
  obtain ⟨D, hD⟩ := h.map
  have HD : Hid _ := hD
  have eg : ∀ args w, (callFunc 26 args).run Try.prog w = .ok (.enter 26 args) w := enters_of Try.func26 (by kernel_rfl) rfl
  have hown : (w.alloc (.cells #[.int .i64 1125899906842624] 3)).ownsMap Try.prog 3 (plainElem Try.prog 3) mb 8 D := hD.own.alloc _
  have hown0 : Hid _ := hown
  clear hD h hown
  go_enter Try.func16, Try.ntmps16
  go_wp2_with (first
    | (at_range; refine wpList_range_own _ rfl _ 47 rfl 3 3 keyed3 Try.underlying47 _ mb 8 _ rfl hown0.out ?_; intro w0 hrg0 hg0 hs0)
    | go_in)
  have e1 : (w.alloc (.cells #[.int .i64 1125899906842624] 3)).heap.size = w.heap.size + 1 := by simp
  rw [e1] at hrg0
  go_frame
  simp only [e1]
  go_loopw [6] (fun _ wr => ∃ (left : Lit → Bool) (cnt : Nat) (m : Int), Hid (wr.ranges Try.prog 3 (plainElem Try.prog 3) mb (w.heap.size + 1) 8 D left cnt) ∧ Hid (Lw n me c left m) ∧ wr.heap[w.heap.size]? = some (.cells #[.int .i64 m] 3 (0, 0)) ∧ Hid (Below w.heap.size w wr))
    (fun _ wr => wr.rangeLeft mb (w.heap.size + 1))
  case atStart =>
    refine ⟨_, _, 1125899906842624, hrg0, ⟨fun j hj hl => ?_, Int.le_refl _, Or.inl rfl⟩, (hg0.block w.heap.size (by simp) (by simp)).trans ((MapKept.heap_alloc w _).1), ?_⟩
    · rw [HD.out.has j, hj] at hl; cases hl
    · have f0 := (Fr.of_grown hg0).wide (S' := fun _ => False) (fun k hk => by cases hk)
      exact (al w _).trans (f0.below (by simp) (fun i g => g.elim))
  case round =>
    obtain ⟨left, cnt, m, HR, HL, hbx, HB⟩ := hrel
    go_wp2_with (first
      | (at_next; refine wpList_next_ranges_ii _ rfl _ rfl 3 3 .i64 .i64 keyed3 Try.underlying3 Try.underlying3 mb (w.heap.size + 1) 8 _ _ _ rfl HR.out ?_ ?_)
      | go_in)
    · intro _ hl0
      have hc : wr.cell? ⟨w.heap.size, 0, none⟩ = some (.int .i64 m) := cellB hbx 0
      have hm : bnd n me c = m := bnd_eq (fun j hj => HL.out.le j hj (hl0 _)) HL.out.hi HL.out.is
      rw [← hm] at hc
      clear hm
      go_wp2
      go_ret
      exact ⟨rfl, HB.out⟩
    · intro x y w1 cnt1 hwx hwc hlx hat hrg1 hlt1 hg1 hs1 hen
      have hx : isCl n me x = true := by rw [← HD.out.has x]; exact Maps.has_true_of_atKey hat
      have hy : y = c x := by
        have e := (hat .nil).symm.trans (HD.out.val x hx .nil)
        simpa using e
      have HL1 : Hid (Lw n me c (fun z => left z && !z.sameKey (.int .i64 x)) (min m y)) := by rw [hy]; exact HL.out.step hx
      have hbx1 : w1.heap[w.heap.size]? = some (.cells #[.int .i64 m] 3 (0, 0)) := (hg1.block w.heap.size (Array.getElem?_eq_some_iff.1 hbx).1 (by simp)).trans hbx
      have HR1 : Hid (w1.ranges Try.prog 3 (plainElem Try.prog 3) mb (w.heap.size + 1) 8 D (fun z => left z && !z.sameKey (.int .i64 x)) cnt1) := hrg1
      have HG1 : Hid _ := hg1
      have HC : Hid _ := hlt1
      clear hrg1 hlt1 hg1 hs1 hat hlx hwx hwc hx hy
      go_wp2_with (go_at_call 26; refine (lower_any hbx1 _).mono ?_; rintro e w2 ⟨rfl, hw2⟩; have HW2 : Hid _ := hw2; clear hw2)
      have f2 : Fr (fun k => k = w.heap.size) w1 w2 := by rw [HW2.out]; exact (Fr.refl _ w1).setCell _ _ (Or.inl rfl)
      have HR2 : Hid (w2.ranges Try.prog 3 (plainElem Try.prog 3) mb (w.heap.size + 1) 8 D (fun z => left z && !z.sameKey (.int .i64 x)) cnt1) :=
        World.ranges.kept HR1.out (row := some w.heap.size) ⟨f2.os, f2.tape, f2.output, f2.size, fun k hk hn => f2.block k hk (fun e => hn (by rw [e]))⟩ (by intro e; cases e; omega) (by intro e; simp at e)
      go_roundw
      case rel =>
        refine ⟨_, cnt1, min m y, HR2.out, HL1.out, ?_, ?_⟩
        · rw [HW2.out]; exact box_set hbx1 _
        · have f1 := (Fr.of_grown HG1.out).below (B := w.heap.size) (HB.out.size) (fun i e => by cases e; omega)
          exact (HB.out.trans f1).trans (f2.below (Nat.le_trans HB.out.size f1.size) (fun i e => by omega))
      case measure => rw [HR2.out.left_eq, HR.out.left_eq]; exact HC.out
end Go.Proofs.Ytmhopjpbhdficaa
