/- Proved: the library's Clone of a slice of integers; the program's New; the program's table keeps all that is asked of it. -/
import Derived.Test.YtkbldbbhcdiihaaPt5
import Derived.Lib.SliceRun
namespace Go.Proofs.Ytkbldbbhcdiihaa
open Go.RowKit Go.Shelf
set_option linter.unusedVariables false

set_option maxRecDepth 100000 in
theorem clone_any (w : World) (a : Option Addr) (c : Nat) (zs : List Int) (h : RdI w w.heap.size a zs) (hl1 : 1 ≤ zs.length) (hl2 : zs.length ≤ 16) :
    Calls Try.prog 25 #[.slice a zs.length c] w fun e w' => ∃ g cap, e = .returned (.slice (some ⟨g, 0, none⟩) zs.length cap) ∧ Row w w' (.slice (some ⟨g, 0, none⟩) zs.length cap) zs := by
  obtain ⟨i0, hi, hz0, hz1, hz2⟩ := info_parts info3
  obtain ⟨b, off, rfl, hb, hc⟩ := h (by intro e; rw [e] at hl1; simp at hl1)
  have HE : Hid _ := Row.empty w
  have hb1 : Below w.heap.size w (w.alloc (.cells #[] 3)) := (Below.refl _ w).alloc (Nat.le_refl _) _
  have HS : Hid (∀ j u, (zs.map (Value.int .i64))[j]? = some u → (w.alloc (.cells #[] 3)).cell? ((⟨b, off, none⟩ : Addr).add j) = some u) := fun j u hj => by
    have hj' : j < zs.length := by have := (List.getElem?_eq_some_iff.1 hj).1; simpa using this
    rw [Addr.add_lit, (hb1.cell (p := ⟨b, off + j, none⟩) hb), hc j hj']
    simpa [nthI, hj'] using hj
  have q22 : ∀ (w : World) (a : Option Addr) (n c n' c' : Nat), (binOp .eql 22 (.slice a n c) (.slice none n' c')).run Try.prog w = .ok (.bool a.isNone) w := fun w a n c n' c' => Lib.run_eql_slice_nil w _ _ a n c n' c' Try.underlying22
  clear hc h
  go_enter Try.func25, Try.ntmps25
  go_wp2_with (at_builtin; refine wpList_append_own _ rfl _ _ 22 rfl w.heap.size 3 i0 (.int .i64 0) 1 8 Try.underlying22 hi hz0 hz1 hz2 rfl (by decide) _ _ _ rfl (Hid.out HE).1 ⟨b, off, none⟩ zs.length c (zs.map (Value.int .i64)) rfl (by simp) HS.out (by intro u hu; simp at hu; obtain ⟨q, _, rfl⟩ := hu; rfl) (by unfold maxLen; simp; omega) (by simp; omega) (by simp) ?_)
  intro v' w1 hown hgrow _
  obtain ⟨g', cap', rfl⟩ : ∃ g' cap', v' = .slice (some ⟨g', 0, none⟩) zs.length cap' := by
    rcases hown.2 with ⟨_, e⟩ | ⟨g, cap, cur, e, _⟩
    · simp at e; rw [e] at hl1; simp at hl1
    · exact ⟨g, cap, by simpa using e⟩
  have HR : Hid (Row w w1 (.slice (some ⟨g', 0, none⟩) zs.length cap') zs) := ⟨by simpa using hown, hb1.grown hgrow hb1.size (fun k e => row_ge (Hid.out HE).1 e)⟩
  clear hown hgrow
  go_wp2
  go_ret
  exact ⟨_, _, rfl, HR.out⟩

theorem seventeen {W : World} {b : Nat} {v u : Value} {t : TypeId} (h : W.heap[b]? = some (.cells #[v, u, u, u, u, u, u, u, u, u, u, u, u, u, u, u, u] t (0, 0))) : W.cell? ⟨b, 0, none⟩ = some v ∧ (∀ j, j < 16 → W.cell? ⟨b, 1 + j, none⟩ = some u) ∧ ∀ j, W.frozen? ⟨b, j, none⟩ = false := by
  refine ⟨by simp [World.cell?, h], fun j hj => ?_, fun j => by simp [World.frozen?, h]⟩
  have e : j = 0 ∨ j = 1 ∨ j = 2 ∨ j = 3 ∨ j = 4 ∨ j = 5 ∨ j = 6 ∨ j = 7 ∨ j = 8 ∨ j = 9 ∨ j = 10 ∨ j = 11 ∨ j = 12 ∨ j = 13 ∨ j = 14 ∨ j = 15 := by omega
  rcases e with rfl | rfl | rfl | rfl | rfl | rfl | rfl | rfl | rfl | rfl | rfl | rfl | rfl | rfl | rfl | rfl <;> simp [World.cell?, h]
theorem pnew_end {w w1 : World} {g cap : Nat} {zs : List Int} (hok : OKT zs) (hr : Row w w1 (.slice (some ⟨g, 0, none⟩) zs.length cap) zs) :
    PT w1.heap.size zs noB noB (w1.alloc (.cells #[.slice (some ⟨g, 0, none⟩) zs.length cap, .int .u32 0, .int .u32 0, .int .u32 0, .int .u32 0, .int .u32 0, .int .u32 0, .int .u32 0, .int .u32 0, .int .u32 0, .int .u32 0, .int .u32 0, .int .u32 0, .int .u32 0, .int .u32 0, .int .u32 0, .int .u32 0] 52)) (fun k => w.heap.size ≤ k ∧ k < w1.heap.size + 1) ∧ Below w.heap.size w (w1.alloc (.cells #[.slice (some ⟨g, 0, none⟩) zs.length cap, .int .u32 0, .int .u32 0, .int .u32 0, .int .u32 0, .int .u32 0, .int .u32 0, .int .u32 0, .int .u32 0, .int .u32 0, .int .u32 0, .int .u32 0, .int .u32 0, .int .u32 0, .int .u32 0, .int .u32 0, .int .u32 0] 52)) := by
  have hb : Below w1.heap.size w1 (w1.alloc (.cells #[.slice (some ⟨g, 0, none⟩) zs.length cap, .int .u32 0, .int .u32 0, .int .u32 0, .int .u32 0, .int .u32 0, .int .u32 0, .int .u32 0, .int .u32 0, .int .u32 0, .int .u32 0, .int .u32 0, .int .u32 0, .int .u32 0, .int .u32 0, .int .u32 0, .int .u32 0] 52)) := (Below.refl _ w1).alloc (Nat.le_refl _) _
  obtain ⟨c0, cs, cf⟩ := seventeen (World.alloc_heap_new w1 (.cells #[.slice (some ⟨g, 0, none⟩) zs.length cap, .int .u32 0, .int .u32 0, .int .u32 0, .int .u32 0, .int .u32 0, .int .u32 0, .int .u32 0, .int .u32 0, .int .u32 0, .int .u32 0, .int .u32 0, .int .u32 0, .int .u32 0, .int .u32 0, .int .u32 0, .int .u32 0] 52))
  refine ⟨⟨fun _ => 0, fun _ => 0, some ⟨g, 0, none⟩, cap, ?_⟩, hr.2.trans (hb.mono hr.2.size)⟩
  exact {
    c0 := c0
    cu := fun f hf => cs f (by omega)
    cv := fun f hf => by
      have := cs (8 + f) (by omega)
      rw [show 1 + (8 + f) = 9 + f by omega] at this
      exact this
    fz := cf
    rd := fun hz => by
      obtain ⟨a, c, e, hrd⟩ := hr.rd
      obtain ⟨b, off, hab, hbl, hc⟩ := hrd hz
      rcases hr.1.2 with ⟨e2, _⟩ | ⟨g2, cap2, cur, hv, hg0, _⟩
      · cases e2
      · rw [hab] at e
        simp at e hv
        obtain ⟨⟨e1, e2⟩, _⟩ := e
        refine ⟨g, 0, rfl, ⟨⟨by omega, by omega⟩, by omega⟩, by simp; omega, fun i hi => ?_⟩
        rw [hb.cell (p := ⟨g, 0 + i, none⟩) (by show g < _; omega)]
        rw [e1, e2]
        exact hc i hi
    ft := ⟨hr.2.size, by omega⟩
    lt := fun k hk => by simp; exact hk.2
    bu := fun _ _ => by decide
    bv := fun _ _ => by decide
    tu := fun f i _ _ => by rw [Nat.zero_testBit]; rfl
    tv := fun f i _ _ => by rw [Nat.zero_testBit]; rfl
    ok := hok }

set_option maxRecDepth 100000 in
theorem pnew_ok (w : World) (a : Option Addr) (c : Nat) (zs : List Int) (h : RdI w w.heap.size a zs) (hok : OKT zs) :
    Calls Try.prog 8 #[.slice a zs.length c] w fun e w' => ∃ tb F, e = .returned (.tuple #[.pointer (some ⟨tb, 0, none⟩), .int .i64 0]) ∧ PT tb zs noB noB w' F ∧ (∀ k, F k → w.heap.size ≤ k) ∧ Below w.heap.size w w' := by
  have hl1 := hok.1
  have hl2 := hok.2.1
  have C := (check_any w w.heap.size a c zs h (by omega)).mono (R' := fun e w' => e = .returned (.int .i64 0) ∧ w = w') (fun _ _ g => ⟨by rw [g.1, chk_ok hok], g.2.symm⟩)
  have K := clone_any w a c zs h hl1 hl2
  have HOK : Hid (OKT zs) := hok
  clear h hok
  go_enter Try.func8, Try.ntmps8
  go_wp2_with (first | (go_at_call 24; refine C.mono ?_; rintro e w' ⟨rfl, rfl⟩; clear C) | (go_at_call 25; refine K.mono ?_; rintro e w1 ⟨g, cap, rfl, hr⟩; have HR : Hid _ := hr; clear hr K))
  go_ret2
  obtain ⟨g1, g2⟩ := pnew_end HOK.out HR.out
  exact ⟨_, _, rfl, g1, fun k hk => hk.1, g2⟩
set_option maxRecDepth 100000 in
theorem pnew_no (w : World) (a : Option Addr) (c : Nat) (zs : List Int) (h : RdI w w.heap.size a zs) (hl : zs.length ≤ 1000) (hok : ¬ OKT zs) :
    Calls Try.prog 8 #[.slice a zs.length c] w fun e w' => e = .returned (.tuple #[.pointer none, .int .i64 50]) ∧ Below w.heap.size w w' := by
  have C := (check_any w w.heap.size a c zs h (by omega)).mono (R' := fun e w' => e = .returned (.int .i64 50) ∧ w = w') (fun _ _ g => ⟨by rw [g.1, chk_no hok], g.2.symm⟩)
  clear h hok
  go_enter Try.func8, Try.ntmps8
  go_wp2_with (go_at_call 24; refine C.mono ?_; rintro e w' ⟨rfl, rfl⟩; clear C)
  go_ret2
  exact ⟨rfl, Below.refl _ _⟩

/-- The program's table keeps all that the statements ask of it. -/
theorem pi : PI PT where
  th := thP
  new := pnew_ok
  no := pnew_no
  pub := ppub_any
  sub := psub_any
  leave := pleave_any
  pubs := fun h f c => (ppubs_any h f c).mono (fun e w' g => ⟨g.1, g.2 ▸ Below.refl _ _⟩)
  hears := phears_any
  route := proute_any
end Go.Proofs.Ytkbldbbhcdiihaa
