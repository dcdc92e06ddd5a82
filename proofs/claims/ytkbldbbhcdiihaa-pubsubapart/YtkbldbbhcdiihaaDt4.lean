/- Proved: the document's New makes a table in which nobody publishes, or hears, anything. -/
import Derived.Test.YtkbldbbhcdiihaaDt3
namespace Go.Proofs.Ytkbldbbhcdiihaa
open Go.RowKit Go.Shelf
set_option linter.unusedVariables false

def nilL : Nat → List Int := fun _ => []
theorem eight_cell {W : World} {b : Nat} {v : Value} {t : TypeId} (h : W.heap[b]? = some (.cells #[v, v, v, v, v, v, v, v] t (0, 0))) (f : Nat) (hf : f < 8) : W.cell? ⟨b, f, none⟩ = some v ∧ W.frozen? ⟨b, f, none⟩ = false := by
  have h8 : f = 0 ∨ f = 1 ∨ f = 2 ∨ f = 3 ∨ f = 4 ∨ f = 5 ∨ f = 6 ∨ f = 7 := by omega
  rcases h8 with rfl | rfl | rfl | rfl | rfl | rfl | rfl | rfl <;> constructor <;> simp [World.cell?, World.frozen?, h]
theorem new_end {w W : World} {pu su tb : Nat} {az : Option Addr} {cz : Nat} {zs : List Int} {G : Nat → Prop} (hb : Below w.heap.size w W)
    (hp : W.heap[pu]? = some (.cells #[.slice none 0 0, .slice none 0 0, .slice none 0 0, .slice none 0 0, .slice none 0 0, .slice none 0 0, .slice none 0 0, .slice none 0 0] 22 (0, 0)))
    (hs : W.heap[su]? = some (.cells #[.slice none 0 0, .slice none 0 0, .slice none 0 0, .slice none 0 0, .slice none 0 0, .slice none 0 0, .slice none 0 0, .slice none 0 0] 22 (0, 0)))
    (ht : W.heap[tb]? = some (.cells #[.slice az zs.length cz, .slice (some ⟨pu, 0, none⟩) 8 8, .slice (some ⟨su, 0, none⟩) 8 8] 55 (0, 0)))
    (hr : RdF W (fun k => w.heap.size ≤ k ∧ k ≠ tb ∧ k ≠ pu ∧ k ≠ su) az zs) (l1 : w.heap.size ≤ pu) (l2 : w.heap.size ≤ su) (l3 : w.heap.size ≤ tb) (n1 : tb ≠ pu) (n2 : tb ≠ su) (n3 : pu ≠ su) :
    RT tb zs nilL nilL 0 W (fun k => w.heap.size ≤ k ∧ k < W.heap.size) :=
  ⟨az, cz, pu, su, {
    c0 := by simp [World.cell?, ht]
    c1 := by simp [World.cell?, ht]
    c2 := by simp [World.cell?, ht]
    rd := fun hz => by
      obtain ⟨b, off, e, hg, hlt, hc⟩ := hr hz
      exact ⟨b, off, e, ⟨⟨hg.1, hlt⟩, hg.2⟩, hlt, hc⟩
    lp := fun f hf => ⟨none, 0, (eight_cell hp f hf).1, (eight_cell hp f hf).2, Nat.le_refl _, fun g => absurd rfl g⟩
    ls := fun f hf => ⟨none, 0, (eight_cell hs f hf).1, (eight_cell hs f hf).2, Nat.le_refl _, fun g => absurd rfl g⟩
    ft := ⟨l3, (Array.getElem?_eq_some_iff.1 ht).1⟩
    fp := ⟨l1, (Array.getElem?_eq_some_iff.1 hp).1⟩
    fs := ⟨l2, (Array.getElem?_eq_some_iff.1 hs).1⟩
    n1 := n1
    n2 := n2
    n3 := n3
    lt := fun k hk => hk.2 }⟩

theorem heap_set3 {W : World} {B : Nat} {a b c v : Value} {t : TypeId} (h : W.heap[B]? = some (.cells #[a, b, c] t (0, 0))) : (W.setCell ⟨B, 0, none⟩ v).heap[B]? = some (.cells #[v, b, c] t (0, 0)) := by
  obtain ⟨hlt, hk⟩ := Array.getElem?_eq_some_iff.1 h
  show (W.heap.modify B _)[B]? = _
  rw [Array.getElem?_eq_getElem (by rw [Array.size_modify]; exact hlt), Array.getElem_modify_self, hk]
  rfl
/-- The parents are in their place. -/
theorem new_end2 {w W3 w1 : World} {pu su tb : Nat} {zs : List Int} {g cap : Nat} (hb : Below w.heap.size w W3) (hs3 : W3.heap.size = w.heap.size + 3)
    (hp : W3.heap[pu]? = some (.cells #[.slice none 0 0, .slice none 0 0, .slice none 0 0, .slice none 0 0, .slice none 0 0, .slice none 0 0, .slice none 0 0, .slice none 0 0] 22 (0, 0)))
    (hs : W3.heap[su]? = some (.cells #[.slice none 0 0, .slice none 0 0, .slice none 0 0, .slice none 0 0, .slice none 0 0, .slice none 0 0, .slice none 0 0, .slice none 0 0] 22 (0, 0)))
    (ht : W3.heap[tb]? = some (.cells #[.slice none 0 0, .slice (some ⟨pu, 0, none⟩) 8 8, .slice (some ⟨su, 0, none⟩) 8 8] 55 (0, 0)))
    (l1 : w.heap.size ≤ pu) (l2 : w.heap.size ≤ su) (l3 : w.heap.size ≤ tb) (n1 : tb ≠ pu) (n2 : tb ≠ su) (n3 : pu ≠ su)
    (hown : w1.ownsRow (w.heap.size + 3) 3 1 (.slice (some ⟨g, 0, none⟩) zs.length cap) zs.length (zs.map (Value.int .i64))) (hg : W3.grownBy w1 none) :
    RT tb zs nilL nilL 0 (w1.setCell ⟨tb, 0, none⟩ (.slice (some ⟨g, 0, none⟩) zs.length cap)) (fun k => w.heap.size ≤ k ∧ k < (w1.setCell ⟨tb, 0, none⟩ (.slice (some ⟨g, 0, none⟩) zs.length cap)).heap.size) ∧ Below w.heap.size w (w1.setCell ⟨tb, 0, none⟩ (.slice (some ⟨g, 0, none⟩) zs.length cap)) := by
  have lp := (Array.getElem?_eq_some_iff.1 hp).1
  have ls := (Array.getElem?_eq_some_iff.1 hs).1
  have lt := (Array.getElem?_eq_some_iff.1 ht).1
  have hb1 : Below w.heap.size w w1 := hb.grown hg hb.size (fun k e => by cases e)
  have hbf : Below w.heap.size w (w1.setCell ⟨tb, 0, none⟩ (.slice (some ⟨g, 0, none⟩) zs.length cap)) := hb1.setCell (p := ⟨tb, 0, none⟩) l3 _
  have hge := row_ge hown (g := g) rfl
  refine ⟨new_end hbf (pu := pu) (su := su) (az := some ⟨g, 0, none⟩) (cz := cap) ?_ ?_ (heap_set3 ((hg.block tb lt (fun e => by cases e)).trans ht)) (fun hz => ?_) l1 l2 l3 n1 n2 n3 (G := fun _ => True), hbf⟩
  · rw [Below.heap_setCell _ _ _ _ (by exact fun e => n1 e.symm)]
    exact (hg.block pu lp (fun e => by cases e)).trans hp
  · rw [Below.heap_setCell _ _ _ _ (by exact fun e => n2 e.symm)]
    exact (hg.block su ls (fun e => by cases e)).trans hs
  · obtain ⟨a, c, e, hrd⟩ := rdI_of_row hown
    obtain ⟨b, off, e2, hlt, hc⟩ := hrd hz
    have : b = g ∧ off = 0 := by
      rw [e2] at e
      simp at e
      exact ⟨e.1.1.symm, e.1.2.symm⟩
    obtain ⟨rfl, rfl⟩ := this
    refine ⟨b, 0, rfl, ⟨by omega, by omega, by omega, by omega⟩, by simpa using hlt, fun i hi => ?_⟩
    rw [World.cell?_of_block (Below.heap_setCell _ _ _ _ (by show b ≠ tb; omega))]
    exact hc i hi
theorem infoI : (Try.prog.info? 22).map (fun i => (i.zero, i.size, i.bytes)) = some (some (.slice none 0 0), 1, 24) := by kernel_rfl
theorem make8 (w : World) : (Instr.makeSlice 53 (.int .i64 8) (.int .i64 8)).run Try.prog w = .ok (.slice (some ⟨w.heap.size, 0, none⟩) 8 8) (w.alloc (.cells #[.slice none 0 0, .slice none 0 0, .slice none 0 0, .slice none 0 0, .slice none 0 0, .slice none 0 0, .slice none 0 0, .slice none 0 0] 22)) := by
  obtain ⟨i0, hi, hz0, hz1, hz2⟩ := info_parts infoI
  have := run_makeSlice (P := Try.prog) w 53 22 i0 _ Try.underlying53 hi hz0 .i64 .i64 8 8 (by decide) (by decide) (by rw [hz1]; decide) (by rw [hz2]; decide) (by decide)
  rw [this, hz1]
  have e : madeCells (Value.slice none 0 0).cells (Int.toNat 8 * 1) = #[.slice none 0 0, .slice none 0 0, .slice none 0 0, .slice none 0 0, .slice none 0 0, .slice none 0 0, .slice none 0 0, .slice none 0 0] := by kernel_rfl
  rw [e]
  rfl

set_option maxRecDepth 100000 in
set_option maxHeartbeats 2000000 in
theorem dnew_ok (w : World) (a : Option Addr) (c : Nat) (zs : List Int) (h : RdI w w.heap.size a zs) (hok : OKT zs) :
    Calls Try.prog 9 #[.slice a zs.length c] w fun e w' => ∃ tb, e = .returned (.tuple #[.pointer (some ⟨tb, 0, none⟩), .int .i64 0]) ∧ RT tb zs nilL nilL 0 w' (fun k => w.heap.size ≤ k ∧ k < w'.heap.size) ∧ Below w.heap.size w w' := by
  obtain ⟨i0, hi, hz0, hz1, hz2⟩ := info_parts info3
  have hl1 := hok.1
  have hl2 := hok.2.1
  have C := (rcheck_any w w.heap.size a c zs h (by omega)).mono (R' := fun e w' => e = .returned (.int .i64 0) ∧ w = w') (fun _ _ g => ⟨by rw [g.1, chk_ok hok], g.2.symm⟩)
  obtain ⟨b, off, rfl, hb, hc⟩ := h (by intro e; rw [e] at hl1; simp at hl1)
  have HC : Hid _ := hc
  have mk := make8
  clear hc h hok
  go_enter Try.func9, Try.ntmps9
  go_wp2_with (go_at_call 26; refine C.mono ?_; rintro e w' ⟨rfl, rfl⟩; clear C)
  go_region
  · have hb3 : Below w.heap.size w ((((w.alloc (.cells #[.slice none 0 0, .slice none 0 0, .slice none 0 0, .slice none 0 0, .slice none 0 0, .slice none 0 0, .slice none 0 0, .slice none 0 0] 22)).alloc (.cells #[.slice none 0 0, .slice none 0 0, .slice none 0 0, .slice none 0 0, .slice none 0 0, .slice none 0 0, .slice none 0 0, .slice none 0 0] 22)).alloc (.cells #[.slice none 0 0, .slice (some ⟨w.heap.size, 0, none⟩) 8 8, .slice (some ⟨w.heap.size + 1, 0, none⟩) 8 8] 55)).drew) := ((((Below.refl _ w).alloc (Nat.le_refl _) _).alloc (by simp) _).alloc (by simp; omega) _).drew
    have s3 : ((((w.alloc (.cells #[.slice none 0 0, .slice none 0 0, .slice none 0 0, .slice none 0 0, .slice none 0 0, .slice none 0 0, .slice none 0 0, .slice none 0 0] 22)).alloc (.cells #[.slice none 0 0, .slice none 0 0, .slice none 0 0, .slice none 0 0, .slice none 0 0, .slice none 0 0, .slice none 0 0, .slice none 0 0] 22)).alloc (.cells #[.slice none 0 0, .slice (some ⟨w.heap.size, 0, none⟩) 8 8, .slice (some ⟨w.heap.size + 1, 0, none⟩) 8 8] 55)).drew).heap.size = w.heap.size + 3 := by simp
    have k0 : ((((w.alloc (.cells #[.slice none 0 0, .slice none 0 0, .slice none 0 0, .slice none 0 0, .slice none 0 0, .slice none 0 0, .slice none 0 0, .slice none 0 0] 22)).alloc (.cells #[.slice none 0 0, .slice none 0 0, .slice none 0 0, .slice none 0 0, .slice none 0 0, .slice none 0 0, .slice none 0 0, .slice none 0 0] 22)).alloc (.cells #[.slice none 0 0, .slice (some ⟨w.heap.size, 0, none⟩) 8 8, .slice (some ⟨w.heap.size + 1, 0, none⟩) 8 8] 55)).drew).heap[w.heap.size]? = some (.cells #[.slice none 0 0, .slice none 0 0, .slice none 0 0, .slice none 0 0, .slice none 0 0, .slice none 0 0, .slice none 0 0, .slice none 0 0] 22 (0, 0)) := by
      show (((w.alloc _).alloc _).alloc _).heap[w.heap.size]? = _
      rw [Below.heap_alloc _ _ _ (by simp; omega), Below.heap_alloc _ _ _ (by simp)]
      exact World.alloc_heap_new w _
    have k1 : ((((w.alloc (.cells #[.slice none 0 0, .slice none 0 0, .slice none 0 0, .slice none 0 0, .slice none 0 0, .slice none 0 0, .slice none 0 0, .slice none 0 0] 22)).alloc (.cells #[.slice none 0 0, .slice none 0 0, .slice none 0 0, .slice none 0 0, .slice none 0 0, .slice none 0 0, .slice none 0 0, .slice none 0 0] 22)).alloc (.cells #[.slice none 0 0, .slice (some ⟨w.heap.size, 0, none⟩) 8 8, .slice (some ⟨w.heap.size + 1, 0, none⟩) 8 8] 55)).drew).heap[w.heap.size + 1]? = some (.cells #[.slice none 0 0, .slice none 0 0, .slice none 0 0, .slice none 0 0, .slice none 0 0, .slice none 0 0, .slice none 0 0, .slice none 0 0] 22 (0, 0)) := by
      show (((w.alloc _).alloc _).alloc _).heap[w.heap.size + 1]? = _
      rw [Below.heap_alloc _ _ _ (by simp)]
      have := World.alloc_heap_new (w.alloc (.cells #[.slice none 0 0, .slice none 0 0, .slice none 0 0, .slice none 0 0, .slice none 0 0, .slice none 0 0, .slice none 0 0, .slice none 0 0] 22)) (.cells #[.slice none 0 0, .slice none 0 0, .slice none 0 0, .slice none 0 0, .slice none 0 0, .slice none 0 0, .slice none 0 0, .slice none 0 0] 22)
      simpa using this
    have k2 : ((((w.alloc (.cells #[.slice none 0 0, .slice none 0 0, .slice none 0 0, .slice none 0 0, .slice none 0 0, .slice none 0 0, .slice none 0 0, .slice none 0 0] 22)).alloc (.cells #[.slice none 0 0, .slice none 0 0, .slice none 0 0, .slice none 0 0, .slice none 0 0, .slice none 0 0, .slice none 0 0, .slice none 0 0] 22)).alloc (.cells #[.slice none 0 0, .slice (some ⟨w.heap.size, 0, none⟩) 8 8, .slice (some ⟨w.heap.size + 1, 0, none⟩) 8 8] 55)).drew).heap[w.heap.size + 1 + 1]? = some (.cells #[.slice none 0 0, .slice (some ⟨w.heap.size, 0, none⟩) 8 8, .slice (some ⟨w.heap.size + 1, 0, none⟩) 8 8] 55 (0, 0)) := by
      show (((w.alloc _).alloc _).alloc _).heap[w.heap.size + 1 + 1]? = _
      have := World.alloc_heap_new ((w.alloc (.cells #[.slice none 0 0, .slice none 0 0, .slice none 0 0, .slice none 0 0, .slice none 0 0, .slice none 0 0, .slice none 0 0, .slice none 0 0] 22)).alloc (.cells #[.slice none 0 0, .slice none 0 0, .slice none 0 0, .slice none 0 0, .slice none 0 0, .slice none 0 0, .slice none 0 0, .slice none 0 0] 22)) (.cells #[.slice none 0 0, .slice (some ⟨w.heap.size, 0, none⟩) 8 8, .slice (some ⟨w.heap.size + 1, 0, none⟩) 8 8] 55)
      simpa using this
    obtain ⟨W3, hW3⟩ : ∃ W3, (((w.alloc (.cells #[.slice none 0 0, .slice none 0 0, .slice none 0 0, .slice none 0 0, .slice none 0 0, .slice none 0 0, .slice none 0 0, .slice none 0 0] 22)).alloc (.cells #[.slice none 0 0, .slice none 0 0, .slice none 0 0, .slice none 0 0, .slice none 0 0, .slice none 0 0, .slice none 0 0, .slice none 0 0] 22)).alloc (.cells #[.slice none 0 0, .slice (some ⟨w.heap.size, 0, none⟩) 8 8, .slice (some ⟨w.heap.size + 1, 0, none⟩) 8 8] 55)).drew = W3 := ⟨_, rfl⟩
    rw [hW3] at hb3 s3 k0 k1 k2 ⊢
    have t0 : W3.cell? ⟨w.heap.size + 1 + 1, 0, none⟩ = some (.slice none 0 0) := by simp [World.cell?, k2]
    have t1 : W3.frozen? ⟨w.heap.size + 1 + 1, 0, none⟩ = false := by simp [World.frozen?, k2]
    have HS : Hid (∀ j u, (zs.map (Value.int .i64))[j]? = some u → W3.cell? ((⟨b, off, none⟩ : Addr).add j) = some u) := fun j u hj => by
      have hj' : j < zs.length := by have := (List.getElem?_eq_some_iff.1 hj).1; simpa using this
      rw [Addr.add_lit, (hb3.cell (p := ⟨b, off + j, none⟩) hb), HC.out j hj']
      simpa [nthI, hj'] using hj
    have K0 : Hid _ := k0
    have K1 : Hid _ := k1
    have K2 : Hid _ := k2
    clear k0 k1 k2 hW3
    go_wp2_with (at_builtin; refine wpList_append_own _ rfl _ _ 22 rfl (w.heap.size + 3) 3 i0 (.int .i64 0) 1 8 Try.underlying22 hi hz0 hz1 hz2 rfl (by decide) _ _ _ rfl (World.ownsRow_nil W3 _ _ _) ⟨b, off, none⟩ zs.length c (zs.map (Value.int .i64)) rfl (by simp) HS.out (by intro u hu; simp at hu; obtain ⟨q, _, rfl⟩ := hu; rfl) (by unfold maxLen; omega) (by omega) (by omega) ?_)
    intro v' w1 hown hgrow _
    obtain ⟨g', cap', rfl⟩ : ∃ g' cap', v' = .slice (some ⟨g', 0, none⟩) zs.length cap' := by
      rcases hown.2 with ⟨_, e⟩ | ⟨g, cap, cur, e, _⟩
      · omega
      · exact ⟨g, cap, e⟩
    have r0 : w1.cell? ⟨w.heap.size + 1 + 1, 0, none⟩ = some (.slice none 0 0) := (World.cell?_of_block (hgrow.block (w.heap.size + 1 + 1) (by omega) (fun e => by cases e))).trans t0
    have r1 : w1.frozen? ⟨w.heap.size + 1 + 1, 0, none⟩ = false := (World.frozen?_of_block (a := ⟨w.heap.size + 1 + 1, 0, none⟩) (hgrow.block (w.heap.size + 1 + 1) (by omega) (fun e => by cases e))).trans t1
    have HE : Hid _ := new_end2 hb3 s3 K0.out K1.out K2.out (by omega) (by omega) (by omega) (by omega) (by omega) (by omega) hown hgrow
    clear hown hgrow t0 t1
    go_wp2
    go_ret2
    exact ⟨_, rfl, HE.out⟩
  · have hb3 : Below w.heap.size w ((((w.alloc (.cells #[.slice none 0 0, .slice none 0 0, .slice none 0 0, .slice none 0 0, .slice none 0 0, .slice none 0 0, .slice none 0 0, .slice none 0 0] 22)).alloc (.cells #[.slice none 0 0, .slice none 0 0, .slice none 0 0, .slice none 0 0, .slice none 0 0, .slice none 0 0, .slice none 0 0, .slice none 0 0] 22)).alloc (.cells #[.slice none 0 0, .slice (some ⟨w.heap.size + 1, 0, none⟩) 8 8, .slice (some ⟨w.heap.size, 0, none⟩) 8 8] 55)).drew) := ((((Below.refl _ w).alloc (Nat.le_refl _) _).alloc (by simp) _).alloc (by simp; omega) _).drew
    have s3 : ((((w.alloc (.cells #[.slice none 0 0, .slice none 0 0, .slice none 0 0, .slice none 0 0, .slice none 0 0, .slice none 0 0, .slice none 0 0, .slice none 0 0] 22)).alloc (.cells #[.slice none 0 0, .slice none 0 0, .slice none 0 0, .slice none 0 0, .slice none 0 0, .slice none 0 0, .slice none 0 0, .slice none 0 0] 22)).alloc (.cells #[.slice none 0 0, .slice (some ⟨w.heap.size + 1, 0, none⟩) 8 8, .slice (some ⟨w.heap.size, 0, none⟩) 8 8] 55)).drew).heap.size = w.heap.size + 3 := by simp
    have k0 : ((((w.alloc (.cells #[.slice none 0 0, .slice none 0 0, .slice none 0 0, .slice none 0 0, .slice none 0 0, .slice none 0 0, .slice none 0 0, .slice none 0 0] 22)).alloc (.cells #[.slice none 0 0, .slice none 0 0, .slice none 0 0, .slice none 0 0, .slice none 0 0, .slice none 0 0, .slice none 0 0, .slice none 0 0] 22)).alloc (.cells #[.slice none 0 0, .slice (some ⟨w.heap.size + 1, 0, none⟩) 8 8, .slice (some ⟨w.heap.size, 0, none⟩) 8 8] 55)).drew).heap[w.heap.size]? = some (.cells #[.slice none 0 0, .slice none 0 0, .slice none 0 0, .slice none 0 0, .slice none 0 0, .slice none 0 0, .slice none 0 0, .slice none 0 0] 22 (0, 0)) := by
      show (((w.alloc _).alloc _).alloc _).heap[w.heap.size]? = _
      rw [Below.heap_alloc _ _ _ (by simp; omega), Below.heap_alloc _ _ _ (by simp)]
      exact World.alloc_heap_new w _
    have k1 : ((((w.alloc (.cells #[.slice none 0 0, .slice none 0 0, .slice none 0 0, .slice none 0 0, .slice none 0 0, .slice none 0 0, .slice none 0 0, .slice none 0 0] 22)).alloc (.cells #[.slice none 0 0, .slice none 0 0, .slice none 0 0, .slice none 0 0, .slice none 0 0, .slice none 0 0, .slice none 0 0, .slice none 0 0] 22)).alloc (.cells #[.slice none 0 0, .slice (some ⟨w.heap.size + 1, 0, none⟩) 8 8, .slice (some ⟨w.heap.size, 0, none⟩) 8 8] 55)).drew).heap[w.heap.size + 1]? = some (.cells #[.slice none 0 0, .slice none 0 0, .slice none 0 0, .slice none 0 0, .slice none 0 0, .slice none 0 0, .slice none 0 0, .slice none 0 0] 22 (0, 0)) := by
      show (((w.alloc _).alloc _).alloc _).heap[w.heap.size + 1]? = _
      rw [Below.heap_alloc _ _ _ (by simp)]
      have := World.alloc_heap_new (w.alloc (.cells #[.slice none 0 0, .slice none 0 0, .slice none 0 0, .slice none 0 0, .slice none 0 0, .slice none 0 0, .slice none 0 0, .slice none 0 0] 22)) (.cells #[.slice none 0 0, .slice none 0 0, .slice none 0 0, .slice none 0 0, .slice none 0 0, .slice none 0 0, .slice none 0 0, .slice none 0 0] 22)
      simpa using this
    have k2 : ((((w.alloc (.cells #[.slice none 0 0, .slice none 0 0, .slice none 0 0, .slice none 0 0, .slice none 0 0, .slice none 0 0, .slice none 0 0, .slice none 0 0] 22)).alloc (.cells #[.slice none 0 0, .slice none 0 0, .slice none 0 0, .slice none 0 0, .slice none 0 0, .slice none 0 0, .slice none 0 0, .slice none 0 0] 22)).alloc (.cells #[.slice none 0 0, .slice (some ⟨w.heap.size + 1, 0, none⟩) 8 8, .slice (some ⟨w.heap.size, 0, none⟩) 8 8] 55)).drew).heap[w.heap.size + 1 + 1]? = some (.cells #[.slice none 0 0, .slice (some ⟨w.heap.size + 1, 0, none⟩) 8 8, .slice (some ⟨w.heap.size, 0, none⟩) 8 8] 55 (0, 0)) := by
      show (((w.alloc _).alloc _).alloc _).heap[w.heap.size + 1 + 1]? = _
      have := World.alloc_heap_new ((w.alloc (.cells #[.slice none 0 0, .slice none 0 0, .slice none 0 0, .slice none 0 0, .slice none 0 0, .slice none 0 0, .slice none 0 0, .slice none 0 0] 22)).alloc (.cells #[.slice none 0 0, .slice none 0 0, .slice none 0 0, .slice none 0 0, .slice none 0 0, .slice none 0 0, .slice none 0 0, .slice none 0 0] 22)) (.cells #[.slice none 0 0, .slice (some ⟨w.heap.size + 1, 0, none⟩) 8 8, .slice (some ⟨w.heap.size, 0, none⟩) 8 8] 55)
      simpa using this
    obtain ⟨W3, hW3⟩ : ∃ W3, (((w.alloc (.cells #[.slice none 0 0, .slice none 0 0, .slice none 0 0, .slice none 0 0, .slice none 0 0, .slice none 0 0, .slice none 0 0, .slice none 0 0] 22)).alloc (.cells #[.slice none 0 0, .slice none 0 0, .slice none 0 0, .slice none 0 0, .slice none 0 0, .slice none 0 0, .slice none 0 0, .slice none 0 0] 22)).alloc (.cells #[.slice none 0 0, .slice (some ⟨w.heap.size + 1, 0, none⟩) 8 8, .slice (some ⟨w.heap.size, 0, none⟩) 8 8] 55)).drew = W3 := ⟨_, rfl⟩
    rw [hW3] at hb3 s3 k0 k1 k2 ⊢
    have t0 : W3.cell? ⟨w.heap.size + 1 + 1, 0, none⟩ = some (.slice none 0 0) := by simp [World.cell?, k2]
    have t1 : W3.frozen? ⟨w.heap.size + 1 + 1, 0, none⟩ = false := by simp [World.frozen?, k2]
    have HS : Hid (∀ j u, (zs.map (Value.int .i64))[j]? = some u → W3.cell? ((⟨b, off, none⟩ : Addr).add j) = some u) := fun j u hj => by
      have hj' : j < zs.length := by have := (List.getElem?_eq_some_iff.1 hj).1; simpa using this
      rw [Addr.add_lit, (hb3.cell (p := ⟨b, off + j, none⟩) hb), HC.out j hj']
      simpa [nthI, hj'] using hj
    have K0 : Hid _ := k0
    have K1 : Hid _ := k1
    have K2 : Hid _ := k2
    clear k0 k1 k2 hW3
    go_wp2_with (at_builtin; refine wpList_append_own _ rfl _ _ 22 rfl (w.heap.size + 3) 3 i0 (.int .i64 0) 1 8 Try.underlying22 hi hz0 hz1 hz2 rfl (by decide) _ _ _ rfl (World.ownsRow_nil W3 _ _ _) ⟨b, off, none⟩ zs.length c (zs.map (Value.int .i64)) rfl (by simp) HS.out (by intro u hu; simp at hu; obtain ⟨q, _, rfl⟩ := hu; rfl) (by unfold maxLen; omega) (by omega) (by omega) ?_)
    intro v' w1 hown hgrow _
    obtain ⟨g', cap', rfl⟩ : ∃ g' cap', v' = .slice (some ⟨g', 0, none⟩) zs.length cap' := by
      rcases hown.2 with ⟨_, e⟩ | ⟨g, cap, cur, e, _⟩
      · omega
      · exact ⟨g, cap, e⟩
    have r0 : w1.cell? ⟨w.heap.size + 1 + 1, 0, none⟩ = some (.slice none 0 0) := (World.cell?_of_block (hgrow.block (w.heap.size + 1 + 1) (by omega) (fun e => by cases e))).trans t0
    have r1 : w1.frozen? ⟨w.heap.size + 1 + 1, 0, none⟩ = false := (World.frozen?_of_block (a := ⟨w.heap.size + 1 + 1, 0, none⟩) (hgrow.block (w.heap.size + 1 + 1) (by omega) (fun e => by cases e))).trans t1
    have HE : Hid _ := new_end2 hb3 s3 K1.out K0.out K2.out (by omega) (by omega) (by omega) (by omega) (by omega) (by omega) hown hgrow
    clear hown hgrow t0 t1
    go_wp2
    go_ret2
    exact ⟨_, rfl, HE.out⟩
theorem dnew_no (w : World) (a : Option Addr) (c : Nat) (zs : List Int) (h : RdI w w.heap.size a zs) (hl : zs.length ≤ 9223372036854775807) (hok : ¬ OKT zs) :
    Calls Try.prog 9 #[.slice a zs.length c] w fun e w' => e = .returned (.tuple #[.pointer none, .int .i64 50]) ∧ w = w' := by
  have C := (rcheck_any w w.heap.size a c zs h hl).mono (R' := fun e w' => e = .returned (.int .i64 50) ∧ w = w') (fun _ _ g => ⟨by rw [g.1, chk_no hok], g.2.symm⟩)
  clear h hok
  go_enter Try.func9, Try.ntmps9
  go_wp2_with (go_at_call 26; refine C.mono ?_; rintro e w' ⟨rfl, rfl⟩; clear C)
  go_ret2
  exact ⟨rfl, rfl⟩
end Go.Proofs.Ytkbldbbhcdiihaa
