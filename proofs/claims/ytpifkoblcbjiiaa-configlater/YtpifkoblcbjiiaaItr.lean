/- Proved: the iterator that goes from a class upwards hands out what stands above it, one by one, to whatever loop. -/
import Derived.Test.YtpifkoblcbjiiaaTch
namespace Go.Proofs.Ytpifkoblcbjiiaa
open Go.RowKit Go.Shelf
set_option linter.unusedVariables false
attribute [local go_sem] Oper.semAt_some

/-- The blocks of S are as they were. -/
def KpS (S : Nat → Prop) (W W' : World) : Prop := W.heap.size ≤ W'.heap.size ∧ ∀ b, S b → b < W.heap.size → W'.heap[b]? = W.heap[b]?
theorem KpS.trans {S : Nat → Prop} {A B C : World} (h : KpS S A B) (k : KpS S B C) : KpS S A C := ⟨Nat.le_trans h.1 k.1, fun b hs hb => (k.2 b hs (Nat.lt_of_lt_of_le hb h.1)).trans (h.2 b hs hb)⟩
theorem KpS.refl (S : Nat → Prop) (A : World) : KpS S A A := ⟨Nat.le_refl _, fun _ _ _ => rfl⟩
theorem KpS.put {S : Nat → Prop} {w : World} (hS : ∀ b, S b → b < w.heap.size) (W : World) (l : Nat) (o o' : Obj) (hl : w.heap.size ≤ l) (h : W.heap[l]? = some o) (_ : o.isCells = false) (_ : o.isWalk = false) : KpS S W (W.putObj l o') := by
  have hg := grownBy_putObj' W l o'
  exact ⟨hg.size, fun b hs hb => hg.block b hb (fun e => by have := hS b hs; simp at e; omega)⟩
theorem KpS.cell {S : Nat → Prop} {W W' : World} (h : KpS S W W') {p : Addr} {v : Value} (hs : S p.block) (hc : W.cell? p = some v) : W'.cell? p = some v := by
  rw [World.cell?_of_block (h.2 p.block hs (clt hc))]
  exact hc

/-- upwards(parents, a): two boxes, and the closure over them. -/
theorem upw_any (p : Value) (a : Int) (w : World) (hp : p.oneCell' = true) (hpc : p.cells = #[p]) :
    Calls Try.prog 52 #[p, .int .i64 a] w fun e w' => e = .returned (.func (.func 70) #[] #[.pointer (some ⟨w.heap.size, 0, none⟩), .pointer (some ⟨w.heap.size + 1, 0, none⟩)]) ∧ w' = (w.alloc (.cells #[p] 22)).alloc (.cells #[.int .i64 a] 3) := by
  go_enter Try.func52, Try.ntmps52
  go_wp2
  go_ret
  exact ⟨rfl, rfl⟩

set_option maxRecDepth 100000 in
set_option maxHeartbeats 2000000 in
theorem iter_in (n : Nat) (hn : 1 ≤ n) (l Bp Ba n0 : Nat) (a : Option Addr) (c : Nat) (zs : List Int) (v : Int) (S : Nat → Prop) (hSp : S Bp) (hSa : S Ba) (hS0 : ∀ b, b < n0 → S b) (J Jx : List Int → World → Prop)
    (hY : ∀ pre x W, J pre W → pre.length < (abv zs v).length → YieldAt Fence.wide (n - 1) Try.prog l #[.int .i64 x] W fun e W' =>
      (e = .returned (.bool true) ∧ J (pre ++ [x]) W' ∧ KpS S W W') ∨ (e = .returned (.bool false) ∧ Jx (pre ++ [x]) W'))
    (W : World) (hp : W.cell? ⟨Bp, 0, none⟩ = some (.slice a zs.length c)) (ha : W.cell? ⟨Ba, 0, none⟩ = some (.int .i64 v)) (h : RdI W n0 a zs) (hl : zs.length ≤ 9223372036854775807) (h0 : J [] W) :
    CallsIn Fence.wide n Try.prog 70 #[.func (.yield l) #[] #[], .pointer (some ⟨Bp, 0, none⟩), .pointer (some ⟨Ba, 0, none⟩)] W fun e W' => (∃ u, e = .returned u) ∧
      ((∃ ys, ys = abv zs v ∧ J ys W') ∨ (∃ pre, pre <+: abv zs v ∧ Jx pre W')) := by
  have C := tcheck_any W n0 a c zs h hl
  refine callsIn_of_wp Try.func70 rfl trivial ?_ rfl
  simp only [Try.ntmps70, List.size_toArray, List.length_cons, List.length_nil, Nat.reduceAdd, Nat.reduceSub, Array.replicate_succ, Array.replicate_zero, List.push_toArray, List.append_toArray, List.nil_append, List.cons_append]
  have HRD : Hid _ := h
  clear h
  by_cases hok : OKT zs
  · rw [chk_ok hok] at C
    by_cases hv0 : v < 0
    · have e1 : abv zs v = [] := abv_no (fun g => by omega)
      have hd0 : decide (v < 0) = true := by simpa using hv0
      gi_wp2_with (refine ⟨trivial, ?_⟩; gi_at_call 23; refine (callsIn_wide.2 C).mono ?_; rintro e w' ⟨rfl, rfl⟩)
      refine bodyPost_ret (results_none rfl _ _ _) rfl ?_
      exact ⟨⟨_, rfl⟩, .inl ⟨[], e1.symm, h0⟩⟩
    · have hd0 : decide (v < 0) = false := by simpa using hv0
      by_cases hv1 : (zs.length : Int) ≤ v
      · have e1 : abv zs v = [] := abv_no (fun g => by omega)
        have hd1 : decide ((zs.length : Int) ≤ v) = true := by simpa using hv1
        gi_wp2_with (refine ⟨trivial, ?_⟩; gi_at_call 23; refine (callsIn_wide.2 C).mono ?_; rintro e w' ⟨rfl, rfl⟩)
        refine bodyPost_ret (results_none rfl _ _ _) rfl ?_
        exact ⟨⟨_, rfl⟩, .inl ⟨[], e1.symm, h0⟩⟩
      · have hd1 : decide ((zs.length : Int) ≤ v) = false := by simpa using hv1
        have e1 : abv zs v = ups zs v := abv_ok hok (by omega) (by omega)
        obtain ⟨xs, hxs⟩ : ∃ xs, abv zs v = xs := ⟨_, rfl⟩
        rw [hxs] at hY ⊢
        rw [hxs] at e1
        have HX : Hid _ := e1
        have HOK : Hid _ := hok
        have HY : Hid _ := hY
        clear hxs e1 hok hY
        gi_wp2_with (refine ⟨trivial, ?_⟩; gi_at_call 23; refine (callsIn_wide.2 C).mono ?_; rintro e w' ⟨rfl, rfl⟩)
        gi_loopw [4] (fun s4 wr => ∃ (pre : List Int) (u : Int), s4 = .int .i64 u ∧ -1 ≤ u ∧ u < zs.length ∧ Hid (xs = pre ++ ups zs u) ∧ J pre wr ∧ wr.cell? ⟨Bp, 0, none⟩ = some (.slice a zs.length c) ∧ Hid (RdI wr n0 a zs)) (fun s4 _ => (intOf s4 + 1).toNat)
        case atStart => exact ⟨[], v, rfl, by omega, by omega, by show xs = [] ++ ups zs v; simpa using HX.out, h0, hp, HRD.out⟩
        case round =>
          obtain ⟨pre, u, rfl, hu0, hu1, HXS, hJ, hp', HR⟩ := hrel
          by_cases hun : u = -1
          · subst hun
            gi_wp2
            refine ⟨fun _ h => (by cases h), ?_⟩
            gi_wp2
            go_end0
            refine ⟨⟨_, rfl⟩, .inl ⟨pre, ?_, hJ⟩⟩
            rw [HXS.out, ups_neg zs (-1) (by omega), List.append_nil]
          · have hun' : (u == -1) = false := by simpa using hun
            have hst := ups_step HOK.out u (by omega) hu1
            obtain ⟨fn, tmps, assign, body, hy, hR⟩ := HY.out pre u wr hJ (by rw [HXS.out, hst]; simp)
            have HST : Hid _ := hst
            clear hst
            gi_wp2
            refine hR.mono ?_
            rintro e W3 (⟨rfl, hJ3, hk3⟩ | ⟨rfl, hJx3⟩)
            · have hp3 := hk3.cell (p := ⟨Bp, 0, none⟩) hSp hp'
              obtain ⟨b, off, rfl, hb, hc⟩ := HR.out (by intro e; rw [e] at hu1; simp at hu1; omega)
              have HR3 : Hid (RdI W3 n0 (some ⟨b, off, none⟩) zs) := fun _ => ⟨b, off, rfl, hb, fun i hi => hk3.cell (p := ⟨b, off + i, none⟩) (hS0 b hb) (hc i hi)⟩
              obtain ⟨k, rfl⟩ := Int.eq_ofNat_of_zero_le (show 0 ≤ u by omega)
              have x3 := hk3.cell (p := ⟨b, off + k, none⟩) (hS0 b hb) (hc k (by omega))
              have hpk := HOK.out.2.2 k (by omega)
              obtain ⟨x, hx⟩ : ∃ x, nthI zs k = x := ⟨_, rfl⟩
              rw [hx] at x3 hpk
              have HXX : Hid _ := hx
              have hk' : (k : Int) < (zs.length : Int) := by omega
              clear hx hc HR hk3
              gi_wp2
              go_roundw
              case rel =>
                refine ⟨pre ++ [(k : Int)], x, rfl, hpk.1, by omega, ?_, hJ3, hp3, HR3⟩
                show xs = pre ++ [(k : Int)] ++ ups zs x
                rw [HXS.out, HST.out, List.append_assoc]
                congr 1
                show _ = (k : Int) :: ups zs x
                rw [show ((k : Int)).toNat = k by simp, HXX.out]
              case measure => simp [intOf]; omega
            · gi_wp2
              go_end0
              exact ⟨⟨_, rfl⟩, .inr ⟨pre ++ [u], ⟨ups zs (nthI zs u.toNat), by rw [HXS.out, HST.out]; simp⟩, hJx3⟩⟩
  · rw [chk_no hok] at C
    have e1 : abv zs v = [] := abv_no (fun g => hok g.1)
    gi_wp2_with (refine ⟨trivial, ?_⟩; gi_at_call 23; refine (callsIn_wide.2 C).mono ?_; rintro e w' ⟨rfl, rfl⟩)
    refine bodyPost_ret (results_none rfl _ _ _) rfl ?_
    exact ⟨⟨_, rfl⟩, .inl ⟨[], e1.symm, h0⟩⟩

/-- The iterator's contract. -/
theorem iter_stops (n : Nat) (hn : 1 ≤ n) (Bp Ba n0 : Nat) (a : Option Addr) (c : Nat) (zs : List Int) (v : Int) (S : Nat → Prop) (hSp : S Bp) (hSa : S Ba) (hS0 : ∀ b, b < n0 → S b) (w : World) (hn0 : n0 ≤ w.heap.size)
    (hp : w.cell? ⟨Bp, 0, none⟩ = some (.slice a zs.length c)) (hBp : Bp < w.heap.size) (ha : w.cell? ⟨Ba, 0, none⟩ = some (.int .i64 v)) (hBa : Ba < w.heap.size) (h : RdI w n0 a zs) (hl : zs.length ≤ 9223372036854775807) :
    SeqStopsK Fence.wide n Try.prog 70 #[.pointer (some ⟨Bp, 0, none⟩), .pointer (some ⟨Ba, 0, none⟩)] (fun x : Int => #[Value.int .i64 x]) (KpS S) (fun ys => ys = abv zs v) (fun pre => pre <+: abv zs v) (abv zs v).length w := fun l J Jx W hW _ _ hY h0 =>
  iter_in n hn l Bp Ba n0 a c zs v S hSp hSa hS0 J Jx hY W ((hW.cell (p := ⟨Bp, 0, none⟩) hBp).trans hp) ((hW.cell (p := ⟨Ba, 0, none⟩) hBa).trans ha) (h.below (hW.mono hn0)) hl h0

/-! ### Boxes -/
theorem cell_of_box {W : World} {B : Nat} {v : Value} {t : TypeId} (h : W.heap[B]? = some (.cells #[v] t (0, 0))) : W.cell? ⟨B, 0, none⟩ = some v ∧ W.frozen? ⟨B, 0, none⟩ = false := by
  constructor <;> simp [World.cell?, World.frozen?, h]
theorem cell_new (W : World) (v : Value) (t : TypeId) : (W.alloc (.cells #[v] t)).cell? ⟨W.heap.size, 0, none⟩ = some v ∧ (W.alloc (.cells #[v] t)).frozen? ⟨W.heap.size, 0, none⟩ = false :=
  cell_of_box (World.alloc_heap_new W _)
theorem cell_al {W : World} {a : Addr} {v : Value} (o : Obj) (h : W.cell? a = some v) : (W.alloc o).cell? a = some v := cell_kept h (World.grownBy_alloc W o none) (fun r e => by cases e)
theorem frozen_al {W : World} {a : Addr} {v : Value} (o : Obj) (h : W.cell? a = some v) (hf : W.frozen? a = false) : (W.alloc o).frozen? a = false := (frozen_kept h (World.grownBy_alloc W o none) (fun r e => by cases e)).trans hf
end Go.Proofs.Ytpifkoblcbjiiaa
