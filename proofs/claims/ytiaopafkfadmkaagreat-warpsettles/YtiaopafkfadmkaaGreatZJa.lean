/- Joined: the texts that follow, each with its own sentence. -/
import Derived.RangeFuncNested
import Derived.RangeFuncBound
import Derived.RangeFuncCalls
import Derived.RangeFuncLeaves
import Derived.RangeFuncFrom
import Derived.RangeFuncBox
import Derived.Maps.AppendAt
import Derived.Shelf.Abstract
import Derived.Shelf.RegionOpen
import Derived.WalkKit
import Derived.WalkSpells
import Derived.Below
import Derived.OwnWalk
import Derived.OwnWalkIn
import Derived.TacticsInMore
import Derived.LoopNIn
import Derived.LoopIn
import Derived.Shelf.RegionOpenPlain
import Derived.Sort.WalkB12
import Derived.Test.YtiaopafkfadmkaaGreatProg
set_option linter.unusedVariables false
set_option maxRecDepth 100000
namespace Go.Proofs.YtiaopafkfadmkaaGreat
open Go.RowKit Go.Shelf
def nthI (zs : List Int) (i : Nat) : Int := zs.getD i 0
def OKT (zs : List Int) : Prop := 1 ≤ zs.length ∧ zs.length ≤ 16 ∧ ∀ i, i < zs.length → -1 ≤ nthI zs i ∧ nthI zs i < (i : Int)
def okT (zs : List Int) : Bool := decide (1 ≤ zs.length) && (decide (zs.length ≤ 16) && (List.range zs.length).all (fun i => decide (-1 ≤ nthI zs i) && decide (nthI zs i < (i : Int))))
theorem okT_iff (zs : List Int) : okT zs = true ↔ OKT zs := by
 unfold okT OKT
 simp [List.all_eq_true]
def upF (zs : List Int) : Nat → Int → List Int
 | 0, _ => []
 | n + 1, a => if a < 0 then [] else a :: upF zs n (nthI zs a.toNat)
def ups (zs : List Int) (a : Int) : List Int := upF zs (a.toNat + 1) a
theorem upF_same {zs : List Int} (h : OKT zs) (n : Nat) : ∀ (m : Nat) (a : Int), a < zs.length → (a + 1).toNat ≤ n → (a + 1).toNat ≤ m → upF zs n a = upF zs m a := by
 induction n with
 | zero =>
  intro m a hl hn hm
  have : a < 0 := by omega
  cases m <;> simp [upF, this]
 | succ n ih =>
  intro m a hl hn hm
  by_cases e : a < 0
  ·cases m <;> simp [upF, e]
  ·cases m with
   | zero => omega
   | succ m =>
    simp only [upF]
    rw [if_neg e, if_neg e]
    have hp := h.2.2 a.toNat (by omega)
    rw [ih m (nthI zs a.toNat) (by omega) (by omega) (by omega)]
theorem ups_neg (zs : List Int) (a : Int) (h : a < 0) : ups zs a = [] := by simp [ups, upF, h]
theorem ups_step {zs : List Int} (h : OKT zs) (a : Int) (h0 : 0 ≤ a) (hl : a < zs.length) : ups zs a = a :: ups zs (nthI zs a.toNat) := by
 have hp := h.2.2 a.toNat (by omega)
 rw [show ups zs a = if a < 0 then [] else a :: upF zs a.toNat (nthI zs a.toNat) from rfl, if_neg (by omega)]
 congr 1
 exact upF_same h _ _ _ (by omega) (by omega) (by omega)
def abv (zs : List Int) (a : Int) : List Int := if okT zs = true ∧ 0 ≤ a ∧ a < zs.length then ups zs a else []
theorem abv_ok {zs : List Int} {a : Int} (h : OKT zs) (h0 : 0 ≤ a) (hl : a < zs.length) : abv zs a = ups zs a := by
 unfold abv
 rw [if_pos ⟨(okT_iff zs).2 h, h0, hl⟩]
theorem abv_no {zs : List Int} {a : Int} (h : ¬ (OKT zs ∧ 0 ≤ a ∧ a < zs.length)) : abv zs a = [] := by
 unfold abv
 rw [if_neg (fun g => h ⟨(okT_iff zs).1 g.1, g.2⟩)]
theorem ups_len {zs : List Int} (h : OKT zs) (n : Nat) : ∀ (a : Int), a < zs.length → (a + 1).toNat ≤ n → (ups zs a).length ≤ n := by
 induction n with
 | zero =>
  intro a hl hn
  rw [ups_neg zs a (by omega)]; simp
 | succ n ih =>
  intro a hl hn
  by_cases h0 : a < 0
  ·rw [ups_neg zs a h0]; simp
  ·have hp := h.2.2 a.toNat (by omega)
   rw [ups_step h a (by omega) hl]
   have := ih (nthI zs a.toNat) (by omega) (by omega)
   simp; omega
theorem abv_len (zs : List Int) (a : Int) : (abv zs a).length ≤ 16 := by
 unfold abv
 split
 ·rename_i h
  have ho := (okT_iff zs).1 h.1
  exact Nat.le_trans (ups_len ho (a + 1).toNat a h.2.2 (Nat.le_refl _)) (by have := ho.2.1; omega)
 ·simp
def belF (zs : List Int) (a : Int) (n : Nat) : List Int := ((List.range n).filter (fun i : Nat => decide (a ∈ abv zs (Int.ofNat i)))).map Int.ofNat
def bel (zs : List Int) (a : Int) : List Int := belF zs a zs.length
def RdI (w : World) (n0 : Nat) (a : Option Addr) (zs : List Int) : Prop := zs ≠ [] → ∃ b off, a = some ⟨b, off, none⟩ ∧ b < n0 ∧ ∀ i, i < zs.length → w.cell? ⟨b, off + i, none⟩ = some (.int .i64 (nthI zs i))
theorem RdI.below {w W : World} {n0 : Nat} {a : Option Addr} {zs : List Int} (h : RdI w n0 a zs) (hb : Below n0 w W) : RdI W n0 a zs := fun hz => by
 obtain ⟨b, off, rfl, hb', hc⟩ := h hz
 exact ⟨b, off, rfl, hb', fun i hi => (hb.cell (p := ⟨b, off + i, none⟩) hb').trans (hc i hi)⟩
theorem RdI.mono {w : World} {n0 n1 : Nat} {a : Option Addr} {zs : List Int} (h : RdI w n0 a zs) (hn : n0 ≤ n1) : RdI w n1 a zs := fun hz => by
 obtain ⟨b, off, rfl, hb', hc⟩ := h hz
 exact ⟨b, off, rfl, Nat.lt_of_lt_of_le hb' hn, hc⟩
theorem RdI.go {w W : World} {n0 : Nat} {a : Option Addr} {zs : List Int} (h : RdI w n0 a zs) (hn : n0 ≤ w.heap.size) (hb : Below w.heap.size w W) : RdI W W.heap.size a zs :=
 ((h.mono hn).below hb).mono hb.size
theorem clt {W : World} {p : Addr} {v : Value} (hc : W.cell? p = some v) : p.block < W.heap.size := by
 rcases Nat.lt_or_ge p.block W.heap.size with g | g
 ·exact g
 ·simp [World.cell?, Array.getElem?_eq_none g] at hc
theorem info3 : (Tryz.prog.info? 3).map (fun i => (i.zero, i.size, i.bytes)) = some (some (.int .i64 0), 1, 8) := by kernel_rfl
theorem rdI_of_row {W : World} {b0 : Nat} {v : Value} {xs : List Int} (h : W.ownsRow b0 3 1 v xs.length (xs.map (Value.int .i64))) : ∃ a c, v = .slice a xs.length c ∧ RdI W W.heap.size a xs := by
 rcases h.2 with ⟨rfl, hk⟩ | ⟨g, cap, cur, rfl, _, hg, _, _, hs, h3⟩
 ·exact ⟨none, 0, by rw [hk], fun hz => absurd (List.eq_nil_of_length_eq_zero hk) hz⟩
 ·refine ⟨_, cap, rfl, fun _ => ⟨g, 0, rfl, (Array.getElem?_eq_some_iff.1 hg).1, fun i hi => ?_⟩⟩
  have h4 := congrArg (fun l => l[i]?) h3
  simp only [Nat.mul_one, List.getElem?_take, hi, if_true, List.getElem?_map, Array.getElem?_toList, List.getElem?_eq_getElem hi, Option.map_some] at h4
  simp [World.cell?, hg, h4, nthI, hi]
end Go.Proofs.YtiaopafkfadmkaaGreat
namespace Go.Proofs.YtiaopafkfadmkaaGreat
open Go.RowKit Go.Shelf
attribute [local go_sem] Oper.semAt_some
def chk (zs : List Int) : Int := if okT zs = true then 0 else 50
theorem chk_ok {zs : List Int} (h : OKT zs) : chk zs = 0 := by unfold chk; rw [if_pos ((okT_iff zs).2 h)]
theorem chk_no {zs : List Int} (h : ¬ OKT zs) : chk zs = 50 := by unfold chk; rw [if_neg (fun g => h ((okT_iff zs).1 g))]
set_option maxHeartbeats 1000000 in
theorem tcheck_any (w : World) (n0 : Nat) (a : Option Addr) (c : Nat) (zs : List Int) (h : RdI w n0 a zs) (hl : zs.length ≤ 9223372036854775807) :
  Calls Tryz.prog 92 #[.slice a zs.length c] w fun e w' => e = .returned (.int .i64 (chk zs)) ∧ w' = w := by
 by_cases h1 : zs.length < 1
 ·have hn : ¬ OKT zs := fun g => by have := g.1; omega
  have h1' : (zs.length : Int) < 1 := by omega
  have hd : decide ((zs.length : Int) < 1) = true := by simpa using h1'
  rw [chk_no hn]
  go_enter Tryz.func92, Tryz.ntmps92
  go_wp2
  go_ret
  exact ⟨rfl, rfl⟩
 ·have hd : decide ((zs.length : Int) < 1) = false := by simp; omega
  have h1' : ¬ ((zs.length : Int) < 1) := by omega
  by_cases h2 : 16 < zs.length
  ·have hn : ¬ OKT zs := fun g => by have := g.2.1; omega
   have h2' : (16 : Int) < (zs.length : Int) := by omega
   rw [chk_no hn]
   go_enter Tryz.func92, Tryz.ntmps92
   go_wp2
   go_ret
   exact ⟨rfl, rfl⟩
  ·have h2' : ¬ ((16 : Int) < (zs.length : Int)) := by omega
   obtain ⟨b, off, rfl, hb, hc⟩ := h (by intro e; simp [e] at h1)
   obtain ⟨R, hR⟩ : ∃ R : Int, chk zs = R := ⟨_, rfl⟩
   have HR : Hid _ := hR
   rw [hR]
   have HCC : Hid _ := hc
   clear hR h hc
   go_enter Tryz.func92, Tryz.ntmps92
   go_wp2_with fail
   go_loopw [15] (fun si wr => wr = w ∧ ∃ k : Nat, k ≤ zs.length ∧ si = .int .i64 k ∧ Hid (∀ j, j < k → -1 ≤ nthI zs j ∧ nthI zs j < (j : Int))) (fun si _ => zs.length - (intOf si).toNat)
   case atStart => exact ⟨rfl, 0, Nat.zero_le _, rfl, (fun j hj => absurd hj (Nat.not_lt_zero _) : ∀ j, j < 0 → -1 ≤ nthI zs j ∧ nthI zs j < (j : Int))⟩
   case round =>
    obtain ⟨rfl, k, hk, rfl, HJ⟩ := hrel
    by_cases hkl : k < zs.length
    ·have hk' : (k : Int) < (zs.length : Int) := by omega
     have x0 := HCC.out k hkl
     obtain ⟨x, hx⟩ : ∃ x, nthI zs k = x := ⟨_, rfl⟩
     rw [hx] at x0
     have HX : Hid _ := hx
     clear hx
     by_cases t0 : x = -1
     ·subst t0
      go_wp2
      go_roundw
      case rel =>
       refine ⟨by first | rfl | trivial, k + 1, by omega, by go_num, ?_⟩
       refine (fun j hj => ?_ : ∀ j, j < k + 1 → -1 ≤ nthI zs j ∧ nthI zs j < (j : Int))
       by_cases e : j = k
       ·rw [e, HX.out]; omega
       ·exact HJ.out j (by omega)
      case measure => simp [intOf]; omega
     ·have hd0 : (x == -1) = false := by simpa using t0
      by_cases t1 : x < 0
      ·have hd1 : decide (x < 0) = true := by simpa using t1
       go_wp2
       go_ret
       refine ⟨?_, rfl⟩
       rw [← HR.out, chk_no (fun g => by have := (g.2.2 k hkl).1; rw [HX.out] at this; omega)]
       rfl
      ·have hd1 : decide (x < 0) = false := by simpa using t1
       by_cases t2 : (k : Int) ≤ x
       ·have hd2 : decide ((k : Int) ≤ x) = true := by simpa using t2
        go_wp2
        go_ret
        refine ⟨?_, rfl⟩
        rw [← HR.out, chk_no (fun g => by have := (g.2.2 k hkl).2; rw [HX.out] at this; omega)]
        rfl
       ·have hd2 : decide ((k : Int) ≤ x) = false := by simpa using t2
        go_wp2
        go_roundw
        case rel =>
         refine ⟨by first | rfl | trivial, k + 1, by omega, by go_num, ?_⟩
         refine (fun j hj => ?_ : ∀ j, j < k + 1 → -1 ≤ nthI zs j ∧ nthI zs j < (j : Int))
         by_cases e : j = k
         ·rw [e, HX.out]; omega
         ·exact HJ.out j (by omega)
        case measure => simp [intOf]; omega
    ·obtain rfl : k = zs.length := by omega
     go_wp2
     go_ret
     refine ⟨?_, rfl⟩
     rw [← HR.out, chk_ok ⟨by omega, by omega, HJ.out⟩]
     rfl
end Go.Proofs.YtiaopafkfadmkaaGreat
namespace Go.Proofs.YtiaopafkfadmkaaGreat
open Go.RowKit Go.Shelf
attribute [local go_sem] Oper.semAt_some
def KpS (S : Nat → Prop) (W W' : World) : Prop := W.heap.size ≤ W'.heap.size ∧ ∀ b, S b → b < W.heap.size → W'.heap[b]? = W.heap[b]?
theorem KpS.trans {S : Nat → Prop} {A B C : World} (h : KpS S A B) (k : KpS S B C) : KpS S A C := ⟨Nat.le_trans h.1 k.1, fun b hs hb => (k.2 b hs (Nat.lt_of_lt_of_le hb h.1)).trans (h.2 b hs hb)⟩
theorem KpS.put {S : Nat → Prop} {w : World} (hS : ∀ b, S b → b < w.heap.size) (W : World) (l : Nat) (o o' : Obj) (hl : w.heap.size ≤ l) (h : W.heap[l]? = some o) (_ : o.isCells = false) (_ : o.isWalk = false) : KpS S W (W.putObj l o') := by
 have hg := grownBy_putObj' W l o'
 exact ⟨hg.size, fun b hs hb => hg.block b hb (fun e => by have := hS b hs; simp at e; omega)⟩
theorem KpS.cell {S : Nat → Prop} {W W' : World} (h : KpS S W W') {p : Addr} {v : Value} (hs : S p.block) (hc : W.cell? p = some v) : W'.cell? p = some v := by
 rw [World.cell?_of_block (h.2 p.block hs (clt hc))]
 exact hc
theorem upw_any (p : Value) (a : Int) (w : World) (hp : p.oneCell' = true) (hpc : p.cells = #[p]) :
  Calls Tryz.prog 186 #[p, .int .i64 a] w fun e w' => e = .returned (.func (.func 209) #[] #[.pointer (some ⟨w.heap.size, 0, none⟩), .pointer (some ⟨w.heap.size + 1, 0, none⟩)]) ∧ w' = (w.alloc (.cells #[p] 22)).alloc (.cells #[.int .i64 a] 3) := by
 go_enter Tryz.func186, Tryz.ntmps186
 go_wp2
 go_ret
 exact ⟨rfl, rfl⟩
set_option maxHeartbeats 2000000 in
theorem iter_in (n : Nat) (hn : 1 ≤ n) (l Bp Ba n0 : Nat) (a : Option Addr) (c : Nat) (zs : List Int) (v : Int) (S : Nat → Prop) (hSp : S Bp) (hSa : S Ba) (hS0 : ∀ b, b < n0 → S b) (J Jx : List Int → World → Prop)
  (hY : ∀ pre x W, J pre W → pre.length < (abv zs v).length → YieldAt Fence.wide (n - 1) Tryz.prog l #[.int .i64 x] W fun e W' =>
   (e = .returned (.bool true) ∧ J (pre ++ [x]) W' ∧ KpS S W W') ∨ (e = .returned (.bool false) ∧ Jx (pre ++ [x]) W'))
  (W : World) (hp : W.cell? ⟨Bp, 0, none⟩ = some (.slice a zs.length c)) (ha : W.cell? ⟨Ba, 0, none⟩ = some (.int .i64 v)) (h : RdI W n0 a zs) (hl : zs.length ≤ 9223372036854775807) (h0 : J [] W) :
  CallsIn Fence.wide n Tryz.prog 209 #[.func (.yield l) #[] #[], .pointer (some ⟨Bp, 0, none⟩), .pointer (some ⟨Ba, 0, none⟩)] W fun e W' => (∃ u, e = .returned u) ∧
   ((∃ ys, ys = abv zs v ∧ J ys W') ∨ (∃ pre, pre <+: abv zs v ∧ Jx pre W')) := by
 have C := tcheck_any W n0 a c zs h hl
 refine callsIn_of_wp Tryz.func209 rfl trivial ?_ rfl
 simp only [Tryz.ntmps209, List.size_toArray, List.length_cons, List.length_nil, Nat.reduceAdd, Nat.reduceSub, Array.replicate_succ, Array.replicate_zero, List.push_toArray, List.append_toArray, List.nil_append, List.cons_append]
 have HRD : Hid _ := h
 clear h
 by_cases hok : OKT zs
 ·rw [chk_ok hok] at C
  by_cases hv0 : v < 0
  ·have e1 : abv zs v = [] := abv_no (fun g => by omega)
   have hd0 : decide (v < 0) = true := by simpa using hv0
   gi_wp2_with (refine ⟨trivial, ?_⟩; gi_at_call 92; refine (callsIn_wide.2 C).mono ?_; rintro e w' ⟨rfl, rfl⟩)
   refine bodyPost_ret (results_none rfl _ _ _) rfl ?_
   exact ⟨⟨_, rfl⟩, .inl ⟨[], e1.symm, h0⟩⟩
  ·have hd0 : decide (v < 0) = false := by simpa using hv0
   by_cases hv1 : (zs.length : Int) ≤ v
   ·have e1 : abv zs v = [] := abv_no (fun g => by omega)
    have hd1 : decide ((zs.length : Int) ≤ v) = true := by simpa using hv1
    gi_wp2_with (refine ⟨trivial, ?_⟩; gi_at_call 92; refine (callsIn_wide.2 C).mono ?_; rintro e w' ⟨rfl, rfl⟩)
    refine bodyPost_ret (results_none rfl _ _ _) rfl ?_
    exact ⟨⟨_, rfl⟩, .inl ⟨[], e1.symm, h0⟩⟩
   ·have hd1 : decide ((zs.length : Int) ≤ v) = false := by simpa using hv1
    have e1 : abv zs v = ups zs v := abv_ok hok (by omega) (by omega)
    obtain ⟨xs, hxs⟩ : ∃ xs, abv zs v = xs := ⟨_, rfl⟩
    rw [hxs] at hY ⊢
    rw [hxs] at e1
    have HX : Hid _ := e1
    have HOK : Hid _ := hok
    have HY : Hid _ := hY
    clear hxs e1 hok hY
    gi_wp2_with (refine ⟨trivial, ?_⟩; gi_at_call 92; refine (callsIn_wide.2 C).mono ?_; rintro e w' ⟨rfl, rfl⟩)
    gi_loopw [4] (fun s4 wr => ∃ (pre : List Int) (u : Int), s4 = .int .i64 u ∧ -1 ≤ u ∧ u < zs.length ∧ Hid (xs = pre ++ ups zs u) ∧ J pre wr ∧ wr.cell? ⟨Bp, 0, none⟩ = some (.slice a zs.length c) ∧ Hid (RdI wr n0 a zs)) (fun s4 _ => (intOf s4 + 1).toNat)
    case atStart => exact ⟨[], v, rfl, by omega, by omega, by show xs = [] ++ ups zs v; simpa using HX.out, h0, hp, HRD.out⟩
    case round =>
     obtain ⟨pre, u, rfl, hu0, hu1, HXS, hJ, hp', HR⟩ := hrel
     by_cases hun : u = -1
     ·subst hun
      gi_wp2
      refine ⟨fun _ h => (by cases h), ?_⟩
      gi_wp2
      go_end0
      refine ⟨⟨_, rfl⟩, .inl ⟨pre, ?_, hJ⟩⟩
      rw [HXS.out, ups_neg zs (-1) (by omega), List.append_nil]
     ·have hun' : (u == -1) = false := by simpa using hun
      have hst := ups_step HOK.out u (by omega) hu1
      obtain ⟨fn, tmps, assign, body, hy, hR⟩ := HY.out pre u wr hJ (by rw [HXS.out, hst]; simp)
      have HST : Hid _ := hst
      clear hst
      gi_wp2
      refine hR.mono ?_
      rintro e W3 (⟨rfl, hJ3, hk3⟩ | ⟨rfl, hJx3⟩)
      ·have hp3 := hk3.cell (p := ⟨Bp, 0, none⟩) hSp hp'
       obtain ⟨b, off, rfl, hb, hc⟩ := HR.out (by intro e; rw [e] at hu1; simp at hu1; omega)
       have HR3 : Hid (RdI W3 n0 (some ⟨b, off, none⟩) zs) := fun _ => ⟨b, off, rfl, hb, fun i hi => hk3.cell (p := ⟨b, off + i, none⟩) (hS0 b hb) (hc i hi)⟩
       obtain ⟨k, rfl⟩ := Int.eq_ofNat_of_zero_le (show 0 ≤ u by omega)
       have x3 := hk3.cell (p := ⟨b, off + k, none⟩) (hS0 b hb) (hc k (by omega))
       have hpk := HOK.out.2.2 k (by omega)
       obtain ⟨x, hx⟩ : ∃ x, nthI zs k = x := ⟨_, rfl⟩
       rw [hx] at x3 hpk
       have HXX : Hid _ := hx
       have hk' : (k : Int) < (zs.length : Int) := by omega
       clear hx hc HR hk3
       gi_wp2
       go_roundw
       case rel =>
        refine ⟨pre ++ [(k : Int)], x, rfl, hpk.1, by omega, ?_, hJ3, hp3, HR3⟩
        show xs = pre ++ [(k : Int)] ++ ups zs x
        rw [HXS.out, HST.out, List.append_assoc]
        congr 1
        show _ = (k : Int) :: ups zs x
        rw [show ((k : Int)).toNat = k by simp, HXX.out]
       case measure => simp [intOf]; omega
      ·gi_wp2
       go_end0
       exact ⟨⟨_, rfl⟩, .inr ⟨pre ++ [u], ⟨ups zs (nthI zs u.toNat), by rw [HXS.out, HST.out]; simp⟩, hJx3⟩⟩
 ·rw [chk_no hok] at C
  have e1 : abv zs v = [] := abv_no (fun g => hok g.1)
  gi_wp2_with (refine ⟨trivial, ?_⟩; gi_at_call 92; refine (callsIn_wide.2 C).mono ?_; rintro e w' ⟨rfl, rfl⟩)
  refine bodyPost_ret (results_none rfl _ _ _) rfl ?_
  exact ⟨⟨_, rfl⟩, .inl ⟨[], e1.symm, h0⟩⟩
theorem iter_stops (n : Nat) (hn : 1 ≤ n) (Bp Ba n0 : Nat) (a : Option Addr) (c : Nat) (zs : List Int) (v : Int) (S : Nat → Prop) (hSp : S Bp) (hSa : S Ba) (hS0 : ∀ b, b < n0 → S b) (w : World) (hn0 : n0 ≤ w.heap.size)
  (hp : w.cell? ⟨Bp, 0, none⟩ = some (.slice a zs.length c)) (hBp : Bp < w.heap.size) (ha : w.cell? ⟨Ba, 0, none⟩ = some (.int .i64 v)) (hBa : Ba < w.heap.size) (h : RdI w n0 a zs) (hl : zs.length ≤ 9223372036854775807) :
  SeqStopsK Fence.wide n Tryz.prog 209 #[.pointer (some ⟨Bp, 0, none⟩), .pointer (some ⟨Ba, 0, none⟩)] (fun x : Int => #[Value.int .i64 x]) (KpS S) (fun ys => ys = abv zs v) (fun pre => pre <+: abv zs v) (abv zs v).length w := fun l J Jx W hW _ _ hY h0 =>
 iter_in n hn l Bp Ba n0 a c zs v S hSp hSa hS0 J Jx hY W ((hW.cell (p := ⟨Bp, 0, none⟩) hBp).trans hp) ((hW.cell (p := ⟨Ba, 0, none⟩) hBa).trans ha) (h.below (hW.mono hn0)) hl h0
theorem cell_of_box {W : World} {B : Nat} {v : Value} {t : TypeId} (h : W.heap[B]? = some (.cells #[v] t (0, 0))) : W.cell? ⟨B, 0, none⟩ = some v ∧ W.frozen? ⟨B, 0, none⟩ = false := by
 constructor <;> simp [World.cell?, World.frozen?, h]
theorem cell_new (W : World) (v : Value) (t : TypeId) : (W.alloc (.cells #[v] t)).cell? ⟨W.heap.size, 0, none⟩ = some v ∧ (W.alloc (.cells #[v] t)).frozen? ⟨W.heap.size, 0, none⟩ = false :=
 cell_of_box (World.alloc_heap_new W _)
theorem cell_al {W : World} {a : Addr} {v : Value} (o : Obj) (h : W.cell? a = some v) : (W.alloc o).cell? a = some v := cell_kept h (World.grownBy_alloc W o none) (fun r e => by cases e)
end Go.Proofs.YtiaopafkfadmkaaGreat
namespace Go.Proofs.YtiaopafkfadmkaaGreat
open Go.RowKit Go.Shelf
attribute [local go_sem] Oper.semAt_some
theorem row0 {W : World} {b0 : Nat} {e : TypeId} {size : Nat} {v : Value} {k : Nat} {xs : List Value} (h : W.ownsRow b0 e size v k xs) : W.ownsRow 0 e size v k xs := by
 refine ⟨h.1, ?_⟩
 rcases h.2 with g | ⟨g, cap, cur, h1, h2, h3⟩
 ·exact .inl g
 ·exact .inr ⟨g, cap, cur, h1, Nat.zero_le _, h3⟩
theorem row_ge {W : World} {b0 : Nat} {e : TypeId} {size : Nat} {v : Value} {k : Nat} {xs : List Value} (h : W.ownsRow b0 e size v k xs) {g : Nat} (hg : v.ownBlock = some g) : b0 ≤ g := by
 rcases h.2 with ⟨rfl, _⟩ | ⟨g', cap, cur, rfl, h2, _⟩
 ·simp [Value.ownBlock] at hg
 ·simp [Value.ownBlock] at hg; omega
set_option maxHeartbeats 2000000 in
theorem app_any (w : World) (Bp Ba n0 : Nat) (a : Option Addr) (c : Nat) (zs : List Int) (u : Int) (hn0 : n0 ≤ w.heap.size) (hp : w.cell? ⟨Bp, 0, none⟩ = some (.slice a zs.length c)) (ha : w.cell? ⟨Ba, 0, none⟩ = some (.int .i64 u)) (h : RdI w n0 a zs) (hl : zs.length ≤ 9223372036854775807) :
  Calls Tryz.prog 126 #[.slice none 0 0, .func (.func 209) #[] #[.pointer (some ⟨Bp, 0, none⟩), .pointer (some ⟨Ba, 0, none⟩)]] w fun e w' => ∃ v, e = .returned v ∧ w'.ownsRow w.heap.size 3 1 v (abv zs u).length ((abv zs u).map (Value.int .i64)) ∧ Below w.heap.size w w' := by
 have hBp : Bp < w.heap.size := clt hp
 have hBa : Ba < w.heap.size := clt ha
 have hAL := abv_len zs u
 obtain ⟨xs, hxs⟩ : ∃ xs, abv zs u = xs := ⟨_, rfl⟩
 rw [hxs] at hAL ⊢
 have HXS : Hid _ := hxs
 clear hxs
 obtain ⟨i0, hi, hz0, hz1, hz2⟩ := info_parts info3
 refine (callsIn_wide (n := 5)).1 ?_
 refine callsIn_of_wp_marks Tryz.func126 rfl trivial ?_ rfl
 simp only [Tryz.ntmps126, List.size_toArray, List.length_cons, List.length_nil, Nat.reduceAdd, Nat.reduceSub, Array.replicate_succ, Array.replicate_zero, List.push_toArray, List.append_toArray, List.nil_append, List.cons_append]
 gi_wp2
 have hB0 : Below w.heap.size w (w.alloc (.cells #[.slice none 0 0] 22)) := (Below.refl _ w).alloc (Nat.le_refl _) _
 have bO := Boxed.new w 22 (.slice none 0 0)
 have d2 := cell_al (.cells #[.slice none 0 0] 22) hp
 have d3 := cell_al (.cells #[.slice none 0 0] 22) ha
 obtain ⟨W3, hW3⟩ : ∃ W3, w.alloc (.cells #[.slice none 0 0] 22) = W3 := ⟨_, rfl⟩
 have s3 : W3.heap.size = w.heap.size + 1 := by rw [← hW3]; simp
 rw [hW3] at hB0 bO d2 d3 ⊢
 have RD := h.below (hB0.mono hn0)
 have IT := iter_stops 4 (by omega) Bp Ba n0 a c zs u (fun b => b < w.heap.size) hBp hBa (fun b hb => Nat.lt_of_lt_of_le hb hn0) W3 (by omega) d2 (by omega) d3 (by omega) RD hl
 rw [HXS.out] at IT
 clear hW3
 refine wpIn_rangeFunc_ownF rfl (by omega) (gf := 209) (lb := #[.pointer (some ⟨Bp, 0, none⟩), .pointer (some ⟨Ba, 0, none⟩)]) rfl trivial (enters_of Tryz.func209 (by kernel_rfl) rfl) IT
  (fun h k => h.trans k) (fun W l o o' h1 h2 h3 h4 => KpS.put (w := W3) (fun b hb => by omega) W l o o' h1 h2 h3 h4) (Below.refl _ _) (fun _ => rfl)
  (fun pre W => ((∃ v, Boxed W w.heap.size 22 v ∧ W.ownsRow (w.heap.size + 1) 3 1 v pre.length (pre.map (Value.int .i64)) ∧ True) ∧ True) ∧ Below w.heap.size w W)
  (fun _ _ _ => False)
  (OwnFrom.and (OwnFrom.and (Own.from (holdsRow_own (w.heap.size + 1) w.heap.size 22 3 1 (fun pre : List Int => pre.length) (fun pre => pre.map (Value.int .i64)) (fun pre v => True)) _) (Own.from (fun s A B row hs hg hr => trivial) _)) (ownFrom_below (Nat.le_refl _) (by omega)))
  (fun _ _ _ _ _ hs _ _ => hs)
  ⟨⟨⟨_, bO, World.ownsRow_nil _ _ _ _, trivial⟩, trivial⟩, hB0⟩
  (fun x => { tmps := #[.slice none 0 0, .func (.func 209) #[] #[.pointer (some ⟨Bp, 0, none⟩), .pointer (some ⟨Ba, 0, none⟩)], .pointer (some ⟨w.heap.size, 0, none⟩), undef, .slice none 0 0, .int .i64 x, .func (.func 209) #[] #[.pointer (some ⟨Bp, 0, none⟩), .pointer (some ⟨Ba, 0, none⟩)], .int .i64 x, undef, undef, undef, undef, undef], defers := [] }) ?assign ?body ?done ?stop
 case assign =>
  intro l x W K hK
  gi_wp2
  exact hK
 case body =>
  rintro l pre x W ⟨⟨⟨v, hv, hrow, _⟩, _⟩, hB⟩ hlt
  have hc := hv.cell
  have hsz : w.heap.size + 1 ≤ W.heap.size := clt hc
  gi_wp2_with (gi_at_builtin; refine wpListIn_append_own _ rfl _ _ 22 rfl (w.heap.size + 1) 3 i0 (.int .i64 0) 1 8 Tryz.underlying22 hi hz0 hz1 hz2 rfl (by decide) _ _ _ rfl (hrow.alloc _) ⟨W.heap.size, 0, none⟩ 1 1 [.int .i64 x] rfl rfl (cell_one_new _ _ _) (by simp [Value.oneCell']) (by unfold maxLen; omega) (by omega) (by simp; omega) ?_; intro v' w1 hown' hgrow _; obtain ⟨g', cap', rfl⟩ := ownsRow_succ hown'; obtain ⟨hv1, hv2, hr2, hk2, hb2⟩ := hv.appended (n₀ := 0) (by decide) (row0 hrow) (Nat.zero_le _) (Nat.zero_le _) (row0 hown') hgrow; have hc1 := hv1.cell; have hf1 := hv1.frozen)
  have hrow2 := hown'.kept (grownBy_setCell' w1 w.heap.size (.slice (some ⟨g', 0, none⟩) (pre.length + 1) cap')) (.inr (hv1.not_row (by decide) (row0 hown')).symm)
  have hbl : ∀ b, b < w.heap.size → (w1.setCell ⟨w.heap.size, 0, none⟩ (.slice (some ⟨g', 0, none⟩) (pre.length + 1) cap')).heap[b]? = W.heap[b]? := by
   intro b hb
   rw [Below.heap_setCell _ _ _ _ (by show b ≠ w.heap.size; omega), hgrow.block b (by simp; omega) (fun e => by have := row_ge hrow (g := b) e.symm; omega), Below.heap_alloc _ _ _ (by omega)]
  have hs1 := hgrow.size
  simp only [World.size_alloc] at hs1
  refine ⟨hk2, ⟨by simp; omega, fun b hb _ => hbl b hb⟩, ⟨⟨_, hv2, by simpa using hrow2, trivial⟩, trivial⟩, ?_⟩
  exact ⟨hgrow.os.trans hB.os, hgrow.tape.trans hB.tape, hgrow.output.trans hB.output, by have := hB.size; simp; omega, fun b hb => (hbl b hb).trans (hB.block b hb)⟩
 case done =>
  rintro D ys W hD rfl ⟨⟨⟨v, hv, hrow, _⟩, _⟩, hB⟩ hK
  have hc := hv.cell
  gi_wp2
  refine ⟨by simp, .inl ⟨_, _, rfl, run_takeDeferred hK, ?_⟩⟩
  have hrow' : W.ownsRow w.heap.size 3 1 v ys.length (ys.map (Value.int .i64)) := by
   refine ⟨hrow.1, ?_⟩
   rcases hrow.2 with g | ⟨g, cap, cur, h1, h2, h3⟩
   ·exact .inl g
   ·exact .inr ⟨g, cap, cur, h1, by omega, h3⟩
  exact ⟨_, results_tmp rfl _ _ _, v, rfl, ownsRow_putObj hrow' _ hK rfl, hB.trans (belowK_b (w := w) (Nat.le_refl _) W D _ _ (by omega) hK rfl rfl)⟩
 case stop =>
  rintro D c pre W _ _ h _
  exact h.elim
theorem col_any (w : World) (Bp Ba n0 : Nat) (a : Option Addr) (c : Nat) (zs : List Int) (u : Int) (hn0 : n0 ≤ w.heap.size) (hp : w.cell? ⟨Bp, 0, none⟩ = some (.slice a zs.length c)) (ha : w.cell? ⟨Ba, 0, none⟩ = some (.int .i64 u)) (h : RdI w n0 a zs) (hl : zs.length ≤ 9223372036854775807) :
  Calls Tryz.prog 78 #[.func (.func 209) #[] #[.pointer (some ⟨Bp, 0, none⟩), .pointer (some ⟨Ba, 0, none⟩)]] w fun e w' => ∃ a' c', e = .returned (.slice a' (abv zs u).length c') ∧ RdI w' w'.heap.size a' (abv zs u) ∧ Below w.heap.size w w' := by
 have A := app_any w Bp Ba n0 a c zs u hn0 hp ha h hl
 obtain ⟨xs, hxs⟩ : ∃ xs, abv zs u = xs := ⟨_, rfl⟩
 rw [hxs] at A ⊢
 clear hxs
 go_enter Tryz.func78, Tryz.ntmps78
 go_wp2_with (go_at_call 126; refine A.mono ?_; rintro e w' ⟨v, rfl, hrow, hB⟩; obtain ⟨a', c', rfl, hR⟩ := rdI_of_row hrow)
 go_ret
 exact ⟨a', c', rfl, hR, hB⟩
theorem above_any (w : World) (a : Option Addr) (c : Nat) (zs : List Int) (u : Int) (h : RdI w w.heap.size a zs) (hl : zs.length ≤ 9223372036854775807) :
  Calls Tryz.prog 158 #[.slice a zs.length c, .int .i64 u] w fun e w' => ∃ a' c', e = .returned (.slice a' (abv zs u).length c') ∧ RdI w' w'.heap.size a' (abv zs u) ∧ Below w.heap.size w w' := by
 have A1 := upw_any (.slice a zs.length c) u w rfl rfl
 have c2 := cell_new w (.slice a zs.length c) 22
 have c3 := cell_new (w.alloc (.cells #[.slice a zs.length c] 22)) (.int .i64 u) 3
 simp only [World.size_alloc] at c3
 have hB0 : Below w.heap.size w ((w.alloc (.cells #[.slice a zs.length c] 22)).alloc (.cells #[.int .i64 u] 3)) := ((Below.refl _ w).alloc (Nat.le_refl _) _).alloc (by simp) _
 have A := col_any ((w.alloc (.cells #[.slice a zs.length c] 22)).alloc (.cells #[.int .i64 u] 3)) w.heap.size (w.heap.size + 1) w.heap.size a c zs u (by simp; omega) (cell_al _ c2.1) c3.1 (h.below hB0) hl
 obtain ⟨xs, hxs⟩ : ∃ xs, abv zs u = xs := ⟨_, rfl⟩
 rw [hxs] at A ⊢
 clear hxs
 go_enter Tryz.func158, Tryz.ntmps158
 go_wp2_with (first | (go_at_call 186; refine A1.mono ?_; rintro e w' ⟨rfl, rfl⟩) | (go_at_call 78; refine A.mono ?_; rintro e w2 ⟨a', c', rfl, hR, hB⟩))
 go_ret
 exact ⟨a', c', rfl, hR, hB0.trans (hB.mono (by simp; omega))⟩
end Go.Proofs.YtiaopafkfadmkaaGreat
namespace Go.Proofs.YtiaopafkfadmkaaGreat
open Go.RowKit Go.Shelf
def Row (w : World) (W : World) (v : Value) (xs : List Int) : Prop := W.ownsRow w.heap.size 3 1 v xs.length (xs.map (Value.int .i64)) ∧ Below w.heap.size w W
theorem Row.below {w W W' : World} {v : Value} {xs : List Int} (h : Row w W v xs) (hb : Below W.heap.size W W') : Row w W' v xs := by
 refine ⟨⟨h.1.1, ?_⟩, h.2.trans (hb.mono h.2.size)⟩
 rcases h.1.2 with g | ⟨g, cap, cur, h1, h2, h3, h4⟩
 ·exact .inl g
 ·exact .inr ⟨g, cap, cur, h1, h2, (hb.block g (Array.getElem?_eq_some_iff.1 h3).1).trans h3, h4⟩
theorem Row.nil (w : World) : Row w w (.slice none 0 0) [] := ⟨World.ownsRow_nil _ _ _ _, Below.refl _ _⟩
theorem Row.app {w W w1 : World} {v v' : Value} {xs : List Int} {x : Int} {o : Obj} (h : Row w W v xs) (hown : w1.ownsRow w.heap.size 3 1 v' (xs.length + 1) (xs.map (Value.int .i64) ++ [.int .i64 x])) (hg : (W.alloc o).grownBy w1 v.ownBlock) : Row w w1 v' (xs ++ [x]) := by
 refine ⟨by simpa using hown, ?_⟩
 have h1 : Below w.heap.size w (W.alloc o) := h.2.alloc h.2.size _
 exact h1.grown hg h1.size (fun k e => row_ge h.1 e)
theorem Row.rd {w W : World} {v : Value} {xs : List Int} (h : Row w W v xs) : ∃ a c, v = .slice a xs.length c ∧ RdI W W.heap.size a xs := rdI_of_row h.1
theorem Row.empty (w : World) : Row w (w.alloc (.cells #[] 3)) (.slice (some ⟨w.heap.size, 0, none⟩) 0 0) [] := ⟨World.ownsRow_made w #[] 0 (Nat.le_refl _) (Nat.zero_le _) (by simp), (Below.refl _ _).alloc (Nat.le_refl _) _⟩
theorem mem_nth (xs : List Int) (v : Int) : v ∈ xs ↔ ∃ j, j < xs.length ∧ nthI xs j = v := by
 rw [List.mem_iff_getElem]
 constructor
 ·rintro ⟨i, hi, rfl⟩; exact ⟨i, hi, by simp [nthI, hi]⟩
 ·rintro ⟨i, hi, rfl⟩; exact ⟨i, hi, by simp [nthI, hi]⟩
end Go.Proofs.YtiaopafkfadmkaaGreat
namespace Go.Proofs.YtiaopafkfadmkaaGreat
open Go.RowKit Go.Shelf
set_option maxHeartbeats 1000000 in
theorem trcheck_any (w : World) (n0 : Nat) (a : Option Addr) (c : Nat) (zs : List Int) (h : RdI w n0 a zs) (hl : zs.length ≤ 9223372036854775807) :
  Calls Tryz.prog 99 #[.slice a zs.length c] w fun e w' => e = .returned (.int .i64 (chk zs)) ∧ w' = w := by
 by_cases h1 : zs.length < 1
 ·have hn : ¬ OKT zs := fun g => by have := g.1; omega
  have h1' : (zs.length : Int) < 1 := by omega
  have hd : decide ((zs.length : Int) < 1) = true := by simpa using h1'
  rw [chk_no hn]
  go_enter Tryz.func99, Tryz.ntmps99
  go_wp2
  go_ret
  exact ⟨rfl, rfl⟩
 ·have hd : decide ((zs.length : Int) < 1) = false := by simp; omega
  have h1' : ¬ ((zs.length : Int) < 1) := by omega
  by_cases h2 : 16 < zs.length
  ·have hn : ¬ OKT zs := fun g => by have := g.2.1; omega
   have h2' : (16 : Int) < (zs.length : Int) := by omega
   rw [chk_no hn]
   go_enter Tryz.func99, Tryz.ntmps99
   go_wp2
   go_ret
   exact ⟨rfl, rfl⟩
  ·have h2' : ¬ ((16 : Int) < (zs.length : Int)) := by omega
   obtain ⟨b, off, rfl, hb, hc⟩ := h (by intro e; simp [e] at h1)
   obtain ⟨R, hR⟩ : ∃ R : Int, chk zs = R := ⟨_, rfl⟩
   have HR : Hid _ := hR
   rw [hR]
   have HCC : Hid _ := hc
   clear hR h hc
   go_enter Tryz.func99, Tryz.ntmps99
   go_wp2_with fail
   go_loopw [3] (fun si wr => wr = w ∧ ∃ k : Nat, k ≤ zs.length ∧ si = .int .i64 k ∧ Hid (∀ j, j < k → -1 ≤ nthI zs j ∧ nthI zs j < (j : Int))) (fun si _ => zs.length - (intOf si).toNat)
   case atStart => exact ⟨rfl, 0, Nat.zero_le _, rfl, (fun j hj => absurd hj (Nat.not_lt_zero _) : ∀ j, j < 0 → -1 ≤ nthI zs j ∧ nthI zs j < (j : Int))⟩
   case round =>
    obtain ⟨rfl, k, hk, rfl, HJ⟩ := hrel
    by_cases hkl : k < zs.length
    ·have hk' : (k : Int) < (zs.length : Int) := by omega
     have x0 := HCC.out k hkl
     obtain ⟨x, hx⟩ : ∃ x, nthI zs k = x := ⟨_, rfl⟩
     rw [hx] at x0
     have HX : Hid _ := hx
     clear hx
     by_cases t1 : x < -1
     ·have hd1 : decide (x < -1) = true := by simpa using t1
      go_wp2
      go_ret
      refine ⟨?_, rfl⟩
      rw [← HR.out, chk_no (fun g => by have := (g.2.2 k hkl).1; rw [HX.out] at this; omega)]
      rfl
     ·have hd1 : decide (x < -1) = false := by simpa using t1
      by_cases t2 : (k : Int) ≤ x
      ·have hd2 : decide ((k : Int) ≤ x) = true := by simpa using t2
       go_wp2
       go_ret
       refine ⟨?_, rfl⟩
       rw [← HR.out, chk_no (fun g => by have := (g.2.2 k hkl).2; rw [HX.out] at this; omega)]
       rfl
      ·have hd2 : decide ((k : Int) ≤ x) = false := by simpa using t2
       go_wp2
       go_roundw
       case rel =>
        refine ⟨by first | rfl | trivial, k + 1, by omega, by go_num, ?_⟩
        refine (fun j hj => ?_ : ∀ j, j < k + 1 → -1 ≤ nthI zs j ∧ nthI zs j < (j : Int))
        by_cases e : j = k
        ·rw [e, HX.out]; omega
        ·exact HJ.out j (by omega)
       case measure => simp [intOf]; omega
    ·obtain rfl : k = zs.length := by omega
     go_wp2
     go_ret
     refine ⟨?_, rfl⟩
     rw [← HR.out, chk_ok ⟨by omega, by omega, HJ.out⟩]
     rfl
end Go.Proofs.YtiaopafkfadmkaaGreat
namespace Go.Proofs.YtiaopafkfadmkaaGreat
open Go.RowKit Go.Shelf
set_option maxHeartbeats 1000000 in
theorem rhas_any (w : World) (n0 : Nat) (a : Option Addr) (c : Nat) (zs : List Int) (v : Int) (h : RdI w n0 a zs) (hl : zs.length ≤ 9223372036854775807) :
  Calls Tryz.prog 133 #[.slice a zs.length c, .int .i64 v] w fun e w' => e = .returned (.bool (decide (v ∈ zs))) ∧ w' = w := by
 have HRD : Hid _ := h
 obtain ⟨R, hR⟩ : ∃ R : Bool, decide (v ∈ zs) = R := ⟨_, rfl⟩
 have HR : Hid _ := hR
 rw [hR]
 clear hR h
 go_enter Tryz.func133, Tryz.ntmps133
 go_wp2_with fail
 go_loopw [5] (fun si wr => wr = w ∧ ∃ k : Nat, k ≤ zs.length ∧ si = .int .i64 k ∧ Hid (∀ j, j < k → nthI zs j ≠ v)) (fun si _ => zs.length - (intOf si).toNat)
 case atStart => exact ⟨rfl, 0, Nat.zero_le _, rfl, (fun j hj => absurd hj (Nat.not_lt_zero _) : ∀ j, j < 0 → nthI zs j ≠ v)⟩
 case round =>
  obtain ⟨rfl, k, hk, rfl, HJ⟩ := hrel
  by_cases hkl : k < zs.length
  ·have hk' : (k : Int) < (zs.length : Int) := by omega
   obtain ⟨b, off, rfl, hb, hc⟩ := HRD.out (by intro e; simp [e] at hkl)
   have x0 := hc k hkl
   clear hc
   obtain ⟨x, hx⟩ : ∃ x, nthI zs k = x := ⟨_, rfl⟩
   rw [hx] at x0
   have HX : Hid _ := hx
   clear hx
   by_cases t0 : x = v
   ·subst t0
    go_wp2
    go_ret
    refine ⟨?_, rfl⟩
    rw [← HR.out, decide_eq_true ((mem_nth zs x).2 ⟨k, hkl, HX.out⟩)]
    rfl
   ·have hd0 : (x == v) = false := by simpa using t0
    go_wp2
    go_roundw
    case rel =>
     refine ⟨by first | rfl | trivial, k + 1, by omega, by go_num, ?_⟩
     refine (fun j hj => ?_ : ∀ j, j < k + 1 → nthI zs j ≠ v)
     by_cases e : j = k
     ·rw [e, HX.out]; exact t0
     ·exact HJ.out j (by omega)
    case measure => simp [intOf]; omega
  ·obtain rfl : k = zs.length := by omega
   go_wp2
   go_ret
   refine ⟨?_, rfl⟩
   rw [← HR.out, decide_eq_false (fun g => by obtain ⟨j, hj, e⟩ := (mem_nth zs v).1 g; exact HJ.out j hj e)]
   rfl
end Go.Proofs.YtiaopafkfadmkaaGreat
