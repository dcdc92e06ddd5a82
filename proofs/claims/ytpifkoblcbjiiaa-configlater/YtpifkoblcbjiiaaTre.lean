/- Proved: of a list of parents: what stands above a class, as plain data; and how a slice of integers lies in memory. -/
import Derived.RangeFuncNested
import Derived.RangeFuncBound
import Derived.RangeFuncCalls
import Derived.RangeFuncLeaves
import Derived.RangeFuncFrom
import Derived.RangeFuncBox
import Derived.Maps.AppendAt
import Derived.Shelf.Abstract
import Derived.Shelf.RegionOpen
import Derived.WalkKit
import Derived.WalkSpells
import Derived.Below
import Derived.OwnWalk
import Derived.OwnWalkIn
import Derived.TacticsInMore
import Derived.LoopNIn
import Derived.LoopIn
import Derived.Shelf.RegionOpenPlain
import Derived.Sort.WalkB12
import Derived.Test.YtpifkoblcbjiiaaProg
namespace Go.Proofs.Ytpifkoblcbjiiaa
open Go.RowKit Go.Shelf
set_option linter.unusedVariables false

/-! ### Plain data -/
def nthI (zs : List Int) (i : Nat) : Int := zs.getD i 0
/-- The parents of a tree. -/
def OKT (zs : List Int) : Prop := 1 ≤ zs.length ∧ zs.length ≤ 16 ∧ ∀ i, i < zs.length → -1 ≤ nthI zs i ∧ nthI zs i < (i : Int)
def okT (zs : List Int) : Bool := decide (1 ≤ zs.length) && (decide (zs.length ≤ 16) && (List.range zs.length).all (fun i => decide (-1 ≤ nthI zs i) && decide (nthI zs i < (i : Int))))
theorem okT_iff (zs : List Int) : okT zs = true ↔ OKT zs := by
  unfold okT OKT
  simp [List.all_eq_true]
theorem okT_no {zs : List Int} (h : ¬ OKT zs) : okT zs = false := by
  cases e : okT zs
  · rfl
  · exact absurd ((okT_iff zs).1 e) h
/-- What stands above a class, itself first; no more than n. -/
def upF (zs : List Int) : Nat → Int → List Int
  | 0, _ => []
  | n + 1, a => if a < 0 then [] else a :: upF zs n (nthI zs a.toNat)
def ups (zs : List Int) (a : Int) : List Int := upF zs (a.toNat + 1) a
theorem upF_same {zs : List Int} (h : OKT zs) (n : Nat) : ∀ (m : Nat) (a : Int), a < zs.length → (a + 1).toNat ≤ n → (a + 1).toNat ≤ m → upF zs n a = upF zs m a := by
  induction n with
  | zero =>
    intro m a hl hn hm
    have : a < 0 := by omega
    cases m <;> simp [upF, this]
  | succ n ih =>
    intro m a hl hn hm
    by_cases e : a < 0
    · cases m <;> simp [upF, e]
    · cases m with
      | zero => omega
      | succ m =>
        simp only [upF]
        rw [if_neg e, if_neg e]
        have hp := h.2.2 a.toNat (by omega)
        rw [ih m (nthI zs a.toNat) (by omega) (by omega) (by omega)]
theorem ups_neg (zs : List Int) (a : Int) (h : a < 0) : ups zs a = [] := by simp [ups, upF, h]
theorem ups_step {zs : List Int} (h : OKT zs) (a : Int) (h0 : 0 ≤ a) (hl : a < zs.length) : ups zs a = a :: ups zs (nthI zs a.toNat) := by
  have hp := h.2.2 a.toNat (by omega)
  rw [show ups zs a = if a < 0 then [] else a :: upF zs a.toNat (nthI zs a.toNat) from rfl, if_neg (by omega)]
  congr 1
  exact upF_same h _ _ _ (by omega) (by omega) (by omega)
/-- What stands above a class of any parents. -/
def abv (zs : List Int) (a : Int) : List Int := if okT zs = true ∧ 0 ≤ a ∧ a < zs.length then ups zs a else []
theorem abv_ok {zs : List Int} {a : Int} (h : OKT zs) (h0 : 0 ≤ a) (hl : a < zs.length) : abv zs a = ups zs a := by
  unfold abv
  rw [if_pos ⟨(okT_iff zs).2 h, h0, hl⟩]
theorem abv_no {zs : List Int} {a : Int} (h : ¬ (OKT zs ∧ 0 ≤ a ∧ a < zs.length)) : abv zs a = [] := by
  unfold abv
  rw [if_neg (fun g => h ⟨(okT_iff zs).1 g.1, g.2⟩)]
theorem ups_len {zs : List Int} (h : OKT zs) (n : Nat) : ∀ (a : Int), a < zs.length → (a + 1).toNat ≤ n → (ups zs a).length ≤ n := by
  induction n with
  | zero =>
    intro a hl hn
    rw [ups_neg zs a (by omega)]; simp
  | succ n ih =>
    intro a hl hn
    by_cases h0 : a < 0
    · rw [ups_neg zs a h0]; simp
    · have hp := h.2.2 a.toNat (by omega)
      rw [ups_step h a (by omega) hl]
      have := ih (nthI zs a.toNat) (by omega) (by omega)
      simp; omega
theorem abv_len (zs : List Int) (a : Int) : (abv zs a).length ≤ 16 := by
  unfold abv
  split
  · rename_i h
    have ho := (okT_iff zs).1 h.1
    exact Nat.le_trans (ups_len ho (a + 1).toNat a h.2.2 (Nat.le_refl _)) (by have := ho.2.1; omega)
  · simp
/-- Of two classes the first one above both. -/
def meet (zs : List Int) (u v : Int) : Int := ((abv zs u).find? (fun x => decide (x ∈ abv zs v))).getD (-1)
/-- The classes, up to the n-th, above which a class stands. -/
def belF (zs : List Int) (a : Int) (n : Nat) : List Int := ((List.range n).filter (fun i : Nat => decide (a ∈ abv zs (Int.ofNat i)))).map Int.ofNat
def bel (zs : List Int) (a : Int) : List Int := belF zs a zs.length
theorem belF_succ (zs : List Int) (a : Int) (n : Nat) : belF zs a (n + 1) = belF zs a n ++ (if a ∈ abv zs (n : Int) then [(n : Int)] else []) := by
  unfold belF
  rw [List.range_succ, List.filter_append, List.map_append]
  congr 1
  by_cases e : a ∈ abv zs (n : Int) <;> simp [e, List.filter]
theorem belF_yes {zs : List Int} {a : Int} {n : Nat} (h : a ∈ abv zs (n : Int)) : belF zs a (n + 1) = belF zs a n ++ [(n : Int)] := by rw [belF_succ, if_pos h]
theorem belF_not {zs : List Int} {a : Int} {n : Nat} (h : a ∉ abv zs (n : Int)) : belF zs a (n + 1) = belF zs a n := by rw [belF_succ, if_neg h, List.append_nil]
theorem belF_nil {zs : List Int} (h : ¬ OKT zs) (a : Int) (n : Nat) : belF zs a n = [] := by
  have e : (List.range n).filter (fun i : Nat => decide (a ∈ abv zs (Int.ofNat i))) = [] := List.filter_eq_nil_iff.2 (fun i _ => by rw [abv_no (fun g => h g.1)]; simp)
  unfold belF
  rw [e]
  rfl
theorem belF_len (zs : List Int) (a : Int) (n : Nat) (hn : n ≤ zs.length) : (belF zs a n).length ≤ 16 := by
  by_cases h : OKT zs
  · have h1 : (belF zs a n).length ≤ n := by
      unfold belF
      rw [List.length_map]
      exact Nat.le_trans (List.length_filter_le _ _) (by simp)
    have := h.2.1
    omega
  · rw [belF_nil h]; simp
/-- Beyond the sixteenth class nothing is told. -/
theorem bel_16 (zs : List Int) (a : Int) (n : Nat) (hn : n ≤ zs.length) (h16 : n = 16) : belF zs a n = bel zs a := by
  by_cases h : OKT zs
  · have := h.2.1
    unfold bel
    rw [show n = zs.length by omega]
  · unfold bel
    rw [belF_nil h, belF_nil h]

/-! ### A slice of integers that can be read -/
def RdI (w : World) (n0 : Nat) (a : Option Addr) (zs : List Int) : Prop := zs ≠ [] → ∃ b off, a = some ⟨b, off, none⟩ ∧ b < n0 ∧ ∀ i, i < zs.length → w.cell? ⟨b, off + i, none⟩ = some (.int .i64 (nthI zs i))
theorem RdI.below {w W : World} {n0 : Nat} {a : Option Addr} {zs : List Int} (h : RdI w n0 a zs) (hb : Below n0 w W) : RdI W n0 a zs := fun hz => by
  obtain ⟨b, off, rfl, hb', hc⟩ := h hz
  exact ⟨b, off, rfl, hb', fun i hi => (hb.cell (p := ⟨b, off + i, none⟩) hb').trans (hc i hi)⟩
theorem RdI.mono {w : World} {n0 n1 : Nat} {a : Option Addr} {zs : List Int} (h : RdI w n0 a zs) (hn : n0 ≤ n1) : RdI w n1 a zs := fun hz => by
  obtain ⟨b, off, rfl, hb', hc⟩ := h hz
  exact ⟨b, off, rfl, Nat.lt_of_lt_of_le hb' hn, hc⟩
/-- What can be read where nothing was made yet can be read behind what makes and leaves alone. -/
theorem RdI.go {w W : World} {n0 : Nat} {a : Option Addr} {zs : List Int} (h : RdI w n0 a zs) (hn : n0 ≤ w.heap.size) (hb : Below w.heap.size w W) : RdI W W.heap.size a zs :=
  ((h.mono hn).below hb).mono hb.size
theorem clt {W : World} {p : Addr} {v : Value} (hc : W.cell? p = some v) : p.block < W.heap.size := by
  rcases Nat.lt_or_ge p.block W.heap.size with g | g
  · exact g
  · simp [World.cell?, Array.getElem?_eq_none g] at hc
theorem info3 : (Try.prog.info? 3).map (fun i => (i.zero, i.size, i.bytes)) = some (some (.int .i64 0), 1, 8) := by kernel_rfl
/-- A row that a call has made, as a slice that can be read. -/
theorem rdI_of_row {W : World} {b0 : Nat} {v : Value} {xs : List Int} (h : W.ownsRow b0 3 1 v xs.length (xs.map (Value.int .i64))) : ∃ a c, v = .slice a xs.length c ∧ RdI W W.heap.size a xs := by
  rcases h.2 with ⟨rfl, hk⟩ | ⟨g, cap, cur, rfl, _, hg, _, _, hs, h3⟩
  · exact ⟨none, 0, by rw [hk], fun hz => absurd (List.eq_nil_of_length_eq_zero hk) hz⟩
  · refine ⟨_, cap, rfl, fun _ => ⟨g, 0, rfl, (Array.getElem?_eq_some_iff.1 hg).1, fun i hi => ?_⟩⟩
    have h4 := congrArg (fun l => l[i]?) h3
    simp only [Nat.mul_one, List.getElem?_take, hi, if_true, List.getElem?_map, Array.getElem?_toList, List.getElem?_eq_getElem hi, Option.map_some] at h4
    simp [World.cell?, hg, h4, nthI, hi]
end Go.Proofs.Ytpifkoblcbjiiaa
