/- Proved: outputs that are taken greater do not fit: what LbtsGreatest makes, as plain data. -/
import Derived.Test.YtmkhgihhledegaaFit
import Derived.Test.YtmkhgihhledegaaNum
namespace Go.Proofs.Ytmkhgihhledegaa
open Go.RowKit Go.Shelf
open L (Mb IsG lbt oth outM outF cnt vadd)
set_option linter.unusedVariables false

/-- Outputs that are taken greater. -/
def Uf (l : List Mb) (O : Nat → Int) (ms : List Int) (j : Nat) : Int := if j < ms.length ∧ (L.nth l j).re = true then vadd (O j) (nthI ms j) else O j
def hig (U O : Nat → Int) : Nat → Bool
  | 0 => false
  | k + 1 => hig U O k || decide (O k < U k)
def fts (l : List Mb) (U : Nat → Int) : Nat → Bool
  | 0 => true
  | k + 1 => fts l U k && (U k == outF l U k)
theorem fts_all {l : List Mb} {U : Nat → Int} : ∀ {k : Nat}, fts l U k = true → ∀ j, j < k → U j = outF l U j
  | k + 1, h, j, hj => by
    unfold fts at h
    rw [Bool.and_eq_true] at h
    by_cases e : j = k
    · subst e; simpa using h.2
    · exact fts_all h.1 j (by omega)
theorem hig_none {U O : Nat → Int} : ∀ {k : Nat}, (∀ j, j < k → U j = O j) → hig U O k = false
  | 0, _ => rfl
  | k + 1, h => by
    unfold hig
    rw [hig_none (k := k) (fun j hj => h j (by omega)), h k (by omega)]
    simp
theorem Uf_ge {l : List Mb} {O : Nat → Int} {ms : List Int} (hG : IsG l O) (hm : ∀ j, j < ms.length → 0 ≤ nthI ms j) {j : Nat} (hj : j < l.length) : O j ≤ Uf l O ms j := by
  unfold Uf
  split
  · rename_i g
    have e : cnt (O j) = O j := by rw [hG.fx j hj]; exact outM_cnt _ _
    unfold L.vadd
    have h1 := L.cnt_lo (nthI ms j)
    have := L.cnt_mono (show cnt (O j) ≤ cnt (O j) + cnt (nthI ms j) by omega)
    rw [L.cnt_cnt] at this
    rw [e] at this ⊢
    exact this
  · exact Int.le_refl _
theorem great {l : List Mb} {O : Nat → Int} {ms : List Int} {n : Nat} (hn : l.length = n) (hG : IsG l O) (hm : ∀ j, j < ms.length → 0 ≤ nthI ms j) (h : fts l (Uf l O ms) n = true) : hig (Uf l O ms) O n = false := by
  subst hn
  exact hig_none (fun j hj => hG.no (fts_all h) (fun i hi => Uf_ge hG hm hi) hj)
def ul (U : Nat → Int) (k : Nat) : List Int := (List.range k).map U
theorem ul_len (U : Nat → Int) (k : Nat) : (ul U k).length = k := by simp [ul]
theorem ul_succ (U : Nat → Int) (k : Nat) : ul U k ++ [U k] = ul U (k + 1) := by simp [ul, List.range_succ]
theorem ul_at (U : Nat → Int) {k j : Nat} (h : j < k) : (ul U k).getD j 0 = U j := getD_map_range U h
/-- fit, of outputs that are told by a function. -/
theorem fit_f {w : World} {a oa : Option Addr} {c oc n : Nat} {l : List Mb} {U : Nat → Int} (hl : RdN cB (fun _ => True) w a l) (ho : RdN cI (fun _ => True) w oa (ul U n)) (hn : l.length = n) (h1 : n ≤ 1000) {i : Nat} (hi : i < n) :
    Calls Try.prog 15 #[.slice a n c, .slice oa n oc, .int .i64 i] w fun e w' => e = .returned (.bool (U i == outF l U i)) ∧ Below w.heap.size w w' := by
  have h := fit_any (c := c) (oc := oc) hl ho hn (ul_len U n) h1 hi
  rw [ul_at U hi, L.outF_same (o := fn (ul U n)) (o' := U) (fun j hj => ul_at U (by rw [← hn]; exact hj))] at h
  exact h
end Go.Proofs.Ytmkhgihhledegaa
