/- Proved: members that all ask for their next message: what LbtsNext makes, as plain data. -/
import Derived.Test.YtmkhgihhledegaaWId
import Derived.Test.YtmkhgihhledegaaCrw
namespace Go.Proofs.Ytmkhgihhledegaa
open Go.RowKit Go.Shelf
open L (Mb IsG lbt oth outM cnt vadd)
set_option linter.unusedVariables false

def nxm (fs ls : List Int) (j : Nat) : Mb := ⟨true, true, 0, lkI ls j, 2, 100000, nthI fs j⟩
def nym (ls : List Int) (a : Int) (j : Nat) : Mb := ⟨true, true, 0, lkI ls j, 2, a, 1125899906842624⟩
def mix (fs ls : List Int) (a : Int) (k j : Nat) : Mb := if j < k then nym ls a j else nxm fs ls j
def bst (fs : List Int) : Nat → Nat
  | 0 => 0
  | k + 1 => if nthI fs k < nthI fs (bst fs k) then k else bst fs k
theorem bst_le (fs : List Int) : ∀ k, bst fs k ≤ k ∧ (0 < k → bst fs k < k)
  | 0 => ⟨Nat.le_refl _, fun h => by omega⟩
  | k + 1 => by
    have ih := bst_le fs k
    unfold bst
    split <;> omega
theorem bst_is (fs : List Int) : ∀ k j, j < k → nthI fs (bst fs k) ≤ nthI fs j
  | k + 1, j, hj => by
    have ih := bst_is fs k
    unfold bst
    split
    · by_cases e : j = k
      · subst e; exact Int.le_refl _
      · have := ih j (by omega); omega
    · by_cases e : j = k
      · subst e; omega
      · exact ih j (by omega)
theorem next_gt {fs ls : List Int} {n : Nat} {O : Nat → Int} (hG : IsG (mkL (nxm fs ls) n) O) (h0 : 0 < n) (hf : ∀ j, j < n → 0 ≤ nthI fs j ∧ nthI fs j ≤ 65535) (i : Int) : nthI fs (bst fs n) < lbt (mkL (nxm fs ls) n) O i := by
  have hb := (bst_le fs n).2 h0
  have hx := hf _ hb
  refine (hG.gt hx.1 (by omega) (fun j hj b hbb => ?_)).2 i
  rw [mkL_len] at hj
  rw [mkL_nth _ hj]
  have h1 := bst_is fs n j hj
  have h2 := hf j hj
  show _ ≤ L.base (nxm fs ls j) b
  unfold L.base nxm
  dsimp only
  rw [if_neg (by simp), if_pos (.inl rfl), show cnt 100000 = 100000 by decide, show cnt 0 = 0 by decide, L.cnt_mid (t := nthI fs j) (by omega) (by omega)]
  omega
theorem after_gt {ls : List Int} {n : Nat} {a : Int} {O : Nat → Int} (hG : IsG (mkL (nym ls a) n) O) (ha : 0 ≤ a ∧ a ≤ 65535) (i : Int) : a < lbt (mkL (nym ls a) n) O i := by
  refine (hG.gt ha.1 (by omega) (fun j hj b hbb => ?_)).2 i
  rw [mkL_len] at hj
  rw [mkL_nth _ hj]
  show _ ≤ L.base (nym ls a j) b
  unfold L.base nym
  dsimp only
  rw [if_neg (by simp), if_pos (.inl rfl), show cnt 0 = 0 by decide, show cnt 1125899906842624 = 1125899906842624 from L.cnt_inf, L.cnt_mid (t := a) (by omega) (by omega)]
  omega
theorem mix_start (fs ls : List Int) (a : Int) (n : Nat) : mkL (mix fs ls a 0) n = mkL (nxm fs ls) n := by
  unfold mkL
  exact List.map_congr_left (fun j _ => by unfold mix; rw [if_neg (by omega)])
theorem mix_end (fs ls : List Int) (a : Int) (n : Nat) : mkL (mix fs ls a n) n = mkL (nym ls a) n := by
  unfold mkL
  exact List.map_congr_left (fun j hj => by unfold mix; rw [if_pos (by simpa using hj)])
theorem mix_set (fs ls : List Int) (a : Int) {n k : Nat} (hk : k < n) : (mkL (mix fs ls a k) n).set k (nym ls a k) = mkL (mix fs ls a (k + 1)) n := by
  apply List.ext_getElem
  · simp [mkL]
  · intro j h1 h2
    have hj : j < n := by simpa [mkL] using h2
    rw [List.getElem_set]
    by_cases e : k = j
    · subst e
      rw [if_pos rfl]
      simp [mkL, mix]
    · rw [if_neg e]
      simp only [mkL, List.getElem_map, List.getElem_range]
      unfold mix
      by_cases g : j < k
      · rw [if_pos g, if_pos (by omega)]
      · rw [if_neg g, if_neg (by omega)]
/-- One member's First and Ask written. -/
theorem Cr.nxt {w W : World} {g n k : Nat} {fs ls : List Int} {a : Int} (h : Cr w W g n (mkL (mix fs ls a k) n)) (hk : k < n) : Cr w ((W.setCell ⟨g, k * 7 + 6, none⟩ (.int .i64 1125899906842624)).setCell ⟨g, k * 7 + 5, none⟩ (.int .i64 a)) g n (mkL (mix fs ls a (k + 1)) n) := by
  have hm : L.nth (mkL (mix fs ls a k) n) k = nxm fs ls k := by rw [mkL_nth _ hk]; unfold mix; rw [if_neg (by omega)]
  have h1 := h.set (c := 6) hk (by omega) (.int .i64 1125899906842624) ⟨true, true, 0, lkI ls k, 2, 100000, 1125899906842624⟩ (by rw [hm]; rfl)
  have h2 := h1.set (c := 5) hk (by omega) (.int .i64 a) (nym ls a k) (by rw [L.nth_set (by rw [h.len]; exact hk), if_pos rfl]; rfl)
  rw [List.set_set, mix_set fs ls a hk] at h2
  exact h2
end Go.Proofs.Ytmkhgihhledegaa
