/- Proved: what federates that have nothing to send tell one another, round by round, as plain data. -/
import Derived.Test.YtmhopjpbhdficaaStp
namespace Go.Proofs.Ytmhopjpbhdficaa
open Go.RowKit Go.Shelf
set_option linter.unusedVariables false

theorem bnd_ge {n me : Nat} {c : Int → Int} {m : Int} (h : ∀ j, isCl n me j = true → m ≤ c j) (hm : m ≤ 1125899906842624) : m ≤ bnd n me c := by
  rcases bndK_is me c n with e | ⟨j, g1, g2, g3⟩
  · change bnd n me c = _ at e
    omega
  · change bnd n me c = _ at g3
    have := h j (isCl_iff.2 ⟨by omega, by omega, by omega⟩)
    omega
def lk (z : List Int) (j : Int) : Int := 1 + nthI z j.toNat
/-- What was said in round r. -/
def sdC (n : Nat) (z : List Int) : Nat → Int → Int
  | 0 => noC
  | r + 1 => fun j => bnd n j.toNat (sdC n z r) + lk z j
/-- The least of the first k lookaheads, 1000 at most. -/
def lsK (z : List Int) : Nat → Int
  | 0 => 1000
  | k + 1 => min (lsK z k) (1 + nthI z k)
def Zs (n : Nat) (z : List Int) : Prop := 2 ≤ n ∧ n ≤ 8 ∧ ∀ i, i < n → 0 ≤ nthI z i ∧ nthI z i ≤ 255
theorem lsK_le {z : List Int} : ∀ {k i : Nat}, i < k → lsK z k ≤ 1 + nthI z i
  | k + 1, i, h => by
    unfold lsK
    by_cases e : i = k
    · subst e; omega
    · have := lsK_le (z := z) (k := k) (i := i) (by omega); omega
theorem lsK_lo {n : Nat} {z : List Int} (h : Zs n z) : ∀ k, k ≤ n → 1 ≤ lsK z k ∧ lsK z k ≤ 1000
  | 0, _ => by simp [lsK]
  | k + 1, hk => by
    have ih := lsK_lo h k (by omega)
    have := h.2.2 k (by omega)
    unfold lsK
    omega
theorem other {n : Nat} (h : 2 ≤ n) (j : Int) : ∃ i, isCl n j.toNat i = true := by
  by_cases g : j.toNat = 0
  · exact ⟨1, isCl_iff.2 ⟨by omega, by omega, by omega⟩⟩
  · exact ⟨0, isCl_iff.2 ⟨by omega, by omega, by omega⟩⟩
theorem lk_in {n : Nat} {z : List Int} (h : Zs n z) {j : Int} (h0 : 0 ≤ j) (h1 : j < n) : 1 ≤ lk z j ∧ lk z j ≤ 256 := by
  have := h.2.2 j.toNat (by omega)
  unfold lk
  omega
theorem sd_in {n : Nat} {z : List Int} (h : Zs n z) : ∀ (r : Nat), r ≤ 20 → ∀ (j : Int), 0 ≤ j → j < n → 0 ≤ sdC n z r j ∧ sdC n z r j ≤ 256 * (r : Int)
  | 0, _, j, h0, h1 => by simp [sdC, noC]
  | r + 1, hr, j, h0, h1 => by
    have ih := sd_in h r (by omega)
    obtain ⟨i, hi⟩ := other h.1 j
    have hi2 := isCl_iff.1 hi
    have b1 := bnd_le (c := sdC n z r) hi
    have b2 := ih i hi2.1 hi2.2.1
    have b3 : 0 ≤ bnd n j.toNat (sdC n z r) := bnd_ge (fun k hk => (ih k (isCl_iff.1 hk).1 (isCl_iff.1 hk).2.1).1) (by omega)
    have b4 := lk_in h h0 h1
    show 0 ≤ bnd n j.toNat (sdC n z r) + lk z j ∧ bnd n j.toNat (sdC n z r) + lk z j ≤ 256 * ((r + 1 : Nat) : Int)
    omega
theorem sd_ok {n : Nat} {z : List Int} (h : Zs n z) {r : Nat} (hr : r ≤ 20) {j : Int} (h0 : 0 ≤ j) (h1 : j < n) : okT (sdC n z r j) = true := by
  have := sd_in h r hr j h0 h1
  unfold okT
  simp
  omega
theorem sd_up {n : Nat} {z : List Int} (h : Zs n z) : ∀ (r : Nat), r < 20 → ∀ (j : Int), 0 ≤ j → j < n → sdC n z r j < sdC n z (r + 1) j
  | 0, _, j, h0, h1 => by
    have b3 : 0 ≤ bnd n j.toNat (sdC n z 0) := bnd_ge (fun k hk => by simp [sdC, noC]) (by omega)
    have b4 := lk_in h h0 h1
    show (0 : Int) < bnd n j.toNat (sdC n z 0) + lk z j
    omega
  | r + 1, hr, j, h0, h1 => by
    have ih := sd_up h r (by omega)
    have e1 : sdC n z (r + 1) j = bnd n j.toNat (sdC n z r) + lk z j := rfl
    have e2 : sdC n z (r + 1 + 1) j = bnd n j.toNat (sdC n z (r + 1)) + lk z j := rfl
    obtain ⟨i, hi⟩ := other h.1 j
    have hi2 := isCl_iff.1 hi
    have b1 := bnd_le (c := sdC n z r) hi
    have b2 := sd_in h r (by omega) i hi2.1 hi2.2.1
    have b3 : bnd n j.toNat (sdC n z r) + 1 ≤ bnd n j.toNat (sdC n z (r + 1)) := bnd_ge (fun k hk => by
      have hk2 := isCl_iff.1 hk
      have := bnd_le (c := sdC n z r) hk
      have := ih k hk2.1 hk2.2.1
      omega) (by omega)
    omega
theorem sd_least {n : Nat} {z : List Int} (h : Zs n z) : ∀ (r : Nat), r ≤ 20 → ∀ (j : Int), 0 ≤ j → j < n → (r : Int) * lsK z n ≤ sdC n z r j
  | 0, _, j, h0, h1 => by simp [sdC, noC]
  | r + 1, hr, j, h0, h1 => by
    have ih := sd_least h r (by omega)
    have e1 : sdC n z (r + 1) j = bnd n j.toNat (sdC n z r) + lk z j := rfl
    have hl : lsK z n ≤ lk z j := by unfold lk; exact lsK_le (by omega)
    obtain ⟨i, hi⟩ := other h.1 j
    have hi2 := isCl_iff.1 hi
    have b0 := ih i hi2.1 hi2.2.1
    have b2 := sd_in h r (by omega) i hi2.1 hi2.2.1
    have b3 : (r : Int) * lsK z n ≤ bnd n j.toNat (sdC n z r) := bnd_ge (fun k hk => ih k (isCl_iff.1 hk).1 (isCl_iff.1 hk).2.1) (by omega)
    have e2 : ((r + 1 : Nat) : Int) * lsK z n = (r : Int) * lsK z n + lsK z n := by rw [Int.natCast_succ, Int.add_mul, Int.one_mul]
    rw [e1, e2]
    omega
theorem sd_bnd {n : Nat} {z : List Int} (h : Zs n z) {r : Nat} (hr : r ≤ 20) (me : Nat) : (r : Int) * lsK z n ≤ bnd n me (sdC n z r) := by
  obtain ⟨i, hi⟩ := other h.1 (0 : Int)
  have hi2 := isCl_iff.1 hi
  have b0 := sd_least h r hr i hi2.1 hi2.2.1
  have b2 := sd_in h r hr i hi2.1 hi2.2.1
  exact bnd_ge (fun k hk => sd_least h r hr k (isCl_iff.1 hk).1 (isCl_iff.1 hk).2.1) (by omega)
theorem sd_prod {n : Nat} {z : List Int} (h : Zs n z) {r : Nat} (hr : r ≤ 20) : 0 ≤ (r : Int) * lsK z n ∧ (r : Int) * lsK z n ≤ 5120 := by
  obtain ⟨i, hi⟩ := other h.1 (0 : Int)
  have hi2 := isCl_iff.1 hi
  have b0 := sd_least h r hr i hi2.1 hi2.2.1
  have b2 := sd_in h r hr i hi2.1 hi2.2.1
  have b3 := (lsK_lo h n (Nat.le_refl _)).1
  have b4 := Int.mul_nonneg (show (0 : Int) ≤ r by omega) (show 0 ≤ lsK z n by omega)
  omega
/-- What i tells in round r + 1. -/
theorem sd_tell {n : Nat} {z : List Int} (h : Zs n z) {r i : Nat} (hr : r < 20) (hi : i < n) :
    tlT n i (sdC n z r) (sdC n z r i) 1125899906842624 (1 + nthI z i) = sdC n z (r + 1) i ∧ tlB n i (sdC n z r) (sdC n z r i) 1125899906842624 (1 + nthI z i) = true := by
  have hu := sd_up h r hr i (by omega) (by omega)
  have b1 := lk_in h (j := i) (by omega) (by omega)
  have b2 := sd_in h (r + 1) (by omega) i (by omega) (by omega)
  have e1 : sdC n z (r + 1) i = bnd n i (sdC n z r) + lk z i := rfl
  have e0 : lk z i = 1 + nthI z i := rfl
  have b3 : 0 ≤ bnd n i (sdC n z r) := bnd_ge (fun k hk => (sd_in h r (by omega) k (isCl_iff.1 hk).1 (isCl_iff.1 hk).2.1).1) (by omega)
  have hp : prm n i (sdC n z r) 1125899906842624 (1 + nthI z i) = sdC n z (r + 1) i := by
    unfold prm vadd
    have e2 : lstI [1125899906842624, bnd n i (sdC n z r)] = bnd n i (sdC n z r) := by
      have e3 : cnt 1125899906842624 = 1125899906842624 := cnt_big (by omega)
      have e4 : cnt (bnd n i (sdC n z r)) = bnd n i (sdC n z r) := cnt_mid b3 (by omega)
      simp [lstI, e3, e4]
      omega
    rw [e2, cnt_mid (t := bnd n i (sdC n z r)) b3 (by omega), cnt_mid (t := 1 + nthI z i) (by omega) (by omega), cnt_mid (by omega) (by omega), e1, e0]
  unfold tlT tlB
  rw [hp]
  refine ⟨if_neg (by omega), by simpa using hu⟩
/-- i's clocks while it hears: those below j at the new ones. -/
def mix (c d : Int → Int) (j : Nat) : Int → Int := fun x => if 0 ≤ x ∧ x < j then d x else c x
theorem mix_zero (c d : Int → Int) : mix c d 0 = c := by
  funext x
  unfold mix
  rw [if_neg (by omega)]
theorem mix_step (c d : Int → Int) (j : Nat) : upC (mix c d j) j (d j) = mix c d (j + 1) := by
  funext x
  unfold upC mix
  by_cases e : x = (j : Int)
  · subst e
    rw [if_pos rfl, if_pos (by omega)]
  · rw [if_neg e]
    by_cases g : 0 ≤ x ∧ x < (j : Int)
    · rw [if_pos g, if_pos (by omega)]
    · rw [if_neg g, if_neg (by omega)]
theorem mix_same (c d : Int → Int) (j n : Nat) (x : Int) (h : isCl n j x = true) : mix c d j x = mix c d (j + 1) x := by
  have := isCl_iff.1 h
  unfold mix
  by_cases g : 0 ≤ x ∧ x < (j : Int)
  · rw [if_pos g, if_pos (by omega)]
  · rw [if_neg g, if_neg (by omega)]
theorem mix_all (c d : Int → Int) (n me : Nat) (x : Int) (h : isCl n me x = true) : mix c d n x = d x := by
  have := isCl_iff.1 h
  unfold mix
  rw [if_pos (by omega)]
theorem sd_hear {n : Nat} {z : List Int} (h : Zs n z) {r i j : Nat} (hr : r < 20) (hj : j < n) (hij : i ≠ j) :
    hrE n i (mix (sdC n z r) (sdC n z (r + 1)) j) j (sdC n z (r + 1) j) = 0 ∧ hrC n i (mix (sdC n z r) (sdC n z (r + 1)) j) j (sdC n z (r + 1) j) = mix (sdC n z r) (sdC n z (r + 1)) (j + 1) := by
  have hu := sd_up h r hr j (by omega) (by omega)
  have hk := sd_ok h (r := r + 1) (by omega) (j := j) (by omega) (by omega)
  have hc : isCl n i j = true := isCl_iff.2 ⟨by omega, by omega, by omega⟩
  have e : mix (sdC n z r) (sdC n z (r + 1)) j j = sdC n z r j := by unfold mix; rw [if_neg (by omega)]
  have e1 : hrE n i (mix (sdC n z r) (sdC n z (r + 1)) j) j (sdC n z (r + 1) j) = 0 := by
    unfold hrE
    rw [if_pos ⟨hc, hk⟩, e, if_neg (by omega)]
  refine ⟨e1, ?_⟩
  unfold hrC
  rw [if_pos e1, mix_step]
end Go.Proofs.Ytmhopjpbhdficaa
