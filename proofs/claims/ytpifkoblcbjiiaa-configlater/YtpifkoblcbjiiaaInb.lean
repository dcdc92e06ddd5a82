/- Proved: slices of bytes, of bools as they lie in memory; what a federation that may be is. -/
import Derived.Test.YtpifkoblcbjiiaaWKe
namespace Go.Proofs.Ytpifkoblcbjiiaa
open Go.RowKit Go.Shelf
set_option linter.unusedVariables false

/-- A slice of bytes that came in. -/
def InB (w : World) (a : Option Addr) (z : List Int) : Prop :=
  (∀ i, i < z.length → 0 ≤ nthI z i ∧ nthI z i ≤ 255) ∧ (z ≠ [] → ∃ b off, a = some ⟨b, off, none⟩ ∧ b < w.heap.size ∧ ∀ i, i < z.length → w.cell? ⟨b, off + i, none⟩ = some (.int .u8 (nthI z i)))
theorem InB.below {w W : World} {a : Option Addr} {z : List Int} (h : InB w a z) (hb : Below w.heap.size w W) : InB W a z := by
  refine ⟨h.1, fun g => ?_⟩
  obtain ⟨b, off, rfl, hB, hc⟩ := h.2 g
  exact ⟨b, off, rfl, Nat.lt_of_lt_of_le hB hb.size, fun i hi => (hb.cell (p := ⟨b, off + i, none⟩) hB).trans (hc i hi)⟩
def nthT (z : List Bool) (i : Nat) : Bool := z.getD i false
/-- A slice of bools that came in. -/
def InT (w : World) (a : Option Addr) (z : List Bool) : Prop :=
  z ≠ [] → ∃ b off, a = some ⟨b, off, none⟩ ∧ b < w.heap.size ∧ ∀ i, i < z.length → w.cell? ⟨b, off + i, none⟩ = some (.bool (nthT z i))
theorem InT.below {w W : World} {a : Option Addr} {z : List Bool} (h : InT w a z) (hb : Below w.heap.size w W) : InT W a z := fun g => by
  obtain ⟨b, off, rfl, hB, hc⟩ := h g
  exact ⟨b, off, rfl, Nat.lt_of_lt_of_le hB hb.size, fun i hi => (hb.cell (p := ⟨b, off + i, none⟩) hB).trans (hc i hi)⟩

theorem fstE_zero {l : List Int} (h : fstE l = 0) : ∀ x ∈ l, x = 0 := by
  induction l with
  | nil => intro x hx; cases hx
  | cons a r ih =>
    simp only [fstE] at h
    split at h
    · rename_i e
      intro x hx
      rcases List.mem_cons.1 hx with rfl | hx
      · exact e
      · exact ih h x hx
    · exact absurd h ‹_›
theorem unl_zero {b : Bool} {e : Int} (he : e ≠ 0) (h : unl b e = 0) : b = true := by
  cases b
  · exact absurd h he
  · rfl
theorem fedsE_zero {m : Nat} {l : List Fd} {j : Nat} (h : (fedsE m j l).2 = 0) : ∀ f ∈ l, fedE f m = 0 := by
  induction l generalizing j with
  | nil => intro f hf; cases hf
  | cons a r ih =>
    simp only [fedsE] at h
    split at h
    · rename_i e
      intro f hf
      rcases List.mem_cons.1 hf with rfl | hf
      · exact e
      · exact ih h f hf
    · exact absurd h ‹_›
/-- A federation that may be. -/
theorem wld_ok {D : Wd} {N : Int} (h : wldE D = (N, 0)) : OKT D.ps ∧ 1 ≤ D.fs.length ∧ D.fs.length ≤ 8 ∧ ∀ f ∈ D.fs, fedE f D.ps.length = 0 := by
  unfold wldE at h
  split at h
  · rename_i e
    have e2 := fstE_zero (l := [chk D.ps, unl (wi D.en 0 1099511627776 && wi D.fs.length 1 8) 1]) e
    have h1 := e2 _ (by simp : chk D.ps ∈ _)
    have h2 := unl_zero (by decide) (e2 _ (by simp : unl (wi D.en 0 1099511627776 && wi D.fs.length 1 8) 1 ∈ _))
    rw [Bool.and_eq_true] at h2
    have h3 := of_decide_eq_true h2.2
    refine ⟨?_, by omega, by omega, fedsE_zero (j := 0) (by rw [h])⟩
    unfold chk at h1
    split at h1
    · rename_i g; exact (okT_iff _).1 g
    · cases h1
  · rename_i e
    have := congrArg Prod.snd h
    exact absurd this e
/-- What a federate that may be is. -/
theorem fed_ok {f : Fd} {m : Nat} (h : fedE f m = 0) : (1 ≤ f.lk ∧ f.lk ≤ 1048576) ∧ (∀ r ∈ f.rs, ∀ o ∈ r.os, o.1 ∈ f.ps ∧ f.lk ≤ o.2.1 ∧ o.2.1 ≤ 1048576) ∧ (∀ r ∈ f.rs, r.os.length ≤ 3) := by
  have h2 := fstE_zero (l := [unl (wi f.kd 0 1) 1, unl (wi f.lk 1 1048576) 80, unl (wi f.st 0 7) 70, chkE f.rs, unl (cls f.ps m && cls f.ss m) 81, rulsE f.ps f.lk m f.rs, unl (iniB f.ps f.is) 82]) h
  have hl := of_decide_eq_true (unl_zero (by decide) (h2 _ (by simp : unl (wi f.lk 1 1048576) 80 ∈ _)))
  have hc : chkE f.rs = 0 := h2 _ (by simp)
  have hr : rulsE f.ps f.lk m f.rs = 0 := h2 _ (by simp)
  have hall : ∀ r ∈ f.rs, okR r = true := by
    unfold chkE at hc
    split at hc
    · rename_i g
      unfold chkB at g
      simp only [Bool.and_eq_true] at g
      exact List.all_eq_true.1 g.2.1
    · cases hc
  refine ⟨hl, fun r hr' o ho => ?_, fun r hr' => ?_⟩
  · have h3 : rulE f.ps f.lk m r = 0 := fstE_zero hr _ (List.mem_map.2 ⟨r, hr', rfl⟩)
    have h4 : sndsE f.ps f.lk r.os = 0 := fstE_zero h3 _ (by simp)
    have h5 : sndE f.ps f.lk o = 0 := fstE_zero h4 _ (List.mem_map.2 ⟨o, ho, rfl⟩)
    have h6 := fstE_zero h5
    have h7 := of_decide_eq_true (unl_zero (by decide) (h6 _ (by simp : unl (decide (o.1 ∈ f.ps)) 81 ∈ _)))
    have h8 := of_decide_eq_true (unl_zero (by decide) (h6 _ (by simp : unl (decide (f.lk ≤ o.2.1)) 80 ∈ _)))
    have h9 := hall r hr'
    unfold okR at h9
    simp only [Bool.and_eq_true] at h9
    have h10 := List.all_eq_true.1 h9.2.2.2.2 o ho
    unfold okO at h10
    simp only [Bool.and_eq_true] at h10
    have h11 := of_decide_eq_true h10.2.1
    exact ⟨h7, h8, by omega⟩
  · have h9 := hall r hr'
    unfold okR at h9
    simp only [Bool.and_eq_true] at h9
    exact of_decide_eq_true h9.2.2.2.1
end Go.Proofs.Ytpifkoblcbjiiaa
