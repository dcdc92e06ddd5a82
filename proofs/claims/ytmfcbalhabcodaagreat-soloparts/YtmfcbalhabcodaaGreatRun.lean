/- Proved: a run in memory, with what it is as plain data; what is done with its federates. -/
import Derived.Test.YtmfcbalhabcodaaGreatLay
namespace Go.Proofs.YtmfcbalhabcodaaGreat
open Go.RowKit Go.Shelf
set_option linter.unusedVariables false

structure RunR (W : World) (rb : Nat) (D : Wd) (r : Rn) (lo hi : Nat) (D' : Wd) (fv pv : Value) (pb : Nat) (E : List Fe) : Prop where
  lay : Lay W rb lo hi D' fv pv pb r.wt E
  lik : Lik D' D
  el : E.length = D.fs.length
  fe : ∀ i, i < D.fs.length → (nthE E i).st = nthI r.st i ∧ (nthE E i).sq = nthI r.sq i ∧ (nthE E i).lg = logR r (i : Int)
  inv : Inv D r
  ok : OkD D
  wl : r.wt.length ≤ 256 + 24 * r.dn.length
/-- The run r of the federation D, at block rb, in the blocks F. -/
def RunF (rb : Nat) (D : Wd) (r : Rn) (W : World) (F : Nat → Prop) : Prop := ∃ lo hi D' fv pv pb E, RunR W rb D r lo hi D' fv pv pb E ∧ F = FL rb lo hi fv pv pb E
theorem RunR.keep {S : Nat → Prop} {W W' : World} {rb : Nat} {D : Wd} {r : Rn} {lo hi : Nat} {D' : Wd} {fv pv : Value} {pb : Nat} {E : List Fe} (h : RunR W rb D r lo hi D' fv pv pb E) (hf : Fr S W W') (hS : ∀ k, FL rb lo hi fv pv pb E k → ¬ S k) : RunR W' rb D r lo hi D' fv pv pb E :=
  ⟨h.lay.keep hf hS, h.lik, h.el, h.fe, h.inv, h.ok, h.wl⟩
theorem thR (rb : Nat) (D : Wd) (r : Rn) : Th (RunF rb D r) := by
  refine ⟨?_, ?_⟩
  · rintro w F ⟨lo, hi, D', fv, pv, pb, E, h, rfl⟩ k hk
    exact h.lay.lt k hk
  · rintro S w w' F ⟨lo, hi, D', fv, pv, pb, E, h, rfl⟩ hf hS
    exact ⟨lo, hi, D', fv, pv, pb, E, h.keep hf hS, rfl⟩
theorem Lay.cellsR {W : World} {rb lo hi : Nat} {D : Wd} {fv pv : Value} {pb : Nat} {wt : List M} {E : List Fe} (h : Lay W rb lo hi D fv pv pb wt E) : W.cell? ⟨rb, 0, none⟩ = some (.slice D.pa D.ps.length D.pc) ∧ W.cell? ⟨rb, 1, none⟩ = some (.slice D.fa D.fs.length D.fc) ∧ W.cell? ⟨rb, 2, none⟩ = some (.int .i64 D.en) ∧ W.cell? ⟨rb, 3, none⟩ = some fv ∧ W.cell? ⟨rb, 4, none⟩ = some (.pointer (some ⟨pb, 0, none⟩)) := by
  have hb := h.bx
  refine ⟨?_, ?_, ?_, ?_, ?_⟩ <;> simp [World.cell?, hb, rcs]
theorem Lay.cellsF {W : World} {rb lo hi : Nat} {D : Wd} {fb fc n : Nat} {pv : Value} {pb : Nat} {wt : List M} {E : List Fe} (h : Lay W rb lo hi D (.slice (some ⟨fb, 0, none⟩) n fc) pv pb wt E) (hn : E.length = n) {f : Nat} (hf : f < E.length) {e : Fe} (he : nthE E f = e) : W.cell? ⟨fb, f * 3, none⟩ = some (.int .i64 e.st) ∧ W.cell? ⟨fb, f * 3 + 1, none⟩ = some (.int .i64 e.sq) ∧ W.cell? ⟨fb, f * 3 + 2, none⟩ = some (.slice e.la e.lg.length e.lc) ∧ ∀ p, W.frozen? ⟨fb, p, none⟩ = false := by
  subst he
  subst hn
  have hr := h.row
  have hc : ∀ c, c < 3 → W.cell? ⟨fb, f * 3 + c, none⟩ = (encE (nthE E f))[c]? := fun c hc => by rw [World.ownsRow.cellAt hr _ (by omega), flatE_get E f c hf hc]
  exact ⟨hc 0 (by omega), hc 1 (by omega), hc 2 (by omega), fun p => World.ownsRow.frozenAt hr p⟩
theorem own_some' {w : World} {b0 e size n : Nat} {v : Value} {xs : List Value} (h : w.ownsRow b0 e size v n xs) (hn : 0 < n) : ∃ g c, v = .slice (some ⟨g, 0, none⟩) n c := by
  rcases h.2 with ⟨e, h0⟩ | ⟨g, cap, cur, e, _⟩
  · omega
  · exact ⟨g, cap, e⟩
theorem RowM.rdx {w W : World} {v : Value} {l : List M} {F : Nat → Prop} (h : RowM w W v l) (hF : ∀ k, F k → k < w.heap.size) : ∃ a c, v = .slice a l.length c ∧ RdX F W a l := by
  have h0 := h.1
  rcases h.1.2 with ⟨rfl, hn⟩ | ⟨g, cap, cur, rfl, hb, hg, _⟩
  · exact ⟨none, 0, by rw [hn], fun hl => absurd (List.length_eq_zero_iff.1 hn) hl⟩
  · refine ⟨_, cap, rfl, fun _ => ⟨g, 0, rfl, (Array.getElem?_eq_some_iff.1 hg).1, fun e => by have := hF g e; omega, fun i hi c hc => ?_⟩⟩
    rw [Nat.zero_add, World.ownsRow.cellAt h0 _ (by omega), flatM_get l i c hi hc]
theorem BoxM.keep {S : Nat → Prop} {w W : World} {B : Nat} {x : M} (h : BoxM w B x) (hf : Fr S w W) (hS : ¬ S B) : BoxM W B x := (hf.block B h.lt hS).trans h
end Go.Proofs.YtmfcbalhabcodaaGreat
