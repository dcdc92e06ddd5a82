/- Proved: a run as the statements use it: its calls, in whatever world behind. -/
import Derived.Test.YtmfcbalhabcodaaGreatShn
namespace Go.Proofs.YtmfcbalhabcodaaGreat
open Go.RowKit Go.Shelf
set_option linter.unusedVariables false

/-- A federation that came in, in a block of its own. -/
theorem box_of {w : World} {D : Wd} (hp : RdI w w.heap.size D.pa D.ps) (hf : RdF w D.fa D.fs) :
    ((w.alloc (.cells (wcs D) 25)).cell? ⟨w.heap.size, 0, none⟩ = some (.slice D.pa D.ps.length D.pc) ∧ (w.alloc (.cells (wcs D) 25)).cell? ⟨w.heap.size, 1, none⟩ = some (.slice D.fa D.fs.length D.fc) ∧ (w.alloc (.cells (wcs D) 25)).cell? ⟨w.heap.size, 2, none⟩ = some (.int .i64 D.en)) ∧ RdI (w.alloc (.cells (wcs D) 25)) (w.alloc (.cells (wcs D) 25)).heap.size D.pa D.ps ∧ RdF (w.alloc (.cells (wcs D) 25)) D.fa D.fs :=
  ⟨⟨by rw [World.cell?_alloc_new]; rfl, by rw [World.cell?_alloc_new]; rfl, by rw [World.cell?_alloc_new]; rfl⟩, hp.belo (al _ _), hf.below (al _ _)⟩
def Lv (w0 : World) (rb : Nat) (D : Wd) (r : Rn) (W : World) : Prop := ∃ F, RunF rb D r W F ∧ (∀ k, F k → w0.heap.size ≤ k) ∧ Below w0.heap.size w0 W
theorem Lv.bel {w0 : World} {rb : Nat} {D : Wd} {r : Rn} {W : World} (h : Lv w0 rb D r W) : Below w0.heap.size w0 W := by
  obtain ⟨F, _, _, h⟩ := h
  exact h
theorem Lv.inv {w0 : World} {rb : Nat} {D : Wd} {r : Rn} {W : World} (h : Lv w0 rb D r W) : Inv D r := by
  obtain ⟨F, ⟨lo, hi, D', fv, pv, pb, E, hR, _⟩, _⟩ := h
  exact hR.inv
theorem Lv.below {w0 : World} {rb : Nat} {D : Wd} {r : Rn} {W W' : World} (h : Lv w0 rb D r W) (hb : Below W.heap.size W W') : Lv w0 rb D r W' := by
  obtain ⟨F, h1, h2, h3⟩ := h
  exact ⟨F, (thR rb D r).below h1 hb, h2, h3.trans (hb.mono h3.size)⟩
theorem Lv.step {w0 : World} {rb : Nat} {D : Wd} {r' : Rn} {W W' : World} {F F2 : Nat → Prop} (h2 : ∀ k, F k → w0.heap.size ≤ k) (h3 : Below w0.heap.size w0 W) (h4 : RunF rb D r' W' F2) (h5 : Step F F2 W W') : Lv w0 rb D r' W' :=
  ⟨F2, h4, fun k hk => (h5.2 k hk).elim (h2 k) (fun g => Nat.le_trans h3.size g), h3.trans (h5.1.below h3.size h2)⟩
theorem Lv.new {w0 W : World} {D : Wd} (hb : Below w0.heap.size w0 W) (h : Ww W D) {N : Int} (hE : wldE D = (N, 0)) :
    Calls Tryz.prog 10 #[wv D] W fun e w' => ∃ rb, e = .returned (.tuple #[.pointer (some ⟨rb, 0, none⟩), .int .i64 0]) ∧ Lv w0 rb D (newR D) w' ∧ Below W.heap.size W w' :=
  (new_ok h hE).mono fun e w' ⟨rb, F, h1, h2, h3, h4⟩ => ⟨rb, h1, ⟨F, h2, fun k hk => Nat.le_trans hb.size (h3 k hk), hb.trans (h4.mono hb.size)⟩, h4⟩
theorem Lv.no {w0 : World} {rb : Nat} {D : Wd} {r : Rn} {W : World} (h : Lv w0 rb D r W) (hn : nxt D r = none) :
    Calls Tryz.prog 12 #[.pointer (some ⟨rb, 0, none⟩)] W fun e w' => e = .returned (.tuple #[dv zeroD, .bool false]) ∧ Lv w0 rb D r w' := by
  have h0 := h
  obtain ⟨F, h1, h2, h3⟩ := h
  exact (next_no h1 hn).mono fun e w' ⟨e1, e2⟩ => ⟨e1, h0.below e2⟩
theorem Lv.yes {w0 : World} {rb : Nat} {D : Wd} {r : Rn} {W : World} (h : Lv w0 rb D r W) {p : Rn × Dn} (hn : nxt D r = some p) (hl : r.dn.length ≤ 500) :
    Calls Tryz.prog 12 #[.pointer (some ⟨rb, 0, none⟩)] W fun e w' => e = .returned (.tuple #[dv p.2, .bool true]) ∧ Lv w0 rb D p.1 w' := by
  obtain ⟨F, h1, h2, h3⟩ := h
  exact (next_yes h1 hn hl).mono fun e w' ⟨e1, F2, e2, e3⟩ => ⟨e1, Lv.step h2 h3 e2 e3⟩
theorem Lv.steps {w0 : World} {rb : Nat} {D : Wd} {r : Rn} {W : World} (h : Lv w0 rb D r W) (N : Nat) (hN : r.dn.length + N ≤ 500) :
    Calls Tryz.prog 14 #[.pointer (some ⟨rb, 0, none⟩), .int .i64 N] W fun e w' => e = .returned (.int .i64 (stpsR D N r).1) ∧ Lv w0 rb D (stpsR D N r).2 w' := by
  obtain ⟨F, h1, h2, h3⟩ := h
  exact (steps_any h1 N hN).mono fun e w' ⟨e1, F2, e2, e3⟩ => ⟨e1, Lv.step h2 h3 e2 e3⟩
theorem Lv.log {w0 : World} {rb : Nat} {D : Wd} {r : Rn} {W : World} (h : Lv w0 rb D r W) (f : Int) (hl : r.dn.length ≤ 5000) :
    Calls Tryz.prog 22 #[.pointer (some ⟨rb, 0, none⟩), .int .i64 f] W fun e w' => ∃ a c, e = .returned (.slice a (logR r f).length c) ∧ RdD w' a (logR r f) ∧ Below W.heap.size W w' := by
  obtain ⟨F, h1, _⟩ := h
  exact log_any h1 f hl
theorem Lv.state {w0 : World} {rb : Nat} {D : Wd} {r : Rn} {W : World} (h : Lv w0 rb D r W) (f : Int) :
    Calls Tryz.prog 19 #[.pointer (some ⟨rb, 0, none⟩), .int .i64 f] W fun e w' => e = .returned (.int .i64 (staR r f)) ∧ w' = W := by
  obtain ⟨F, h1, _⟩ := h
  exact state_any h1 f
/-- How many are done. -/
theorem stps_dn (D : Wd) (n : Nat) (r : Rn) : (stpsR D n r).2.dn.length ≤ r.dn.length + n := by
  induction n generalizing r with
  | zero => simp [stpsR]
  | succ n ih =>
    cases h : nxt D r with
    | none => rw [stps_none h]; simp
    | some p =>
      rw [stps_some h]
      have := ih p.1
      obtain ⟨m, rest, hw, ht, hp⟩ := nxt_parts h
      have e1 : p.1.dn = r.dn ++ [(goR D r m rest).2] := by rw [hp]; rfl
      rw [e1] at this
      simp at this
      simp
      omega
theorem kcmp_lt {a b : M} (h : a.t < b.t ∨ (a.t = b.t ∧ (a.fr < b.fr ∨ (a.fr = b.fr ∧ a.sq < b.sq)))) : kcmp (ky a) (ky b) < 0 := by
  unfold kcmp or3 cmpI ky
  dsimp only
  repeat' split
  all_goals omega
end Go.Proofs.YtmfcbalhabcodaaGreat
