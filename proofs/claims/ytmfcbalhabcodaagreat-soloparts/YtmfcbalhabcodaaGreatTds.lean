/- Proved: a run of the program's and one of the document's beside each other. -/
import Derived.Test.YtmfcbalhabcodaaGreatTws
import Derived.Test.YtmfcbalhabcodaaGreatDc7
namespace Go.Proofs.YtmfcbalhabcodaaGreat
open Go.RowKit Go.Shelf
set_option linter.unusedVariables false

theorem L2.callQ' {w W : World} {Z : Nat → Prop} {P Q Q2 : World → (Nat → Prop) → Prop} (h : L2 w W Z P Q) (hP : Th P) {f : Nat} {args : Array Value} {R : Value} (hc : ∀ F, Q W F → (∀ k, F k → w.heap.size ≤ k) → Calls Tryz.prog f args W fun e w' => e = .returned R ∧ ∃ F2, Q2 w' F2 ∧ Step F F2 W w') :
    Calls Tryz.prog f args W fun e w' => e = .returned R ∧ L2 w w' Z P Q2 ∧ Fr (fun k => ¬ Z k) W w' := by
  obtain ⟨F, G, h1, h2, h3, h4, h5, h6, h7⟩ := h
  refine L2.callQ (Q := fun W' G' => Q W' G' ∧ G' = G) ⟨F, G, h1, ⟨h2, rfl⟩, h3, h4, h5, h6, h7⟩ hP (fun F' hF' => ?_)
  obtain ⟨a1, rfl⟩ := hF'
  exact hc F' a1 h5
def Td (w0 : World) (D : Wd) (rb db : Nat) (r1 r2 : Rn) (W : World) : Prop := L2 w0 W (fun _ => False) (RunF rb D r1) (DocF db D r2)
theorem Td.bel {w0 : World} {D : Wd} {rb db : Nat} {r1 r2 : Rn} {W : World} (h : Td w0 D rb db r1 r2 W) : Below w0.heap.size w0 W := L2.bel h
theorem Td.below {w0 : World} {D : Wd} {rb db : Nat} {r1 r2 : Rn} {W W' : World} (h : Td w0 D rb db r1 r2 W) (hb : Below W.heap.size W W') : Td w0 D rb db r1 r2 W' := L2.below h (thR _ _ _) (thD _ _ _) hb
theorem Td.inv {w0 : World} {D : Wd} {rb db : Nat} {r1 r2 : Rn} {W : World} (h : Td w0 D rb db r1 r2 W) : Inv D r1 := by
  obtain ⟨F, ⟨lo, hi, D', fv, pv, pb, E, hR, _⟩⟩ := L2.seeP h
  exact hR.inv
theorem Td.stepsA {w0 : World} {D : Wd} {rb db : Nat} {r1 r2 : Rn} {W : World} (h : Td w0 D rb db r1 r2 W) (N : Nat) (hN : r1.dn.length + N ≤ 500) :
    Calls Tryz.prog 14 #[.pointer (some ⟨rb, 0, none⟩), .int .i64 N] W fun e w' => e = .returned (.int .i64 (stpsR D N r1).1) ∧ Td w0 D rb db (stpsR D N r1).2 r2 w' :=
  (L2.callP h (thD _ _ _) (fun F hF => steps_any hF N hN)).mono fun e w' ⟨h1, h2, _⟩ => ⟨h1, h2⟩
theorem Td.stepsB {w0 : World} {D : Wd} {rb db : Nat} {r1 r2 : Rn} {W : World} (h : Td w0 D rb db r1 r2 W) (hw : Ww w0 D) (N : Nat) (hN : r2.dn.length + N ≤ 500) :
    Calls Tryz.prog 15 #[.pointer (some ⟨db, 0, none⟩), .int .i64 N] W fun e w' => e = .returned (.int .i64 (stpsR D N r2).1) ∧ Td w0 D rb db r1 (stpsR D N r2).2 w' :=
  (L2.callQ' h (thR _ _ _) (fun F hF hk => dsteps_any hw hF hk h.bel N hN)).mono fun e w' ⟨h1, h2, _⟩ => ⟨h1, h2⟩
theorem Td.newB {w0 W : World} {D : Wd} {rb : Nat} {r1 : Rn} (h : Lv w0 rb D r1 W) (hw : Ww W D) {N : Int} (hE : wldE D = (N, 0)) :
    Calls Tryz.prog 11 #[wv D] W fun e w' => ∃ db, e = .returned (.tuple #[.pointer (some ⟨db, 0, none⟩), .int .i64 0]) ∧ Td w0 D rb db r1 (newR D) w' := by
  obtain ⟨F, h1, h2, h3⟩ := h
  exact (dnew_ok hw hE).mono fun e w' ⟨db, G, e1, e2, e3, e4⟩ => ⟨db, e1, L2.start (thR _ _ _) h1 h2 h3 e2 e3 e4⟩
theorem Td.logA {w0 : World} {D : Wd} {rb db : Nat} {r1 r2 : Rn} {W : World} (h : Td w0 D rb db r1 r2 W) (f : Int) (hl : r1.dn.length ≤ 5000) :
    Calls Tryz.prog 22 #[.pointer (some ⟨rb, 0, none⟩), .int .i64 f] W fun e w' => ∃ a c, e = .returned (.slice a (logR r1 f).length c) ∧ RdD w' a (logR r1 f) ∧ Below W.heap.size W w' := by
  obtain ⟨F, hF⟩ := L2.seeP h
  exact log_any hF f hl
theorem Td.stateA {w0 : World} {D : Wd} {rb db : Nat} {r1 r2 : Rn} {W : World} (h : Td w0 D rb db r1 r2 W) (f : Int) :
    Calls Tryz.prog 19 #[.pointer (some ⟨rb, 0, none⟩), .int .i64 f] W fun e w' => e = .returned (.int .i64 (staR r1 f)) ∧ w' = W := by
  obtain ⟨F, hF⟩ := L2.seeP h
  exact state_any hF f
theorem Td.stateB {w0 : World} {D : Wd} {rb db : Nat} {r1 r2 : Rn} {W : World} (h : Td w0 D rb db r1 r2 W) (i : Nat) (hi : i < D.fs.length) :
    Calls Tryz.prog 20 #[.pointer (some ⟨db, 0, none⟩), .int .i64 i] W fun e w' => e = .returned (.int .i64 (nthI r2.st i)) ∧ Below W.heap.size W w' := by
  obtain ⟨F, hF⟩ := L2.seeQ h
  exact dstate_any hF i hi
/-- How far the search for a rule has come: none of those before is the one. -/
theorem stp_go {rs : List Rl} {s c : Int} {k : Nat} (h : ∀ i, i < k → isB s c (nthR rs i) = false) (hk : k = rs.length) : (stp rs s c).1 = s := by
  rcases idxP_cases (isB s c) rs with ⟨e, _⟩ | ⟨j, hj, e, he, _⟩
  · unfold stp
    rw [fnd_idx, e]
    rfl
  · rw [h j (by omega)] at he
    simp at he
theorem stp_hit {rs : List Rl} {s c : Int} {k : Nat} (h : ∀ i, i < k → isB s c (nthR rs i) = false) (hk : k < rs.length) (hp : isB s c (nthR rs k) = true) : (stp rs s c).1 = (nthR rs k).nx := by
  unfold stp
  rw [show fnd rs s c = (k : Int) by rw [fnd_idx]; unfold idxP; rw [findIdx_at h hk hp, if_pos hk], if_neg (by omega)]
  simp
end Go.Proofs.YtmfcbalhabcodaaGreat
