/- Proved: two things as one; two runs of the program's and one of the document's beside each other. -/
import Derived.Test.YtmfcbalhabcodaaGreatDc9
namespace Go.Proofs.YtmfcbalhabcodaaGreat
open Go.RowKit Go.Shelf
set_option linter.unusedVariables false

def Pr (P Q : World → (Nat → Prop) → Prop) (W : World) (F : Nat → Prop) : Prop := ∃ F1 F2, P W F1 ∧ Q W F2 ∧ (∀ k, F1 k → ¬ F2 k) ∧ F = (fun k => F1 k ∨ F2 k)
theorem thPr {P Q : World → (Nat → Prop) → Prop} (hP : Th P) (hQ : Th Q) : Th (Pr P Q) := by
  refine ⟨?_, ?_⟩
  · rintro w F ⟨F1, F2, h1, h2, h3, rfl⟩ k (hk | hk)
    · exact hP.lt h1 k hk
    · exact hQ.lt h2 k hk
  · rintro S w w' F ⟨F1, F2, h1, h2, h3, rfl⟩ hf hS
    exact ⟨F1, F2, hP.keep h1 hf (fun k hk => hS k (.inl hk)), hQ.keep h2 hf (fun k hk => hS k (.inr hk)), h3, rfl⟩
theorem Pr.left {P P' Q : World → (Nat → Prop) → Prop} (hQ : Th Q) {W : World} {F : Nat → Prop} (h : Pr P Q W F) {f : Nat} {args : Array Value} {R : Value} (hc : ∀ F1, P W F1 → (∀ k, F1 k → F k) → Calls Tryz.prog f args W fun e w' => e = .returned R ∧ ∃ F2, P' w' F2 ∧ Step F1 F2 W w') :
    Calls Tryz.prog f args W fun e w' => e = .returned R ∧ ∃ F2, Pr P' Q w' F2 ∧ Step F F2 W w' := by
  obtain ⟨F1, F2, h1, h2, h3, rfl⟩ := h
  refine (hc F1 h1 (fun k hk => .inl hk)).mono ?_
  rintro e w' ⟨e1, F3, e2, e3, e4⟩
  refine ⟨e1, _, ⟨F3, F2, e2, hQ.keep h2 e3 (fun k hk g => h3 k g hk), fun k hk g => ?_, rfl⟩, e3.wide (fun k hk => .inl hk), fun k hk => ?_⟩
  · rcases e4 k hk with g2 | g2
    · exact h3 k g2 g
    · have := hQ.lt h2 k g; omega
  · rcases hk with hk | hk
    · exact (e4 k hk).elim (fun g => .inl (.inl g)) .inr
    · exact .inl (.inr hk)
theorem Pr.right {P Q Q' : World → (Nat → Prop) → Prop} (hP : Th P) {W : World} {F : Nat → Prop} (h : Pr P Q W F) {f : Nat} {args : Array Value} {R : Value} (hc : ∀ F1, Q W F1 → (∀ k, F1 k → F k) → Calls Tryz.prog f args W fun e w' => e = .returned R ∧ ∃ F2, Q' w' F2 ∧ Step F1 F2 W w') :
    Calls Tryz.prog f args W fun e w' => e = .returned R ∧ ∃ F2, Pr P Q' w' F2 ∧ Step F F2 W w' := by
  obtain ⟨F1, F2, h1, h2, h3, rfl⟩ := h
  refine (hc F2 h2 (fun k hk => .inr hk)).mono ?_
  rintro e w' ⟨e1, F3, e2, e3, e4⟩
  refine ⟨e1, _, ⟨F1, F3, hP.keep h1 e3 (fun k hk g => h3 k hk g), e2, fun k hk g => ?_, rfl⟩, e3.wide (fun k hk => .inr hk), fun k hk => ?_⟩
  · rcases e4 k g with g2 | g2
    · exact h3 k hk g2
    · have := hP.lt h1 k hk; omega
  · rcases hk with hk | hk
    · exact .inl (.inl hk)
    · exact (e4 k hk).elim (fun g => .inl (.inr g)) .inr
/-- Three runs. -/
def T3 (w0 : World) (D : Wd) (rb rb2 db : Nat) (r1 r2 r3 : Rn) (W : World) : Prop := L2 w0 W (fun _ => False) (RunF rb D r1) (Pr (RunF rb2 D r2) (DocF db D r3))
theorem T3.bel {w0 : World} {D : Wd} {rb rb2 db : Nat} {r1 r2 r3 : Rn} {W : World} (h : T3 w0 D rb rb2 db r1 r2 r3 W) : Below w0.heap.size w0 W := L2.bel h
theorem T3.below {w0 : World} {D : Wd} {rb rb2 db : Nat} {r1 r2 r3 : Rn} {W W' : World} (h : T3 w0 D rb rb2 db r1 r2 r3 W) (hb : Below W.heap.size W W') : T3 w0 D rb rb2 db r1 r2 r3 W' := L2.below h (thR _ _ _) (thPr (thR _ _ _) (thD _ _ _)) hb
theorem T3.newC {w0 W : World} {D : Wd} {rb rb2 : Nat} {r1 r2 : Rn} (h : Tw w0 D D rb rb2 r1 r2 W) (hw : Ww W D) {N : Int} (hE : wldE D = (N, 0)) :
    Calls Tryz.prog 11 #[wv D] W fun e w' => ∃ db, e = .returned (.tuple #[.pointer (some ⟨db, 0, none⟩), .int .i64 0]) ∧ T3 w0 D rb rb2 db r1 r2 (newR D) w' := by
  obtain ⟨F, G, h1, h2, h3, h4, h5, h6, h7⟩ := h
  refine (dnew_ok hw hE).mono ?_
  rintro e w' ⟨db, K, e1, e2, e3, e4⟩
  have s6 := h6.size
  refine ⟨db, e1, F, _, (thR _ _ _).below h1 e4, ⟨G, K, (thR _ _ _).below h2 e4, e2, fun k hk g => ?_, rfl⟩, fun k hk g => ?_, h4, fun k hk => ?_, h6.trans (e4.mono h6.size), fun k g => g.elim⟩
  · have := (thR _ _ _).lt h2 k hk
    have := e3 k g
    omega
  · rcases g with g | g
    · exact h3 k hk g
    · have := (thR _ _ _).lt h1 k hk
      have := e3 k g
      omega
  · rcases hk with g | g
    · exact h5 k g
    · have := e3 k g
      omega
theorem T3.stepsA {w0 : World} {D : Wd} {rb rb2 db : Nat} {r1 r2 r3 : Rn} {W : World} (h : T3 w0 D rb rb2 db r1 r2 r3 W) (N : Nat) (hN : r1.dn.length + N ≤ 500) :
    Calls Tryz.prog 14 #[.pointer (some ⟨rb, 0, none⟩), .int .i64 N] W fun e w' => e = .returned (.int .i64 (stpsR D N r1).1) ∧ T3 w0 D rb rb2 db (stpsR D N r1).2 r2 r3 w' :=
  (L2.callP h (thPr (thR _ _ _) (thD _ _ _)) (fun F hF => steps_any hF N hN)).mono fun e w' ⟨h1, h2, _⟩ => ⟨h1, h2⟩
theorem T3.stepsB {w0 : World} {D : Wd} {rb rb2 db : Nat} {r1 r2 r3 : Rn} {W : World} (h : T3 w0 D rb rb2 db r1 r2 r3 W) (N : Nat) (hN : r2.dn.length + N ≤ 500) :
    Calls Tryz.prog 14 #[.pointer (some ⟨rb2, 0, none⟩), .int .i64 N] W fun e w' => e = .returned (.int .i64 (stpsR D N r2).1) ∧ T3 w0 D rb rb2 db r1 (stpsR D N r2).2 r3 w' :=
  (L2.callQ' h (thR _ _ _) (fun F hF hk => Pr.left (thD _ _ _) hF (fun F1 h1 _ => steps_any h1 N hN))).mono fun e w' ⟨h1, h2, _⟩ => ⟨h1, h2⟩
theorem T3.stepsC {w0 : World} {D : Wd} {rb rb2 db : Nat} {r1 r2 r3 : Rn} {W : World} (h : T3 w0 D rb rb2 db r1 r2 r3 W) (hw : Ww w0 D) (N : Nat) (hN : r3.dn.length + N ≤ 500) :
    Calls Tryz.prog 15 #[.pointer (some ⟨db, 0, none⟩), .int .i64 N] W fun e w' => e = .returned (.int .i64 (stpsR D N r3).1) ∧ T3 w0 D rb rb2 db r1 r2 (stpsR D N r3).2 w' :=
  (L2.callQ' h (thR _ _ _) (fun F hF hk => Pr.right (thR _ _ _) hF (fun F1 h1 hs => dsteps_any hw h1 (fun k g => hk k (hs k g)) h.bel N hN))).mono fun e w' ⟨h1, h2, _⟩ => ⟨h1, h2⟩
theorem T3.seeB {w0 : World} {D : Wd} {rb rb2 db : Nat} {r1 r2 r3 : Rn} {W : World} (h : T3 w0 D rb rb2 db r1 r2 r3 W) : ∃ F, RunF rb2 D r2 W F := by
  obtain ⟨F, ⟨F1, F2, h1, h2, _⟩⟩ := L2.seeQ h
  exact ⟨F1, h1⟩
theorem T3.seeC {w0 : World} {D : Wd} {rb rb2 db : Nat} {r1 r2 r3 : Rn} {W : World} (h : T3 w0 D rb rb2 db r1 r2 r3 W) : ∃ F, DocF db D r3 W F := by
  obtain ⟨F, ⟨F1, F2, h1, h2, _⟩⟩ := L2.seeQ h
  exact ⟨F2, h2⟩
theorem T3.wl {w0 : World} {D : Wd} {rb rb2 db : Nat} {r1 r2 r3 : Rn} {W : World} (h : T3 w0 D rb rb2 db r1 r2 r3 W) : r1.wt.length ≤ 256 + 24 * r1.dn.length := by
  obtain ⟨F, ⟨lo, hi, D', fv, pv, pb, E, hR, _⟩⟩ := L2.seeP h
  exact hR.wl
theorem wait_rd {w : World} {rb : Nat} {D : Wd} {r : Rn} (h : ∃ F, RunF rb D r w F) (hl : r.dn.length ≤ 400) :
    Calls Tryz.prog 17 #[.pointer (some ⟨rb, 0, none⟩)] w fun e w' => ∃ a c, e = .returned (.slice a r.wt.length c) ∧ RdM w' a r.wt ∧ Below w.heap.size w w' := by
  obtain ⟨F, hF⟩ := h
  refine (waiting_any hF hl).mono fun e w' ⟨a, c, h1, h2⟩ => ?_
  obtain ⟨a2, c2, e2, h3⟩ := h2.rd
  simp at e2
  obtain ⟨rfl, rfl⟩ := e2
  exact ⟨a, c, h1, h3, h2.2⟩
theorem log_rd {w : World} {rb : Nat} {D : Wd} {r : Rn} (h : ∃ F, RunF rb D r w F) (f : Int) (hl : r.dn.length ≤ 5000) :
    Calls Tryz.prog 22 #[.pointer (some ⟨rb, 0, none⟩), .int .i64 f] w fun e w' => ∃ a c, e = .returned (.slice a (logR r f).length c) ∧ RdD w' a (logR r f) ∧ Below w.heap.size w w' := by
  obtain ⟨F, hF⟩ := h
  exact log_any hF f hl
theorem dlog_rd {w : World} {db : Nat} {D : Wd} {r : Rn} (h : ∃ F, DocF db D r w F) (f : Int) (hl : r.dn.length ≤ 5000) :
    Calls Tryz.prog 23 #[.pointer (some ⟨db, 0, none⟩), .int .i64 f] w fun e w' => ∃ a c, e = .returned (.slice a (logR r f).length c) ∧ RdD w' a (logR r f) ∧ Below w.heap.size w w' := by
  obtain ⟨F, hF⟩ := h
  exact dlog_any hF f hl
theorem stps_on {D : Wd} {n q d : Nat} {r0 r r' : Rn} (h : stpsR D n r0 = (n, r)) (hq : stpsR D q r = (d, r')) : stpsR D (n + d) r0 = (n + d, r') := by
  have h1 := stps_parts D n d r0
  have h2 := stps_same D q r
  rw [hq] at h2
  rw [h] at h1
  dsimp only at h1 h2
  rw [h2] at h1
  exact h1
end Go.Proofs.YtmfcbalhabcodaaGreat
