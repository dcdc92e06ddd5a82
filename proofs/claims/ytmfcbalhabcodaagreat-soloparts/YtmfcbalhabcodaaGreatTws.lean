/- Proved: two runs beside each other, as the statements use them; the document's Same at one list. -/
import Derived.Test.YtmfcbalhabcodaaGreatWt
import Derived.Deep.QuietTactic
import Derived.BigQuiet
namespace Go.Proofs.YtmfcbalhabcodaaGreat
open Go.RowKit Go.Shelf
set_option linter.unusedVariables false

set_option maxRecDepth 100000 in
set_option maxHeartbeats 400000 in
theorem sameD_yes (w : World) (a b : Option Addr) (c d : Nat) (l : List Dn) (ha : RdD w a l) (hb : RdD w b l) (hl : l.length ≤ 100000) :
    Calls Tryz.prog 21 #[.slice a l.length c, .slice b l.length d] w fun e w' => e = .returned (.bool true) ∧ Below w.heap.size w w' := by
  have mixed : Tryz.prog.follows .mixedOrders = true := by kernel_rfl
  have HA : Hid _ := ha
  have HB : Hid _ := hb
  clear ha hb
  go_enter Tryz.func21, Tryz.ntmps21
  go_wp2_with fail
  go_loopw [5] (fun s5 wr => ∃ k : Nat, k ≤ l.length ∧ s5 = .int .i64 k ∧ Below w.heap.size w wr) (fun s5 _ => l.length - (intOf s5).toNat)
  case atStart => exact ⟨0, Nat.zero_le _, rfl, Below.refl _ _⟩
  case round =>
    obtain ⟨k, hk, rfl, hbw⟩ := hrel
    by_cases hkl : k < l.length
    · have hk' : (k : Int) < (l.length : Int) := by omega
      obtain ⟨x, hx⟩ : ∃ x, nthD l k = x := ⟨_, rfl⟩
      obtain ⟨b1, o1, rfl, _, x0, x1, x2, x3, x4, x5, x6⟩ := (RdD.below HA.out hbw).cells hkl hx
      obtain ⟨b2, o2, rfl, _, y0, y1, y2, y3, y4, y5, y6⟩ := (RdD.below HB.out hbw).cells hkl hx
      clear hx
      go_wp2_with fail
      go_quiet (fail)
      go_wp2
      go_roundw
      case rel => exact ⟨k + 1, by omega, by go_num, hbw.trans (below_drewN _ _ _)⟩
      case measure => simp [intOf]; omega
    · obtain rfl : k = l.length := by omega
      go_wp2
      go_ret
      exact ⟨rfl, hbw⟩

/-- Two runs beside each other. -/
def Tw (w0 : World) (D D2 : Wd) (rb1 rb2 : Nat) (r1 r2 : Rn) (W : World) : Prop := L2 w0 W (fun _ => False) (RunF rb1 D r1) (RunF rb2 D2 r2)
theorem Tw.bel {w0 : World} {D D2 : Wd} {rb1 rb2 : Nat} {r1 r2 : Rn} {W : World} (h : Tw w0 D D2 rb1 rb2 r1 r2 W) : Below w0.heap.size w0 W := L2.bel h
theorem Tw.below {w0 : World} {D D2 : Wd} {rb1 rb2 : Nat} {r1 r2 : Rn} {W W' : World} (h : Tw w0 D D2 rb1 rb2 r1 r2 W) (hb : Below W.heap.size W W') : Tw w0 D D2 rb1 rb2 r1 r2 W' := L2.below h (thR _ _ _) (thR _ _ _) hb
theorem Tw.stepsA {w0 : World} {D D2 : Wd} {rb1 rb2 : Nat} {r1 r2 : Rn} {W : World} (h : Tw w0 D D2 rb1 rb2 r1 r2 W) (N : Nat) (hN : r1.dn.length + N ≤ 500) :
    Calls Tryz.prog 14 #[.pointer (some ⟨rb1, 0, none⟩), .int .i64 N] W fun e w' => e = .returned (.int .i64 (stpsR D N r1).1) ∧ Tw w0 D D2 rb1 rb2 (stpsR D N r1).2 r2 w' :=
  (L2.callP h (thR _ _ _) (fun F hF => steps_any hF N hN)).mono fun e w' ⟨h1, h2, _⟩ => ⟨h1, h2⟩
theorem Tw.stepsB {w0 : World} {D D2 : Wd} {rb1 rb2 : Nat} {r1 r2 : Rn} {W : World} (h : Tw w0 D D2 rb1 rb2 r1 r2 W) (N : Nat) (hN : r2.dn.length + N ≤ 500) :
    Calls Tryz.prog 14 #[.pointer (some ⟨rb2, 0, none⟩), .int .i64 N] W fun e w' => e = .returned (.int .i64 (stpsR D2 N r2).1) ∧ Tw w0 D D2 rb1 rb2 r1 (stpsR D2 N r2).2 w' :=
  (L2.callQ h (thR _ _ _) (fun F hF => steps_any hF N hN)).mono fun e w' ⟨h1, h2, _⟩ => ⟨h1, h2⟩
theorem Tw.newB {w0 W : World} {D D2 : Wd} {rb1 : Nat} {r1 : Rn} (h : Lv w0 rb1 D r1 W) (hw : Ww W D2) {N : Int} (hE : wldE D2 = (N, 0)) :
    Calls Tryz.prog 10 #[wv D2] W fun e w' => ∃ rb2, e = .returned (.tuple #[.pointer (some ⟨rb2, 0, none⟩), .int .i64 0]) ∧ Tw w0 D D2 rb1 rb2 r1 (newR D2) w' := by
  obtain ⟨F, h1, h2, h3⟩ := h
  exact (new_ok hw hE).mono fun e w' ⟨rb2, G, e1, e2, e3, e4⟩ => ⟨rb2, e1, L2.start (thR _ _ _) h1 h2 h3 e2 e3 e4⟩
theorem Tw.logA {w0 : World} {D D2 : Wd} {rb1 rb2 : Nat} {r1 r2 : Rn} {W : World} (h : Tw w0 D D2 rb1 rb2 r1 r2 W) (f : Int) (hl : r1.dn.length ≤ 5000) :
    Calls Tryz.prog 22 #[.pointer (some ⟨rb1, 0, none⟩), .int .i64 f] W fun e w' => ∃ a c, e = .returned (.slice a (logR r1 f).length c) ∧ RdD w' a (logR r1 f) ∧ Below W.heap.size W w' := by
  obtain ⟨F, hF⟩ := L2.seeP h
  exact log_any hF f hl
theorem Tw.logB {w0 : World} {D D2 : Wd} {rb1 rb2 : Nat} {r1 r2 : Rn} {W : World} (h : Tw w0 D D2 rb1 rb2 r1 r2 W) (f : Int) (hl : r2.dn.length ≤ 5000) :
    Calls Tryz.prog 22 #[.pointer (some ⟨rb2, 0, none⟩), .int .i64 f] W fun e w' => ∃ a c, e = .returned (.slice a (logR r2 f).length c) ∧ RdD w' a (logR r2 f) ∧ Below W.heap.size W w' := by
  obtain ⟨F, hF⟩ := L2.seeQ h
  exact log_any hF f hl
theorem Tw.stateA {w0 : World} {D D2 : Wd} {rb1 rb2 : Nat} {r1 r2 : Rn} {W : World} (h : Tw w0 D D2 rb1 rb2 r1 r2 W) (f : Int) :
    Calls Tryz.prog 19 #[.pointer (some ⟨rb1, 0, none⟩), .int .i64 f] W fun e w' => e = .returned (.int .i64 (staR r1 f)) ∧ w' = W := by
  obtain ⟨F, hF⟩ := L2.seeP h
  exact state_any hF f
theorem Tw.stateB {w0 : World} {D D2 : Wd} {rb1 rb2 : Nat} {r1 r2 : Rn} {W : World} (h : Tw w0 D D2 rb1 rb2 r1 r2 W) (f : Int) :
    Calls Tryz.prog 19 #[.pointer (some ⟨rb2, 0, none⟩), .int .i64 f] W fun e w' => e = .returned (.int .i64 (staR r2 f)) ∧ w' = W := by
  obtain ⟨F, hF⟩ := L2.seeQ h
  exact state_any hF f
theorem Tw.waitA {w0 : World} {D D2 : Wd} {rb1 rb2 : Nat} {r1 r2 : Rn} {W : World} (h : Tw w0 D D2 rb1 rb2 r1 r2 W) (hl : r1.dn.length ≤ 400) :
    Calls Tryz.prog 17 #[.pointer (some ⟨rb1, 0, none⟩)] W fun e w' => ∃ a c, e = .returned (.slice a r1.wt.length c) ∧ RdM w' a r1.wt ∧ Below W.heap.size W w' := by
  obtain ⟨F, hF⟩ := L2.seeP h
  refine (waiting_any hF hl).mono fun e w' ⟨a, c, h1, h2⟩ => ?_
  obtain ⟨a2, c2, e2, h3⟩ := h2.rd
  simp at e2
  obtain ⟨rfl, rfl⟩ := e2
  exact ⟨a, c, h1, h3, h2.2⟩
theorem Tw.waitB {w0 : World} {D D2 : Wd} {rb1 rb2 : Nat} {r1 r2 : Rn} {W : World} (h : Tw w0 D D2 rb1 rb2 r1 r2 W) (hl : r2.dn.length ≤ 400) :
    Calls Tryz.prog 17 #[.pointer (some ⟨rb2, 0, none⟩)] W fun e w' => ∃ a c, e = .returned (.slice a r2.wt.length c) ∧ RdM w' a r2.wt ∧ Below W.heap.size W w' := by
  obtain ⟨F, hF⟩ := L2.seeQ h
  refine (waiting_any hF hl).mono fun e w' ⟨a, c, h1, h2⟩ => ?_
  obtain ⟨a2, c2, e2, h3⟩ := h2.rd
  simp at e2
  obtain ⟨rfl, rfl⟩ := e2
  exact ⟨a, c, h1, h3, h2.2⟩
theorem Tw.wl {w0 : World} {D D2 : Wd} {rb1 rb2 : Nat} {r1 r2 : Rn} {W : World} (h : Tw w0 D D2 rb1 rb2 r1 r2 W) : r1.wt.length ≤ 256 + 24 * r1.dn.length := by
  obtain ⟨F, ⟨lo, hi, D', fv, pv, pb, E, hR, _⟩⟩ := L2.seeP h
  exact hR.wl
end Go.Proofs.YtmfcbalhabcodaaGreat
