/- Proved: the contract of the statements' shown. -/
import Derived.Test.YtkodjioofkdepaaFce
namespace Go.Proofs.Ytkodjioofkdepaa
open Go.RowKit Go.Shelf
set_option linter.unusedVariables false
set_option maxRecDepth 100000

theorem mwf_small {T b c d e g : Int} (h : (-9223372036854775808 ≤ T ∧ T < 9223372036854775808) ∧ (-9223372036854775808 ≤ b ∧ b < 9223372036854775808) ∧ (-9223372036854775808 ≤ c ∧ c < 9223372036854775808) ∧ (-9223372036854775808 ≤ d ∧ d < 9223372036854775808) ∧ (-9223372036854775808 ≤ e ∧ e < 9223372036854775808) ∧ (-9223372036854775808 ≤ g ∧ g < 9223372036854775808)) : Q.mwf ((T, b, c), d, e, g) := by
  unfold Q.mwf Q.kwf Q.i64
  simp only
  omega
set_option maxHeartbeats 4000000 in
theorem shown_any {PN : World → Wd → Nat → Nd → Nat → (Nat → Prop) → World → Prop} (face : Face PN) (w : World) :
    Calls Try.prog 5 #[] w fun e w' => e = .returned (.bool true) ∧ Below w.heap.size w w' := by
  have EC := echo_any w
  obtain ⟨s, hs⟩ : ∃ s, w.heap.size = s := ⟨_, rfl⟩
  obtain ⟨x0, hx0⟩ : ∃ x, nd0 (ecD s) 0 = x := ⟨_, rfl⟩
  obtain ⟨e1, g1⟩ := Eg.start s (t := 5) (by omega)
  rw [hx0] at e1 g1
  obtain ⟨x1, hx1⟩ : ∃ x, heN 3 0 x0 1 0 (am 5 0) = x := ⟨_, rfl⟩
  rw [hx1] at g1
  obtain ⟨e2, g2⟩ := g1.hear1 (a' := 6) ((6, 0, 0), 0, 0, 0) rfl (by decide) (by omega)
  obtain ⟨x2, hx2⟩ : ∃ x, heN 3 0 x1 1 2 ((6, 0, 0), 0, 0, 0) = x := ⟨_, rfl⟩
  rw [hx2] at g2
  obtain ⟨e3, g3⟩ := g2.hear2 (b' := 6) ((6, 0, 0), 0, 0, 0) rfl (by decide) (by omega)
  obtain ⟨x3, hx3⟩ : ∃ x, heN 3 0 x2 2 2 ((6, 0, 0), 0, 0, 0) = x := ⟨_, rfl⟩
  rw [hx3] at g3
  have s1 : safe (ecD s) 0 x1 = false := by rw [g1.safe s (by omega)]; decide
  have s3 : safe (ecD s) 0 x3 = true := by rw [g3.safe s (by omega)]; decide
  obtain ⟨sm, sl⟩ := g3.step s (by omega) (by omega)
  have hsn : x3.sn ≤ 900000 := by rw [g3.sn]; omega
  have hlg : x3.lg.length ≤ 10000 := by rw [g3.lg]; simp
  have HN : Hid (∀ W, Ww W (ecD s) → Below s w W → Calls Try.prog 6 #[wv (ecD s), .int .i64 0] W fun en w' => ∃ nb F, en = .returned (.tuple #[.pointer (some ⟨nb, 0, none⟩), .int .i64 0]) ∧ Ec PN w W s x0 nb F w') := fun W hw hb => by
    rw [← hx0]; exact Ec.new face hw (by rw [hs]; exact hb)
  have H1 : Hid (∀ W0 W nb F, Ec PN w W0 s x0 nb F W → Calls Try.prog 9 #[.pointer (some ⟨nb, 0, none⟩), .int .i64 1, .agg #[.int .i64 0, .int .i64 5, .int .i64 1, .int .i64 0, .int .i64 0, .int .i64 0, .int .i64 0, .int .i64 0]] W fun en w' => ∃ F2, en = .returned (.int .i64 0) ∧ Ec PN w W0 s x1 nb F2 w') := fun W0 W nb F h => by
    have := h.hear face 1 0 0 5 1 0 0 0 0 (by decide) (mwf_small (by omega))
    rw [show (((5 : Int), (1 : Int), (0 : Int)), (0 : Int), (0 : Int), (0 : Int)) = am 5 0 from rfl, e1, hx1] at this
    exact this
  have H2 : Hid (∀ W0 W nb F, Ec PN w W0 s x1 nb F W → Calls Try.prog 9 #[.pointer (some ⟨nb, 0, none⟩), .int .i64 1, .agg #[.int .i64 2, .int .i64 6, .int .i64 0, .int .i64 0, .int .i64 0, .int .i64 0, .int .i64 0, .int .i64 0]] W fun en w' => ∃ F2, en = .returned (.int .i64 0) ∧ Ec PN w W0 s x2 nb F2 w') := fun W0 W nb F h => by
    have := h.hear face 1 2 0 6 0 0 0 0 0 (by decide) (mwf_small (by omega))
    rw [e2, hx2] at this
    exact this
  have H3 : Hid (∀ W0 W nb F, Ec PN w W0 s x2 nb F W → Calls Try.prog 9 #[.pointer (some ⟨nb, 0, none⟩), .int .i64 2, .agg #[.int .i64 2, .int .i64 6, .int .i64 0, .int .i64 0, .int .i64 0, .int .i64 0, .int .i64 0, .int .i64 0]] W fun en w' => ∃ F2, en = .returned (.int .i64 0) ∧ Ec PN w W0 s x3 nb F2 w') := fun W0 W nb F h => by
    have := h.hear face 2 2 0 6 0 0 0 0 0 (by decide) (mwf_small (by omega))
    rw [e3, hx3] at this
    exact this
  have HF : Hid (∀ W0 W nb F, Ec PN w W0 s x1 nb F W → Calls Try.prog 14 #[.pointer (some ⟨nb, 0, none⟩)] W fun en w' => en = .returned (.bool false) ∧ Ec PN w W0 s x1 nb F w') := fun W0 W nb F h => by
    have := h.safe face
    rw [s1] at this
    exact this
  obtain ⟨x4, hx4⟩ : ∃ x, spN (ecD s) 0 x3 = x := ⟨_, rfl⟩
  rw [hx4] at sl
  obtain ⟨dd, hdd⟩ : ∃ d, spD (ecD s) 0 x3 = d := ⟨_, rfl⟩
  have HT : Hid (∀ W0 W nb F, Ec PN w W0 s x3 nb F W → Calls Try.prog 10 #[.pointer (some ⟨nb, 0, none⟩)] W fun en w' => ∃ b vc F2, en = .returned (.tuple #[.agg #[.int .i64 dd.m.t, .int .i64 dd.m.fr, .int .i64 dd.m.sq, .int .i64 dd.m.dst, .int .i64 dd.m.cl, .int .i64 dd.m.bd, .int .i64 dd.s], .slice (some ⟨b, 0, none⟩) 1 vc, .int .i64 0]) ∧ Hid (b < w'.heap.size ∧ w'.cell? ⟨b, 0, none⟩ = some (.int .i64 7)) ∧ Ec PN w W0 s x4 nb F2 w') := fun W0 W nb F h => by
    have := h.step face s3 hsn hlg
    rw [sm, hx4, hdd] at this
    refine this.mono fun en w' ⟨va, vc, F2, he, hr, hp⟩ => ?_
    obtain ⟨b, rfl, hb, hc⟩ := hr 0 (by simp)
    exact ⟨b, vc, F2, he, ⟨hb, hc 0 (by omega)⟩, hp⟩
  have HL : Hid (∀ W0 W nb F, Ec PN w W0 s x4 nb F W → Calls Try.prog 11 #[.pointer (some ⟨nb, 0, none⟩)] W fun en w' => ∃ a c, en = .returned (.slice a 1 c) ∧ Ec PN w W0 s x4 nb F w') := fun W0 W nb F h => by
    have := h.log face (by rw [sl]; omega)
    rw [sl] at this
    exact this.mono fun en w' ⟨a, c, he, _, hp⟩ => ⟨a, c, he, hp⟩
  have HO : Hid (∀ {W0 W nb F} {x : Nd}, Ec PN w W0 s x nb F W → ∀ W2, Below W.heap.size W W2 → Ec PN w W0 s x nb F W2) := fun h W2 hb => h.on face hb
  have HBL : Hid (∀ {W0 W nb F} {x : Nd}, Ec PN w W0 s x nb F W → Below s w W) := fun h => by have := h.bel face; rw [hs] at this; exact this
  rw [hs] at EC ⊢
  clear e1 g1 e2 g2 e3 g3 s1 s3 sm sl hsn hlg hx0 hx1 hx2 hx3 hx4 hdd face
  go_enter Try.func5, Try.ntmps5
  go_wp2_with (first
    | (go_at_call 7; refine EC.mono ?_; rintro e w1 ⟨rfl, hw, hb⟩; have HW1 : Hid _ := And.intro hw hb; clear hw hb EC)
    | (go_at_call 6; refine (Hid.out HN _ (Hid.out HW1).1 (Hid.out HW1).2).mono ?_; rintro e w2 ⟨nb, F, rfl, h2⟩; have HE : Hid _ := h2; clear h2 HN)
    | (go_at_call 9; refine (Hid.out H1 _ _ _ _ (Hid.out HE)).mono ?_; rintro e w3 ⟨F1, rfl, h3⟩; have HE3 : Hid _ := h3; clear h3 H1)
    | (go_at_call 14; refine (Hid.out HF _ _ _ _ (Hid.out HE3)).mono ?_; rintro e w4 ⟨rfl, h4⟩; have HE4 : Hid _ := h4; clear h4 HF))
  go_wp2_with (go_at_call 9; first
    | (refine (Hid.out H2 _ _ _ _ (Hid.out HE4)).mono ?_; rintro e w5 ⟨F2, rfl, h5⟩; have HE5 : Hid _ := h5; clear h5 H2)
    | (refine (Hid.out H3 _ _ _ _ (Hid.out HE5)).mono ?_; rintro e w6 ⟨F3, rfl, h6⟩; have HE6 : Hid _ := h6; clear h6 H3))
  go_wp2_with (first
    | (go_at_call 10; refine (Hid.out HT _ _ _ _ (Hid.out HE6)).mono ?_; rintro e w7 ⟨b, vc, F4, rfl, hk, h7⟩; have HE7 : Hid _ := h7; obtain ⟨hbl, k7⟩ := Hid.out hk; clear h7 hk HT)
    | (go_at_call 11; refine (Hid.out HL _ _ _ _ (Hid.out HO (Hid.out HE7) _ (al w7 _))).mono ?_; rintro e w8 ⟨la, lc, rfl, h8⟩; have HE8 : Hid _ := h8; clear h8 HL))
  go_ret
  exact ⟨rfl, HBL.out HE8.out⟩
end Go.Proofs.Ytkodjioofkdepaa
