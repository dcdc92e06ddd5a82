/- Proved: the walk of CmbEdge. -/
import Derived.Test.YtadmojehemdoaaaGreatShw
namespace Go.Proofs.YtadmojehemdoaaaGreat
open Go.RowKit Go.Shelf
set_option linter.unusedVariables false
set_option maxRecDepth 100000

theorem okT_small {t : Int} (h0 : 0 ≤ t) (h1 : t ≤ 255) : C.okT t = true := by unfold C.okT; simp; omega
theorem InB.cell {w : World} {a : Option Addr} {z : List Int} (h : InB w a z) {i : Nat} (hi : i < z.length) : ∃ v b off, 0 ≤ v ∧ v ≤ 255 ∧ a = some ⟨b, off, none⟩ ∧ ∀ W, Below w.heap.size w W → W.cell? ⟨b, off + i, none⟩ = some (.int .u8 v) := by
  obtain ⟨b, off, rfl, hb, hc⟩ := h.2 (by intro e; rw [e] at hi; simp at hi)
  have := h.1 i hi
  exact ⟨nthI z i, b, off, this.1, this.2, rfl, fun W hw => (hw.cell (p := ⟨b, off + i, none⟩) hb).trans (hc i hi)⟩
set_option maxHeartbeats 8000000 in
theorem edge_walk {PN : World → Wd → Nat → Nd → Nat → (Nat → Prop) → World → Prop} (face : FaceW PN) (w : World) (t : Int) (ht0 : 0 ≤ t) (ht : t ≤ 255) (sa : Option Addr) (sc : Nat) (z : List Int) (hz : InB w sa z) :
    Calls Tryz.prog 6 #[.int .u8 t, .slice sa z.length sc] w fun e w' => e = .returned (.bool true) ∧ Below w.heap.size w w' := by
  have SH := shown_any face.toFace w
  by_cases hlong : 60 < z.length
  · have hl' : (60 : Int) < (z.length : Int) := by omega
    clear hz
    go_enter Tryz.func6, Tryz.ntmps6
    go_wp2_with (go_at_call 8; refine SH.mono ?_; rintro e w1 ⟨rfl, hb⟩; have HB : Hid _ := hb; clear hb SH)
    go_ret
    exact ⟨rfl, HB.out⟩
  have hz2 : z.length ≤ 60 := by omega
  have hl' : ¬ (60 : Int) < (z.length : Int) := by omega
  have HZ : Hid (∀ i, i < z.length → ∃ v b off, 0 ≤ v ∧ v ≤ 255 ∧ sa = some ⟨b, off, none⟩ ∧ ∀ W, Below w.heap.size w W → W.cell? ⟨b, off + i, none⟩ = some (.int .u8 v)) := fun i hi => hz.cell hi
  have HST : Hid (∀ s, heE 3 0 (nd0 (ecD s) 0) 1 0 (am t 0) = 0 ∧ Eg t 0 0 (heN 3 0 (nd0 (ecD s) 0) 1 0 (am t 0))) := fun s => Eg.start s ht0
  have HEC : Hid (∀ w1, Below w.heap.size w w1 → Calls Tryz.prog 29 #[] w1 fun e w' => ∃ s, e = .returned (wv (ecD s)) ∧ Ww w' (ecD s) ∧ Below w.heap.size w w') := fun w1 b1 => (echo_any w1).mono fun e w' ⟨he, hw, hb⟩ => ⟨_, he, hw, b1.trans (hb.mono b1.size)⟩
  have HN : Hid (∀ W s, Ww W (ecD s) → Below w.heap.size w W → Calls Tryz.prog 9 #[wv (ecD s), .int .i64 0] W fun en w' => ∃ nb F, en = .returned (.tuple #[.pointer (some ⟨nb, 0, none⟩), .int .i64 0]) ∧ Ec PN w W s (nd0 (ecD s) 0) nb F w') := fun W s hw hb => Ec.new face.toFace hw hb
  have H1 : Hid (∀ W0 W s nb F, Ec PN w W0 s (nd0 (ecD s) 0) nb F W → Calls Tryz.prog 11 #[.pointer (some ⟨nb, 0, none⟩), .int .i64 1, .agg #[.int .i64 0, .int .i64 t, .int .i64 1, .int .i64 0, .int .i64 0, .int .i64 0, .int .i64 0, .int .i64 0]] W fun en w' => ∃ F2 x, en = .returned (.int .i64 0) ∧ Eg t 0 0 x ∧ Ec PN w W0 s x nb F2 w') := fun W0 W s nb F h => by
    obtain ⟨q1, q2⟩ := HST.out s
    have := h.hear face.toFace 1 0 0 t 1 0 0 0 0 (by decide) (mwf_small (by omega))
    rw [show ((t, (1 : Int), (0 : Int)), (0 : Int), (0 : Int), (0 : Int)) = am t 0 from rfl, q1] at this
    exact this.mono fun en w' ⟨F2, he, hp⟩ => ⟨F2, _, he, q2, hp⟩
  have H2 : Hid (∀ {W0 W s nb F x a b} (a' : Int), Eg t a b x → 0 ≤ a' → a' ≤ 255 → a ≤ a' → Ec PN w W0 s x nb F W → Calls Tryz.prog 11 #[.pointer (some ⟨nb, 0, none⟩), .int .i64 1, .agg #[.int .i64 2, .int .i64 a', .int .i64 0, .int .i64 0, .int .i64 0, .int .i64 0, .int .i64 0, .int .i64 0]] W fun en w' => ∃ F2 x, en = .returned (.int .i64 0) ∧ Eg t a' b x ∧ Ec PN w W0 s x nb F2 w') := fun {W0 W s nb F x a b} a' g h0 h1 h2 h => by
    obtain ⟨q1, q2⟩ := g.hear1 ((a', 0, 0), 0, 0, 0) rfl (okT_small h0 h1) h2
    have := h.hear face.toFace 1 2 0 a' 0 0 0 0 0 (by decide) (mwf_small (by omega))
    rw [q1] at this
    exact this.mono fun en w' ⟨F2, he, hp⟩ => ⟨F2, _, he, q2, hp⟩
  have H3 : Hid (∀ {W0 W s nb F x a b} (b' : Int), Eg t a b x → 0 ≤ b' → b' ≤ 255 → b ≤ b' → Ec PN w W0 s x nb F W → Calls Tryz.prog 11 #[.pointer (some ⟨nb, 0, none⟩), .int .i64 2, .agg #[.int .i64 2, .int .i64 b', .int .i64 0, .int .i64 0, .int .i64 0, .int .i64 0, .int .i64 0, .int .i64 0]] W fun en w' => ∃ F2 x, en = .returned (.int .i64 0) ∧ Eg t a b' x ∧ Ec PN w W0 s x nb F2 w') := fun {W0 W s nb F x a b} b' g h0 h1 h2 h => by
    obtain ⟨q1, q2⟩ := g.hear2 ((b', 0, 0), 0, 0, 0) rfl (okT_small h0 h1) h2
    have := h.hear face.toFace 2 2 0 b' 0 0 0 0 0 (by decide) (mwf_small (by omega))
    rw [q1] at this
    exact this.mono fun en w' ⟨F2, he, hp⟩ => ⟨F2, _, he, q2, hp⟩
  have HF : Hid (∀ {W0 W s nb F x a b}, Eg t a b x → a ≤ 255 → Ec PN w W0 s x nb F W → Calls Tryz.prog 18 #[.pointer (some ⟨nb, 0, none⟩)] W fun en w' => en = .returned (.bool (decide (t < min a b) && decide (t < 100))) ∧ Ec PN w W0 s x nb F w') := fun {W0 W s nb F x a b} g ha h => by
    have := h.safe face.toFace
    rw [g.safe s (by omega)] at this
    exact this
  have HBD : Hid (∀ {W0 W s nb F x a b}, Eg t a b x → a ≤ 255 → Ec PN w W0 s x nb F W → ∃ cb, W.cell? ⟨nb, 0, none⟩ = some (.pointer (some ⟨cb, 0, none⟩)) ∧ Hid (Calls Tryz.prog 22 #[.pointer (some ⟨cb, 0, none⟩)] W fun en w' => en = .returned (.int .i64 (min a b)) ∧ Ec PN w W0 s x nb F w')) := fun {W0 W s nb F x a b} g ha h => by
    obtain ⟨cb, h1, h2⟩ := h.bound face.toFace
    rw [g.bnd (by omega)] at h2
    exact ⟨cb, h1, h2⟩
  have HI : Hid (∀ {W0 W s nb F x a b}, Eg t a b x → a ≤ 255 → (decide (t < min a b) && decide (t < 100)) = false → Ec PN w W0 s x nb F W → Calls Tryz.prog 13 #[.pointer (some ⟨nb, 0, none⟩)] W fun en w' => en = .returned (.tuple #[.agg #[.int .i64 0, .int .i64 0, .int .i64 0, .int .i64 0, .int .i64 0, .int .i64 0, .int .i64 0], .slice none 0 0, .int .i64 150]) ∧ Ec PN w W0 s x nb F w') := fun {W0 W s nb F x a b} g ha hf h => h.idle face.toFace (by rw [g.safe s (by omega)]; exact hf)
  have HL : Hid (∀ {W0 W s nb F x a b}, Eg t a b x → Ec PN w W0 s x nb F W → Calls Tryz.prog 27 #[.pointer (some ⟨nb, 0, none⟩)] W fun en w' => ∃ la lc, en = .returned (.slice la 0 lc) ∧ Ec PN w W0 s x nb F w') := fun {W0 W s nb F x a b} g h => by
    have := h.log face.toFace (by rw [g.lg]; simp)
    rw [g.lg] at this
    exact this.mono fun en w' ⟨la, lc, he, _, hp⟩ => ⟨la, lc, he, hp⟩
  have HWT : Hid (∀ {W0 W s nb F x a b}, Eg t a b x → Ec PN w W0 s x nb F W → Calls Tryz.prog 24 #[.pointer (some ⟨nb, 0, none⟩)] W fun en w' => ∃ la lc, en = .returned (.slice la 1 lc) ∧ Below w.heap.size w w') := fun {W0 W s nb F x a b} g h => by
    have := face.waiting h.pn
    rw [g.q] at this
    exact this.mono fun en w' ⟨la, lc, he, _, _, hb⟩ => ⟨la, lc, he, (h.bel face.toFace).trans (hb.mono (h.bel face.toFace).size)⟩
  have HO : Hid (∀ {W0 W s nb F} {x : Nd}, Ec PN w W0 s x nb F W → ∀ W2, Below W.heap.size W W2 → Ec PN w W0 s x nb F W2) := fun h W2 hb => h.on face.toFace hb
  have HBL : Hid (∀ {W0 W s nb F} {x : Nd}, Ec PN w W0 s x nb F W → Below w.heap.size w W) := fun h => h.bel face.toFace
  clear hz hlong HST face
  have htI : (255 : Int) ≥ t := ht
  go_enter Tryz.func6, Tryz.ntmps6
  go_wp2_with (first
    | (go_at_call 8; refine SH.mono ?_; rintro e w1 ⟨rfl, hb⟩; have HB : Hid _ := hb; clear hb SH)
    | (go_at_call 29; refine (Hid.out HEC _ (Hid.out HB)).mono ?_; rintro e w2 ⟨s, rfl, hw, hb⟩; have HW2 : Hid _ := And.intro hw hb; clear hw hb HEC)
    | (go_at_call 9; refine (Hid.out HN _ _ (Hid.out HW2).1 (Hid.out HW2).2).mono ?_; rintro e w3 ⟨nb, F, rfl, h2⟩; have HE : Hid _ := h2; clear h2 HN)
    | (go_at_call 11; refine (Hid.out H1 _ _ _ _ _ (Hid.out HE)).mono ?_; rintro e w4 ⟨F1, x1, rfl, g1, h3⟩; have HE4 : Hid _ := And.intro g1 h3; clear g1 h3 H1))
  go_loopw [7, 8, 9] (fun s7 s8 s9 wr => ∃ (i : Nat) (a b : Int) (x : Nd) (F : Nat → Prop), s7 = .int .i64 a ∧ s8 = .int .i64 b ∧ s9 = .int .i64 i ∧ i ≤ z.length ∧ 0 ≤ a ∧ a ≤ 255 ∧ 0 ≤ b ∧ b ≤ 255 ∧ Hid (Eg t a b x ∧ Ec PN w w2 s x nb F wr)) (fun _ _ s9 _ => z.length - (intOf s9).toNat)
  case atStart => exact ⟨0, 0, 0, x1, F1, rfl, rfl, rfl, Nat.zero_le _, by omega, by omega, by omega, by omega, HE4.out⟩
  case round =>
    obtain ⟨i, a, b, x, FX, rfl, rfl, rfl, hi, ha0, ha1, hb0, hb1, HX⟩ := hrel
    by_cases hlt : i < z.length
    · have hlt' : (i : Int) < (z.length : Int) := by omega
      obtain ⟨v, xb, off, v0, v1, rfl, hcs⟩ := HZ.out i hlt
      have hcv := hcs _ (HBL.out HX.out.2)
      clear hcs
      by_cases hp : i % 2 = 0
      · have dp : ((i : Int) % 2 == 0) = true := by simp; omega
        obtain ⟨a2, ha2⟩ : ∃ a2, max a v = a2 := ⟨_, rfl⟩
        have n0 : 0 ≤ a2 := by omega
        have n1 : a2 ≤ 255 := by omega
        have n2 : a ≤ a2 := by omega
        have hA := n1
        clear hp
        by_cases c1 : t < min a2 b
        · by_cases c2 : t < 100
          · have DS : Hid ((decide (t < min a2 b) && decide (t < 100)) = true) := by show _ = _; rw [decide_eq_true c1, decide_eq_true c2]; rfl
            have HFs : Hid (∀ {W0 W s nb F x}, Eg t a2 b x → Ec PN w W0 s x nb F W → Calls Tryz.prog 18 #[.pointer (some ⟨nb, 0, none⟩)] W fun en w' => en = .returned (.bool true) ∧ Ec PN w W0 s x nb F w') := fun g h => by have := HF.out g hA h; rw [DS.out] at this; exact this
            clear HF
            go_wp2_with (first
              | (go_at_call 11; refine (Hid.out H2 _ (Hid.out HX).1 n0 n1 n2 (Hid.out HX).2).mono ?_; rintro e w5 ⟨F2, x2, rfl, g5, h5⟩; have HE5 : Hid _ := And.intro g5 h5; clear g5 h5 H2)
              | (go_at_call 18; refine (Hid.out HFs (Hid.out HE5).1 (Hid.out HE5).2).mono ?_; rintro e w6 ⟨rfl, h6⟩; obtain ⟨cb, hcb, HBc⟩ := Hid.out HBD (Hid.out HE5).1 hA h6; have HE6 : Hid _ := And.intro (Hid.out HE5).1 h6; clear h6 HFs)
              | (go_at_call 22; refine (Hid.out HBc).mono ?_; rintro e w7 ⟨rfl, h7⟩; have HE7 : Hid _ := And.intro (Hid.out HE6).1 h7; clear h7 HBc hcb))
            go_roundw
            case rel => exact ⟨i + 1, a2, b, x2, F2, rfl, rfl, by go_num, by omega, n0, n1, hb0, hb1, And.intro HE7.out.1 HE7.out.2⟩
            case measure => simp [intOf]; omega
          · have DS : Hid ((decide (t < min a2 b) && decide (t < 100)) = false) := by show _ = _; rw [decide_eq_false c2]; exact Bool.and_false _
            have dn : (!decide (t < 100)) = true := by simp; omega
            have HFs : Hid (∀ {W0 W s nb F x}, Eg t a2 b x → Ec PN w W0 s x nb F W → Calls Tryz.prog 18 #[.pointer (some ⟨nb, 0, none⟩)] W fun en w' => en = .returned (.bool false) ∧ Ec PN w W0 s x nb F w') := fun g h => by have := HF.out g hA h; rw [DS.out] at this; exact this
            clear HF
            go_wp2_with (first
              | (go_at_call 11; refine (Hid.out H2 _ (Hid.out HX).1 n0 n1 n2 (Hid.out HX).2).mono ?_; rintro e w5 ⟨F2, x2, rfl, g5, h5⟩; have HE5 : Hid _ := And.intro g5 h5; clear g5 h5 H2)
              | (go_at_call 18; refine (Hid.out HFs (Hid.out HE5).1 (Hid.out HE5).2).mono ?_; rintro e w6 ⟨rfl, h6⟩; obtain ⟨cb, hcb, HBc⟩ := Hid.out HBD (Hid.out HE5).1 hA h6; have HE6 : Hid _ := And.intro (Hid.out HE5).1 h6; clear h6 HFs)
              | (go_at_call 22; refine (Hid.out HBc).mono ?_; rintro e w7 ⟨rfl, h7⟩; have HE7 : Hid _ := And.intro (Hid.out HE6).1 h7; clear h7 HBc hcb)
              | (go_at_call 13; refine (Hid.out HI (Hid.out HE7).1 hA (Hid.out DS) (Hid.out HE7).2).mono ?_; rintro e w8 ⟨rfl, h8⟩; have HE8 : Hid _ := And.intro (Hid.out HE7).1 h8; clear h8))
            go_roundw
            case rel => exact ⟨i + 1, a2, b, x2, F2, rfl, rfl, by go_num, by omega, n0, n1, hb0, hb1, And.intro HE8.out.1 (Hid.out HO HE8.out.2 _ (al w8 _))⟩
            case measure => simp [intOf]; omega
        · have DS : Hid ((decide (t < min a2 b) && decide (t < 100)) = false) := by show _ = _; rw [decide_eq_false c1]; rfl
          have HFs : Hid (∀ {W0 W s nb F x}, Eg t a2 b x → Ec PN w W0 s x nb F W → Calls Tryz.prog 18 #[.pointer (some ⟨nb, 0, none⟩)] W fun en w' => en = .returned (.bool false) ∧ Ec PN w W0 s x nb F w') := fun g h => by have := HF.out g hA h; rw [DS.out] at this; exact this
          clear HF
          go_wp2_with (first
          | (go_at_call 11; refine (Hid.out H2 _ (Hid.out HX).1 n0 n1 n2 (Hid.out HX).2).mono ?_; rintro e w5 ⟨F2, x2, rfl, g5, h5⟩; have HE5 : Hid _ := And.intro g5 h5; clear g5 h5 H2)
          | (go_at_call 18; refine (Hid.out HFs (Hid.out HE5).1 (Hid.out HE5).2).mono ?_; rintro e w6 ⟨rfl, h6⟩; obtain ⟨cb, hcb, HBc⟩ := Hid.out HBD (Hid.out HE5).1 hA h6; have HE6 : Hid _ := And.intro (Hid.out HE5).1 h6; clear h6 HFs)
          | (go_at_call 22; refine (Hid.out HBc).mono ?_; rintro e w7 ⟨rfl, h7⟩; have HE7 : Hid _ := And.intro (Hid.out HE6).1 h7; clear h7 HBc hcb)
          | (go_at_call 13; refine (Hid.out HI (Hid.out HE7).1 hA (Hid.out DS) (Hid.out HE7).2).mono ?_; rintro e w8 ⟨rfl, h8⟩; have HE8 : Hid _ := And.intro (Hid.out HE7).1 h8; clear h8))
          go_roundw
          case rel => exact ⟨i + 1, a2, b, x2, F2, rfl, rfl, by go_num, by omega, n0, n1, hb0, hb1, And.intro HE8.out.1 (Hid.out HO HE8.out.2 _ (al w8 _))⟩
          case measure => simp [intOf]; omega
      · have dp : ((i : Int) % 2 == 0) = false := by simp; omega
        obtain ⟨b2, hb2⟩ : ∃ b2, max b v = b2 := ⟨_, rfl⟩
        have n0 : 0 ≤ b2 := by omega
        have n1 : b2 ≤ 255 := by omega
        have n2 : b ≤ b2 := by omega
        have hA := ha1
        clear hp
        by_cases c1 : t < min a b2
        · by_cases c2 : t < 100
          · have DS : Hid ((decide (t < min a b2) && decide (t < 100)) = true) := by show _ = _; rw [decide_eq_true c1, decide_eq_true c2]; rfl
            have HFs : Hid (∀ {W0 W s nb F x}, Eg t a b2 x → Ec PN w W0 s x nb F W → Calls Tryz.prog 18 #[.pointer (some ⟨nb, 0, none⟩)] W fun en w' => en = .returned (.bool true) ∧ Ec PN w W0 s x nb F w') := fun g h => by have := HF.out g hA h; rw [DS.out] at this; exact this
            clear HF
            go_wp2_with (first
              | (go_at_call 11; refine (Hid.out H3 _ (Hid.out HX).1 n0 n1 n2 (Hid.out HX).2).mono ?_; rintro e w5 ⟨F2, x2, rfl, g5, h5⟩; have HE5 : Hid _ := And.intro g5 h5; clear g5 h5 H3)
              | (go_at_call 18; refine (Hid.out HFs (Hid.out HE5).1 (Hid.out HE5).2).mono ?_; rintro e w6 ⟨rfl, h6⟩; obtain ⟨cb, hcb, HBc⟩ := Hid.out HBD (Hid.out HE5).1 hA h6; have HE6 : Hid _ := And.intro (Hid.out HE5).1 h6; clear h6 HFs)
              | (go_at_call 22; refine (Hid.out HBc).mono ?_; rintro e w7 ⟨rfl, h7⟩; have HE7 : Hid _ := And.intro (Hid.out HE6).1 h7; clear h7 HBc hcb))
            go_roundw
            case rel => exact ⟨i + 1, a, b2, x2, F2, rfl, rfl, by go_num, by omega, ha0, ha1, n0, n1, And.intro HE7.out.1 HE7.out.2⟩
            case measure => simp [intOf]; omega
          · have DS : Hid ((decide (t < min a b2) && decide (t < 100)) = false) := by show _ = _; rw [decide_eq_false c2]; exact Bool.and_false _
            have dn : (!decide (t < 100)) = true := by simp; omega
            have HFs : Hid (∀ {W0 W s nb F x}, Eg t a b2 x → Ec PN w W0 s x nb F W → Calls Tryz.prog 18 #[.pointer (some ⟨nb, 0, none⟩)] W fun en w' => en = .returned (.bool false) ∧ Ec PN w W0 s x nb F w') := fun g h => by have := HF.out g hA h; rw [DS.out] at this; exact this
            clear HF
            go_wp2_with (first
              | (go_at_call 11; refine (Hid.out H3 _ (Hid.out HX).1 n0 n1 n2 (Hid.out HX).2).mono ?_; rintro e w5 ⟨F2, x2, rfl, g5, h5⟩; have HE5 : Hid _ := And.intro g5 h5; clear g5 h5 H3)
              | (go_at_call 18; refine (Hid.out HFs (Hid.out HE5).1 (Hid.out HE5).2).mono ?_; rintro e w6 ⟨rfl, h6⟩; obtain ⟨cb, hcb, HBc⟩ := Hid.out HBD (Hid.out HE5).1 hA h6; have HE6 : Hid _ := And.intro (Hid.out HE5).1 h6; clear h6 HFs)
              | (go_at_call 22; refine (Hid.out HBc).mono ?_; rintro e w7 ⟨rfl, h7⟩; have HE7 : Hid _ := And.intro (Hid.out HE6).1 h7; clear h7 HBc hcb)
              | (go_at_call 13; refine (Hid.out HI (Hid.out HE7).1 hA (Hid.out DS) (Hid.out HE7).2).mono ?_; rintro e w8 ⟨rfl, h8⟩; have HE8 : Hid _ := And.intro (Hid.out HE7).1 h8; clear h8))
            go_roundw
            case rel => exact ⟨i + 1, a, b2, x2, F2, rfl, rfl, by go_num, by omega, ha0, ha1, n0, n1, And.intro HE8.out.1 (Hid.out HO HE8.out.2 _ (al w8 _))⟩
            case measure => simp [intOf]; omega
        · have DS : Hid ((decide (t < min a b2) && decide (t < 100)) = false) := by show _ = _; rw [decide_eq_false c1]; rfl
          have HFs : Hid (∀ {W0 W s nb F x}, Eg t a b2 x → Ec PN w W0 s x nb F W → Calls Tryz.prog 18 #[.pointer (some ⟨nb, 0, none⟩)] W fun en w' => en = .returned (.bool false) ∧ Ec PN w W0 s x nb F w') := fun g h => by have := HF.out g hA h; rw [DS.out] at this; exact this
          clear HF
          go_wp2_with (first
          | (go_at_call 11; refine (Hid.out H3 _ (Hid.out HX).1 n0 n1 n2 (Hid.out HX).2).mono ?_; rintro e w5 ⟨F2, x2, rfl, g5, h5⟩; have HE5 : Hid _ := And.intro g5 h5; clear g5 h5 H3)
          | (go_at_call 18; refine (Hid.out HFs (Hid.out HE5).1 (Hid.out HE5).2).mono ?_; rintro e w6 ⟨rfl, h6⟩; obtain ⟨cb, hcb, HBc⟩ := Hid.out HBD (Hid.out HE5).1 hA h6; have HE6 : Hid _ := And.intro (Hid.out HE5).1 h6; clear h6 HFs)
          | (go_at_call 22; refine (Hid.out HBc).mono ?_; rintro e w7 ⟨rfl, h7⟩; have HE7 : Hid _ := And.intro (Hid.out HE6).1 h7; clear h7 HBc hcb)
          | (go_at_call 13; refine (Hid.out HI (Hid.out HE7).1 hA (Hid.out DS) (Hid.out HE7).2).mono ?_; rintro e w8 ⟨rfl, h8⟩; have HE8 : Hid _ := And.intro (Hid.out HE7).1 h8; clear h8))
          go_roundw
          case rel => exact ⟨i + 1, a, b2, x2, F2, rfl, rfl, by go_num, by omega, ha0, ha1, n0, n1, And.intro HE8.out.1 (Hid.out HO HE8.out.2 _ (al w8 _))⟩
          case measure => simp [intOf]; omega
    · obtain rfl : i = z.length := by omega
      go_wp2_with (first
        | (go_at_call 27; refine (Hid.out HL (Hid.out HX).1 (Hid.out HX).2).mono ?_; rintro e w9 ⟨la, lc, rfl, h9⟩; have HE9 : Hid _ := h9; clear h9 HL)
        | (go_at_call 24; refine (Hid.out HWT (Hid.out HX).1 (Hid.out HE9)).mono ?_; rintro e w10 ⟨lb, ld, rfl, h10⟩; have HE10 : Hid _ := h10; clear h10 HWT))
      go_ret
      exact ⟨rfl, HE10.out⟩
end Go.Proofs.YtadmojehemdoaaaGreat
