/- Proved: the walk of CmbOrder. -/
import Derived.Test.YtkodjioofkdepaaWPr
import Derived.Deep.RegionHeld3
import Derived.BigQuiet
namespace Go.Proofs.Ytkodjioofkdepaa
open Go.RowKit Go.Shelf
set_option linter.unusedVariables false
set_option maxRecDepth 100000

theorem Po.bound {PN : World → Wd → Nat → Nd → Nat → (Nat → Prop) → World → Prop} (face : Face PN) {w w0 : World} {s i : Nat} {x : Nd} {nb : Nat} {F : Nat → Prop} {W : World} (h : Po PN w w0 s i x nb F W) : ∃ cb, W.cell? ⟨nb, 0, none⟩ = some (.pointer (some ⟨cb, 0, none⟩)) ∧
    Calls Try.prog 8 #[.pointer (some ⟨cb, 0, none⟩)] W fun en w' => en = .returned (.int .i64 (C.bnd 3 0 x.c)) ∧ Below W.heap.size W w' ∧ Po PN w w0 s i x nb F w' := by
  obtain ⟨cb, h1, h2⟩ := face.bound h.ec.pn
  rw [ecD_n] at h2
  exact ⟨cb, h1, h2.mono fun en w' ⟨he, hb⟩ => ⟨he, hb, h.on face hb⟩⟩
theorem Po.hearF {PN : World → Wd → Nat → Nd → Nat → (Nat → Prop) → World → Prop} (face : Face PN) {w w0 : World} {s i : Nat} {x : Nd} {nb : Nat} {F : Nat → Prop} {W : World} (h : Po PN w w0 s i x nb F W) (fr k co T b c d e g : Int) (h1 : wfI fr) (h2 : Q.mwf ((T, b, c), d, e, g)) :
    Calls Try.prog 9 #[.pointer (some ⟨nb, 0, none⟩), .int .i64 fr, .agg #[.int .i64 k, .int .i64 T, .int .i64 b, .int .i64 c, .int .i64 d, .int .i64 e, .int .i64 g, .int .i64 co]] W fun en w' => ∃ F2 x2, en = .returned (.int .i64 (heE 3 0 x fr k ((T, b, c), d, e, g))) ∧ Fr F W w' ∧ Po PN w w0 s (i + 1) x2 nb F2 w' := by
  have := face.hear h.ec.pn fr k co T b c d e g h1 h2
  rw [ecD_n] at this
  refine this.mono ?_
  rintro en w' ⟨F2, he, hp, hs⟩
  exact ⟨F2, _, he, hs.1, h.heard ⟨hp, h.ec.b⟩⟩
theorem Po.stepI {PN : World → Wd → Nat → Nd → Nat → (Nat → Prop) → World → Prop} (face : Face PN) {w w0 : World} {s i : Nat} {x : Nd} {nb : Nat} {F : Nat → Prop} {W : World} (h : Po PN w w0 s i x nb F W) (hs : safe (ecD s) 0 x = false) :
    Calls Try.prog 10 #[.pointer (some ⟨nb, 0, none⟩)] W fun en w' => en = .returned (.tuple #[.agg #[.int .i64 0, .int .i64 0, .int .i64 0, .int .i64 0, .int .i64 0, .int .i64 0, .int .i64 0], .slice none 0 0, .int .i64 150]) ∧ Po PN w w0 s (i + 1) x nb F w' := by
  refine (h.ec.idle face hs).mono ?_
  rintro en w' ⟨he, hp⟩
  exact ⟨he, (⟨hp, h.st, h.sn, h.lg, h.od, h.td⟩ : Po PN w w0 s i x nb F w').more⟩
theorem Po.stepG {PN : World → Wd → Nat → Nd → Nat → (Nat → Prop) → World → Prop} (face : Face PN) {w w0 : World} {s i : Nat} {x : Nd} {nb : Nat} {F : Nat → Prop} {W : World} (h : Po PN w w0 s i x nb F W) (hs : safe (ecD s) 0 x = true) (hi : i ≤ 200) :
    Calls Try.prog 10 #[.pointer (some ⟨nb, 0, none⟩)] W fun en w' => ∃ (t0 t1 t2 t3 t4 t5 t6 : Int) (va : Option Addr) (n vc : Nat) (F2 : Nat → Prop) (x2 : Nd), en = .returned (.tuple #[.agg #[.int .i64 t0, .int .i64 t1, .int .i64 t2, .int .i64 t3, .int .i64 t4, .int .i64 t5, .int .i64 t6], .slice va n vc, .int .i64 0]) ∧ t0 < C.bnd 3 0 x.c ∧ t0 < 100 ∧ Po PN w w0 s (i + 1) x2 nb F2 w' := by
  refine (h.ec.step face hs (by have := h.sn; omega) (by have := h.lg; omega)).mono ?_
  rintro en w' ⟨va, vc, F2, he, hr, hp⟩
  obtain ⟨m, r, hq, g1, g2, g3⟩ := safe_parts hs
  have hd0 : (spD (ecD s) 0 x).m.t = m.1.1 := by unfold spD; rw [g3]; rfl
  exact ⟨_, _, _, _, _, _, _, va, _, vc, F2, spN (ecD s) 0 x, he, by rw [hd0]; exact g2, by rw [hd0]; exact g1, h.stepped hs hp⟩
theorem ord_nth {l : List Dn} (h : l.Pairwise (fun a b => Q.klt (dk a) (dk b) = true)) {i : Nat} (hi : i + 1 < l.length) : Q.kcmp (dk (nthD l i)) (dk (nthD l (i + 1))) < 0 := by
  rw [Q.kcmp_neg]
  have h1 := (List.pairwise_iff_getElem.1 h) i (i + 1) (by omega) hi (by omega)
  have e1 : nthD l i = l[i] := by unfold nthD; simp [show i < l.length by omega]
  have e2 : nthD l (i + 1) = l[i + 1] := by unfold nthD; simp [hi]
  rw [e1, e2]
  exact h1

set_option maxHeartbeats 8000000 in
theorem order_walk {PN : World → Wd → Nat → Nd → Nat → (Nat → Prop) → World → Prop} (face : Face PN) (w : World) (sa : Option Addr) (sc : Nat) (z : List Oq) (hn : z.length ≤ maxLen) (hz : RdQ w sa z) :
    Calls Try.prog 3 #[.slice sa z.length sc] w fun e w' => e = .returned (.bool true) ∧ Below w.heap.size w w' := by
  have SH := shown_any face w
  unfold maxLen at hn
  by_cases hlong : 100 < z.length
  · have hl' : (100 : Int) < (z.length : Int) := by omega
    clear hz
    go_enter Try.func3, Try.ntmps3
    go_wp2_with (go_at_call 5; refine SH.mono ?_; rintro e w1 ⟨rfl, hb⟩; have HB : Hid _ := hb; clear hb SH)
    go_ret
    exact ⟨rfl, HB.out⟩
  have hz2 : z.length ≤ 100 := by omega
  have hl' : ¬ (100 : Int) < (z.length : Int) := by omega
  have HZ : Hid (RdQ w sa z) := hz
  have HEC : Hid (∀ w1, Below w.heap.size w w1 → Calls Try.prog 7 #[] w1 fun e w' => ∃ s, e = .returned (wv (ecD s)) ∧ Ww w' (ecD s) ∧ Below w.heap.size w w') := fun w1 b1 => (echo_any w1).mono fun e w' ⟨he, hw, hb⟩ => ⟨_, he, hw, b1.trans (hb.mono b1.size)⟩
  have HN : Hid (∀ W s, Ww W (ecD s) → Below w.heap.size w W → Calls Try.prog 6 #[wv (ecD s), .int .i64 0] W fun en w' => ∃ nb F, en = .returned (.tuple #[.pointer (some ⟨nb, 0, none⟩), .int .i64 0]) ∧ Po PN w W s 0 (nd0 (ecD s) 0) nb F w') := fun W s hw hb => (Ec.new face hw hb).mono fun en w' ⟨nb, F, he, hp⟩ => ⟨nb, F, he, Po.start hp⟩
  have HO : Hid (∀ {W0 W s i nb F} {x : Nd}, Po PN w W0 s i x nb F W → ∀ W2, Below W.heap.size W W2 → Po PN w W0 s i x nb F W2) := fun h W2 hb => h.on face hb
  have HBL : Hid (∀ {W0 W s i nb F} {x : Nd}, Po PN w W0 s i x nb F W → Below w.heap.size w W) := fun h => h.ec.bel face
  have HFC : Hid (Face PN) := face
  clear hz hlong face
  go_enter Try.func3, Try.ntmps3
  go_wp2_with (first
    | (go_at_call 5; refine SH.mono ?_; rintro e w1 ⟨rfl, hb⟩; have HB : Hid _ := hb; clear hb SH)
    | (go_at_call 7; refine (Hid.out HEC _ (Hid.out HB)).mono ?_; rintro e w2 ⟨s, rfl, hw, hb⟩; have HW2 : Hid _ := And.intro hw hb; clear hw hb HEC)
    | (go_at_call 6; refine (Hid.out HN _ _ (Hid.out HW2).1 (Hid.out HW2).2).mono ?_; rintro e w3 ⟨nb, F, rfl, h2⟩; have HE : Hid _ := h2; clear h2 HN))
  go_loopw [5] (fun s5 wr => ∃ (i : Nat) (x : Nd) (F : Nat → Prop), s5 = .int .i64 i ∧ i ≤ z.length ∧ Hid (Po PN w w2 s i x nb F wr)) (fun s5 _ => z.length - (intOf s5).toNat)
  case atStart => exact ⟨0, _, F, rfl, Nat.zero_le _, HE.out⟩
  case round =>
    clear HE
    obtain ⟨i, x, FX, rfl, hi, HT⟩ := hrel
    by_cases hlt : i < z.length
    · have hlt' : (i : Int) < (z.length : Int) := by omega
      obtain ⟨k, fr, ik, T, b, c, d, e, g, co, xb, off, rfl, hwf, hmw, hcs⟩ := rdQ_cells HZ.out hlt
      obtain ⟨c0, c1, c2, c3, c4, c5, c6, c7, c8, c9⟩ := hcs _ (HBL.out HT.out)
      clear hcs
      obtain ⟨W1, hW1⟩ : ∃ W1, wr.alloc (.cells #[.int .i64 k, .int .i64 fr, .int .i64 ik, .int .i64 T, .int .i64 b, .int .i64 c, .int .i64 d, .int .i64 e, .int .i64 g, .int .i64 co] 40) = W1 := ⟨_, rfl⟩
      obtain ⟨A, hA⟩ : ∃ A, wr.heap.size = A := ⟨_, rfl⟩
      have hb1 : Below wr.heap.size wr W1 := by rw [← hW1]; exact al _ _
      have bx1 : W1.heap[A]? = some (.cells #[.int .i64 k, .int .i64 fr, .int .i64 ik, .int .i64 T, .int .i64 b, .int .i64 c, .int .i64 d, .int .i64 e, .int .i64 g, .int .i64 co] 40 (0, 0)) := by rw [← hW1, ← hA]; exact (MapKept.heap_alloc _ _).1
      have lA : A < W1.heap.size := (Array.getElem?_eq_some_iff.1 bx1).1
      obtain ⟨cb, hcb, HBD⟩ := Po.bound HFC.out (HO.out HT.out W1 hb1)
      obtain ⟨Bd, hBd⟩ : ∃ Bd, C.bnd 3 0 x.c = Bd := ⟨_, rfl⟩
      rw [hBd] at HBD
      have HBX : Hid (∀ W, Below W1.heap.size W1 W → W.cell? ⟨A, 0, none⟩ = some (.int .i64 k) ∧ W.cell? ⟨A, 1, none⟩ = some (.int .i64 fr) ∧ W.cell? ⟨A, 2, none⟩ = some (.int .i64 ik) ∧ W.cell? ⟨A, 3, none⟩ = some (.int .i64 T) ∧ W.cell? ⟨A, 4, none⟩ = some (.int .i64 b) ∧ W.cell? ⟨A, 5, none⟩ = some (.int .i64 c) ∧ W.cell? ⟨A, 6, none⟩ = some (.int .i64 d) ∧ W.cell? ⟨A, 7, none⟩ = some (.int .i64 e) ∧ W.cell? ⟨A, 8, none⟩ = some (.int .i64 g) ∧ W.cell? ⟨A, 9, none⟩ = some (.int .i64 co)) := fun W hW => by
        have q := (hW.block A lA).trans bx1
        exact ⟨cellN q 0, cellN q 1, cellN q 2, cellN q 3, cellN q 4, cellN q 5, cellN q 6, cellN q 7, cellN q 8, cellN q 9⟩
      have HBD2 : Hid _ := hBd
      have nFA : Hid (¬ FX A) := fun g => by have := HFC.out.lt HT.out.ec.pn A g; omega
      clear hb1 bx1 HT hBd
      by_cases k0 : k = 0
      · have dk0 : (k == 0) = true := by simpa using k0
        clear k0
        obtain ⟨E, hE⟩ : ∃ E, heE 3 0 x fr ik ((T, b, c), d, e, g) = E := ⟨_, rfl⟩
        have HLT : Hid (E = 0 → ik = 0 → ¬ T < Bd) := fun e0 i0 => by
          rw [← hE, i0] at e0
          have h1 := heN_late e0
          have h2 := HBD2.out
          have h3 : C.bnd 3 0 x.c ≤ T := h1
          omega
        have HH : Hid (∀ W, Po PN w w2 s i x nb FX W → Calls Try.prog 9 #[.pointer (some ⟨nb, 0, none⟩), .int .i64 fr, .agg #[.int .i64 ik, .int .i64 T, .int .i64 b, .int .i64 c, .int .i64 d, .int .i64 e, .int .i64 g, .int .i64 co]] W fun en w' => ∃ F2 x2, en = .returned (.int .i64 E) ∧ Fr FX W w' ∧ Po PN w w2 s (i + 1) x2 nb F2 w') := fun W h => by
          have := h.hearF HFC.out fr ik co T b c d e g hwf hmw
          rw [hE] at this
          exact this
        have HAX : Hid (∀ W W', Below W1.heap.size W1 W → Fr FX W W' → W'.cell? ⟨A, 2, none⟩ = some (.int .i64 ik) ∧ W'.cell? ⟨A, 3, none⟩ = some (.int .i64 T)) := fun W W' hW hF => by
          obtain ⟨u0, u1, u2, u3, _⟩ := HBX.out W hW
          have lW : A < W.heap.size := Nat.lt_of_lt_of_le lA hW.size
          exact ⟨(hF.cell (p := ⟨A, 2, none⟩) lW nFA.out).trans u2, (hF.cell (p := ⟨A, 3, none⟩) lW nFA.out).trans u3⟩
        clear hE
        by_cases e0 : E = 0
        · by_cases i0 : ik = 0
          · have dE : (E == 0) = true := by simpa using e0
            have di : (ik == 0) = true := by simpa using i0
            have hnt := HLT.out e0 i0
            clear e0 i0
            go_wp2_with (first
              | (go_at_call 8; refine HBD.mono ?_; rintro en w4 ⟨rfl, b4, h4⟩; have HE4 : Hid _ := And.intro h4 b4; obtain ⟨u0, u1, u2, u3, u4, u5, u6, u7, u8, u9⟩ := HBX.out _ b4; clear h4 b4 HBD)
              | (go_at_call 9; refine (Hid.out HH _ (Hid.out HE4).1).mono ?_; rintro en w5 ⟨F2, x2, rfl, f5, h5⟩; have HE5 : Hid _ := h5; obtain ⟨v2, v3⟩ := Hid.out HAX _ _ (Hid.out HE4).2 f5; clear h5 f5 HH))
            go_roundw
            case rel => exact ⟨i + 1, x2, F2, by go_num, by omega, HE5.out⟩
            case measure => simp [intOf]; omega
          · have dE : (E == 0) = true := by simpa using e0
            have di : (ik == 0) = false := by simpa using i0
            clear e0 i0 HLT
            go_wp2_with (first
              | (go_at_call 8; refine HBD.mono ?_; rintro en w4 ⟨rfl, b4, h4⟩; have HE4 : Hid _ := And.intro h4 b4; obtain ⟨u0, u1, u2, u3, u4, u5, u6, u7, u8, u9⟩ := HBX.out _ b4; clear h4 b4 HBD)
              | (go_at_call 9; refine (Hid.out HH _ (Hid.out HE4).1).mono ?_; rintro en w5 ⟨F2, x2, rfl, f5, h5⟩; have HE5 : Hid _ := h5; obtain ⟨v2, v3⟩ := Hid.out HAX _ _ (Hid.out HE4).2 f5; clear h5 f5 HH))
            go_roundw
            case rel => exact ⟨i + 1, x2, F2, by go_num, by omega, HE5.out⟩
            case measure => simp [intOf]; omega
        · have dE : (E == 0) = false := by simpa using e0
          clear e0 HLT
          go_wp2_with (first
            | (go_at_call 8; refine HBD.mono ?_; rintro en w4 ⟨rfl, b4, h4⟩; have HE4 : Hid _ := And.intro h4 b4; obtain ⟨u0, u1, u2, u3, u4, u5, u6, u7, u8, u9⟩ := HBX.out _ b4; clear h4 b4 HBD)
            | (go_at_call 9; refine (Hid.out HH _ (Hid.out HE4).1).mono ?_; rintro en w5 ⟨F2, x2, rfl, f5, h5⟩; have HE5 : Hid _ := h5; obtain ⟨v2, v3⟩ := Hid.out HAX _ _ (Hid.out HE4).2 f5; clear h5 f5 HH))
          go_roundw
          case rel => exact ⟨i + 1, x2, F2, by go_num, by omega, HE5.out⟩
          case measure => simp [intOf]; omega
      · have dk0 : (k == 0) = false := by simpa using k0
        by_cases k1 : k = 1
        · have dk1 : (k == 1) = true := by simpa using k1
          clear k0 k1
          cases hs : safe (ecD s) 0 x
          · have HH : Hid (∀ W, Po PN w w2 s i x nb FX W → Calls Try.prog 10 #[.pointer (some ⟨nb, 0, none⟩)] W fun en w' => en = .returned (.tuple #[.agg #[.int .i64 0, .int .i64 0, .int .i64 0, .int .i64 0, .int .i64 0, .int .i64 0, .int .i64 0], .slice none 0 0, .int .i64 150]) ∧ Po PN w w2 s (i + 1) x nb FX w') := fun W h => h.stepI HFC.out hs
            clear hs
            go_wp2_with (first
              | (go_at_call 8; refine HBD.mono ?_; rintro en w4 ⟨rfl, b4, h4⟩; have HE4 : Hid _ := h4; obtain ⟨u0, u1, u2, u3, u4, u5, u6, u7, u8, u9⟩ := HBX.out _ b4; clear h4 b4 HBD)
              | (go_at_call 10; refine (Hid.out HH _ (Hid.out HE4)).mono ?_; rintro en w5 ⟨rfl, h5⟩; have HE5 : Hid _ := h5; clear h5 HH))
            go_roundw
            case rel => exact ⟨i + 1, x, FX, by go_num, by omega, HO.out HE5.out _ (al w5 _)⟩
            case measure => simp [intOf]; omega
          · have HH : Hid (∀ W, Po PN w w2 s i x nb FX W → Calls Try.prog 10 #[.pointer (some ⟨nb, 0, none⟩)] W fun en w' => ∃ (t0 t1 t2 t3 t4 t5 t6 : Int) (va : Option Addr) (n vc : Nat) (F2 : Nat → Prop) (x2 : Nd), en = .returned (.tuple #[.agg #[.int .i64 t0, .int .i64 t1, .int .i64 t2, .int .i64 t3, .int .i64 t4, .int .i64 t5, .int .i64 t6], .slice va n vc, .int .i64 0]) ∧ (¬ Bd ≤ t0 ∧ ¬ (100 : Int) ≤ t0) ∧ Po PN w w2 s (i + 1) x2 nb F2 w') := fun W h => by
              refine (h.stepG HFC.out hs (by omega)).mono ?_
              rintro en w' ⟨t0, t1, t2, t3, t4, t5, t6, va, n, vc, F2, x2, he, g1, g2, g3⟩
              have h2 := HBD2.out
              exact ⟨t0, t1, t2, t3, t4, t5, t6, va, n, vc, F2, x2, he, ⟨by omega, by omega⟩, g3⟩
            clear hs
            go_wp2_with (first
              | (go_at_call 8; refine HBD.mono ?_; rintro en w4 ⟨rfl, b4, h4⟩; have HE4 : Hid _ := h4; obtain ⟨u0, u1, u2, u3, u4, u5, u6, u7, u8, u9⟩ := HBX.out _ b4; clear h4 b4 HBD)
              | fail)
            refine (Hid.out HH _ (Hid.out HE4)).mono ?_
            rintro en w5 ⟨t0, t1, t2, t3, t4, t5, t6, va, n, vc, F2, x2, rfl, ⟨g1, g2⟩, h5⟩
            have HE5 : Hid _ := h5
            have g3 : decide (Bd ≤ t0) = false := decide_eq_false (by omega)
            have g4 : decide ((100 : Int) ≤ t0) = false := decide_eq_false (by omega)
            clear h5 HH
            go_wp2_with fail
            go_roundw
            case rel => exact ⟨i + 1, x2, F2, by go_num, by omega, HO.out HE5.out _ (al w5 _)⟩
            case measure => simp [intOf]; omega
        · have dk1 : (k == 1) = false := by simpa using k1
          clear k0 k1
          go_wp2_with (go_at_call 8; refine HBD.mono ?_; rintro en w4 ⟨rfl, b4, h4⟩; have HE4 : Hid _ := h4; obtain ⟨u0, u1, u2, u3, u4, u5, u6, u7, u8, u9⟩ := HBX.out _ b4; clear h4 b4 HBD)
          go_roundw
          case rel => exact ⟨i + 1, x, FX, by go_num, by omega, HE4.out.more⟩
          case measure => simp [intOf]; omega
    · obtain rfl : i = z.length := by omega
      have HLG : Hid (Calls Try.prog 11 #[.pointer (some ⟨nb, 0, none⟩)] wr fun en w' => ∃ a c, en = .returned (.slice a x.lg.length c) ∧ RdD w' a x.lg ∧ Below w.heap.size w w') := by
        refine (HT.out.ec.log HFC.out (by have := HT.out.lg; omega)).mono ?_
        rintro en w' ⟨a, c, he, hr, hp⟩
        exact ⟨a, c, he, hr, hp.bel HFC.out⟩
      obtain ⟨L, hL⟩ : ∃ L, x.lg = L := ⟨_, rfl⟩
      rw [hL] at HLG
      have HOD : Hid (∀ j, j + 1 < L.length → Q.kcmp (dk (nthD L j)) (dk (nthD L (j + 1))) < 0) := fun j hj => by
        have := HT.out.od.lg
        rw [hL] at this
        exact ord_nth this hj
      have hLn : L.length ≤ 100 := by have := HT.out.lg; rw [hL] at this; omega
      clear hL HT
      go_wp2_with (go_at_call 11; refine (Hid.out HLG).mono ?_; rintro en w4 ⟨la, lc, rfl, hrd, hb4⟩; have HR4 : Hid (RdD w4 la L) := hrd; have HB4 : Hid _ := hb4; clear hrd hb4 HLG)
      obtain ⟨n, hn2⟩ : ∃ n, L.length = n := ⟨_, rfl⟩
      try simp only [hn2]
      have HN2 : Hid _ := hn2
      rw [hn2] at hLn
      clear hn2
      go_loopw [13] (fun s13 wq => ∃ j : Nat, 1 ≤ j ∧ j ≤ n + 1 ∧ s13 = .int .i64 (j : Int) ∧ Hid (Below w4.heap.size w4 wq)) (fun s13 _ => n + 1 - (intOf s13).toNat)
      case atStart => exact ⟨1, by omega, by omega, rfl, Below.refl _ _⟩
      case round =>
        obtain ⟨J, hJ1, hJn, rfl, HQ⟩ := hrel
        by_cases hjn : J < n
        · obtain ⟨j, hjJ⟩ : ∃ j, J = j + 1 := ⟨J - 1, by omega⟩
          have HJJ : Hid _ := hjJ
          have hj' : (J : Int) < (n : Int) := by omega
          have hj1 : (J : Int) - 1 = (j : Int) := by omega
          have hw1 : IntKind.i64.wrap ((J : Int) - 1) = (j : Int) := by rw [IntKind.wrap_i64]; omega
          have hw2 : IntKind.i64.wrap (j : Int) = (j : Int) := by rw [IntKind.wrap_i64]; omega
          have hj4 : (0 : Int) ≤ (J : Int) := by omega
          have hj5 : (0 : Int) ≤ (j : Int) := by omega
          have hj3 : (j : Int) < (n : Int) := by omega
          obtain ⟨p, hp⟩ : ∃ p, nthD L j = p := ⟨_, rfl⟩
          obtain ⟨q, hq⟩ : ∃ q, nthD L J = q := ⟨_, rfl⟩
          have hrd := HR4.out.below HQ.out
          obtain ⟨bb, oo, rfl, lbb, a0, a1, a2, _⟩ := hrd.cells (by rw [HN2.out]; omega) hp
          obtain ⟨bb2, oo2, e2, _, d0, d1, d2, _⟩ := hrd.cells (by rw [HN2.out]; exact hjn) hq
          cases e2
          have hk := HOD.out j (by rw [HN2.out]; omega)
          rw [← hjJ, hp, hq] at hk
          clear hjJ
          have CM := fun W => Q.refcmp_any (dk p) (dk q) W
          obtain ⟨E, hE⟩ : ∃ E, Q.kcmp (dk p) (dk q) = E := ⟨_, rfl⟩
          rw [hE] at hk
          have HCM : Hid (∀ W, Calls Try.prog 12 #[.agg #[.int .i64 p.m.t, .int .i64 p.m.fr, .int .i64 p.m.sq], .agg #[.int .i64 q.m.t, .int .i64 q.m.fr, .int .i64 q.m.sq]] W fun e w' => e = .returned (.int .i64 E) ∧ Below W.heap.size W w') := fun W => by
            have := CM W
            rw [hE] at this
            exact this
          have hnk : ¬ (0 : Int) ≤ E := by omega
          obtain ⟨WQ, hWQ⟩ : ∃ WQ, WQ = wr := ⟨_, rfl⟩
          subst hWQ
          have HKP : Hid (∀ W, Below WQ.heap.size WQ W → W.cell? ⟨bb, oo + j * 7, none⟩ = some (.int .i64 p.m.t) ∧ W.cell? ⟨bb, oo + j * 7 + 1, none⟩ = some (.int .i64 p.m.fr) ∧ W.cell? ⟨bb, oo + j * 7 + 2, none⟩ = some (.int .i64 p.m.sq) ∧ W.cell? ⟨bb, oo + J * 7, none⟩ = some (.int .i64 q.m.t) ∧ W.cell? ⟨bb, oo + J * 7 + 1, none⟩ = some (.int .i64 q.m.fr) ∧ W.cell? ⟨bb, oo + J * 7 + 2, none⟩ = some (.int .i64 q.m.sq)) := fun W hW =>
            ⟨(hW.cell (p := ⟨bb, oo + j * 7, none⟩) lbb).trans a0, (hW.cell (p := ⟨bb, oo + j * 7 + 1, none⟩) lbb).trans a1, (hW.cell (p := ⟨bb, oo + j * 7 + 2, none⟩) lbb).trans a2, (hW.cell (p := ⟨bb, oo + J * 7, none⟩) lbb).trans d0, (hW.cell (p := ⟨bb, oo + J * 7 + 1, none⟩) lbb).trans d1, (hW.cell (p := ⟨bb, oo + J * 7 + 2, none⟩) lbb).trans d2⟩
          clear CM hE hrd hp hq
          go_wp2_with fail
          go_region_held3 (fun w' => w'.cell? ⟨bb, oo + j * 7, none⟩ = some (.int .i64 p.m.t) ∧ w'.cell? ⟨bb, oo + j * 7 + 1, none⟩ = some (.int .i64 p.m.fr) ∧ w'.cell? ⟨bb, oo + j * 7 + 2, none⟩ = some (.int .i64 p.m.sq) ∧ w'.cell? ⟨bb, oo + J * 7, none⟩ = some (.int .i64 q.m.t) ∧ w'.cell? ⟨bb, oo + J * 7 + 1, none⟩ = some (.int .i64 q.m.fr) ∧ w'.cell? ⟨bb, oo + J * 7 + 2, none⟩ = some (.int .i64 q.m.sq)) (first | (go_keep; done) | exact Hid.out KEEP) (first
            | (go_at_call 12; refine (Hid.out HCM _).mono ?_; rintro en w6 ⟨rfl, b6⟩; have hb6 := (below_drew WQ).trans b6; have HB6 : Hid _ := hb6; have KEEP : Hid _ := Hid.out HKP _ hb6; clear b6 hb6 HCM))
          go_wp2
          go_roundw
          case rel => exact ⟨J + 1, by omega, by omega, by go_num, HQ.out.trans (HB6.out.mono HQ.out.size)⟩
          case measure => simp [intOf]; omega
        · have hj' : ¬ (J : Int) < (n : Int) := by omega
          go_wp2_with fail
          go_ret
          exact ⟨rfl, HB4.out.trans (HQ.out.mono HB4.out.size)⟩
end Go.Proofs.Ytkodjioofkdepaa
