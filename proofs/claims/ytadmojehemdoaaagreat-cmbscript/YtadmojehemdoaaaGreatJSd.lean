/- Joined: the texts that follow, each with its own sentence. -/
import Derived.Test.YtadmojehemdoaaaGreatWRe
/- Proved: the walk of CmbScript, where there is a node. -/
namespace Go.Proofs.YtadmojehemdoaaaGreat
open Go.RowKit Go.Shelf
set_option linter.unusedVariables false
set_option maxRecDepth 100000

theorem sub_behind {F : Nat → Prop} {w W : World} (hb : Below w.heap.size w W) (hF : ∀ k, F k → w.heap.size ≤ k) : Sub w (mask (fun k => @decide (F k) (Classical.propDecidable (F k))) W) := by
  refine ⟨by rw [mask_size]; exact hb.size, fun p v e => ?_⟩
  have hl := clt e
  rw [mask_cell_of (dB_no.2 (fun g => by have := hF _ g; omega))]
  exact (hb.cell hl).trans e
/-- Two nodes that are alike; how far they can have come. -/
structure T3 (PN : World → Wd → Nat → Nd → Nat → (Nat → Prop) → World → Prop) (w wp : World) (D : Wd) (f i : Nat) (x : Nd) (nb mb : Nat) (F H : Nat → Prop) (W : World) : Prop where
  tw : Tw PN w wp D D f x x nb mb F H W
  sn : x.sn ≤ 20 + 20 * (i : Int)
  lg : x.lg.length ≤ i
  ql : x.q.length ≤ 64
theorem T3.heard {PN : World → Wd → Nat → Nd → Nat → (Nat → Prop) → World → Prop} {w wp : World} {D : Wd} {f i : Nat} {x : Nd} {nb mb : Nat} {F H F2 H2 : Nat → Prop} {W W2 : World} (h : T3 PN w wp D f i x nb mb F H W) {fr k : Int} {m : Q.M} (ht : Tw PN w wp D D f (heN D.fs.length f x fr k m) (heN D.fs.length f x fr k m) nb mb F2 H2 W2) : T3 PN w wp D f (i + 1) (heN D.fs.length f x fr k m) nb mb F2 H2 W2 := by
  obtain ⟨q1, q2, q3, q4⟩ := he_st D.fs.length f x fr k m
  exact ⟨ht, by rw [q2]; have := h.sn; omega, by rw [q3]; have := h.lg; omega, heN_ql h.ql⟩
theorem T3.told {PN : World → Wd → Nat → Nd → Nat → (Nat → Prop) → World → Prop} {w wp : World} {D : Wd} {f i : Nat} {x : Nd} {nb mb : Nat} {F H F2 H2 : Nat → Prop} {W W2 : World} (h : T3 PN w wp D f i x nb mb F H W) (ht : Tw PN w wp D D f (teN D f x) (teN D f x) nb mb F2 H2 W2) : T3 PN w wp D f (i + 1) (teN D f x) nb mb F2 H2 W2 :=
  ⟨ht, by have := h.sn; show x.sn ≤ _; omega, by have := h.lg; show x.lg.length ≤ _; omega, h.ql⟩
theorem T3.stepped {PN : World → Wd → Nat → Nd → Nat → (Nat → Prop) → World → Prop} {w wp : World} {D : Wd} {f i : Nat} {x : Nd} {nb mb : Nat} {F H F2 H2 : Nat → Prop} {W W2 : World} (h : T3 PN w wp D f i x nb mb F H W) (hD : Lt (nthF D.fs f).rs) (ht : Tw PN w wp D D f (spN D f x) (spN D f x) nb mb F2 H2 W2) : T3 PN w wp D f (i + 1) (spN D f x) nb mb F2 H2 W2 := by
  refine ⟨ht, ?_, ?_, ?_⟩
  · have h1 : (spS D f x).2.length ≤ 20 := stp_len hD _ _
    have h2 := h.sn
    show x.sn + ((spS D f x).2.length : Int) ≤ _
    omega
  · show (x.lg ++ [spD D f x]).length ≤ i + 1
    have := h.lg
    simp; omega
  · show x.q.tail.length ≤ 64
    have := h.ql
    simp; omega
theorem T3.same {PN : World → Wd → Nat → Nd → Nat → (Nat → Prop) → World → Prop} {w wp : World} {D : Wd} {f i : Nat} {x : Nd} {nb mb : Nat} {F H F2 H2 : Nat → Prop} {W W2 : World} (h : T3 PN w wp D f i x nb mb F H W) (ht : Tw PN w wp D D f x x nb mb F2 H2 W2) : T3 PN w wp D f (i + 1) x nb mb F2 H2 W2 := ⟨ht, by have := h.sn; omega, by have := h.lg; omega, h.ql⟩
theorem Tw.pboundH {PN : World → Wd → Nat → Nd → Nat → (Nat → Prop) → World → Prop} (face : Face PN) {w wp : World} {D1 D2 : Wd} {f : Nat} {x y : Nd} {nb mb : Nat} {F H : Nat → Prop} {W : World} (h : Tw PN w wp D1 D2 f x y nb mb F H W) : ∃ cb, W.cell? ⟨nb, 0, none⟩ = some (.pointer (some ⟨cb, 0, none⟩)) ∧
    Hid (Calls Tryz.prog 22 #[.pointer (some ⟨cb, 0, none⟩)] W fun en w' => en = .returned (.int .i64 (C.bnd D1.fs.length f x.c)) ∧ Tw PN w wp D1 D2 f x y nb mb F H w' ∧ Below W.heap.size W w') := h.pbound face
set_option maxHeartbeats 8000000 in
theorem script_ok {PN : World → Wd → Nat → Nd → Nat → (Nat → Prop) → World → Prop} (face : FaceW PN) (w : World) (D : Wd) (hw : Ww w D) (hh : hvyW D = false) (hok : wldE D = (-1, 0)) (f : Nat) (hf : f < D.fs.length) (hkd : (nthF D.fs f).kd = 0) (sa : Option Addr) (sc : Nat) (z : List Oq) (hz2 : z.length ≤ 60) (hz : RdQ w sa z) :
    Calls Tryz.prog 3 #[wv D, .int .i64 (f : Int), .slice sa z.length sc] w fun e w' => e = .returned (.bool true) ∧ Below w.heap.size w w' := by
  have hl' : ¬ (60 : Int) < (z.length : Int) := by omega
  obtain ⟨wb, hwb⟩ : ∃ wb, wb = w.alloc (.cells (wcs D) 25) := ⟨_, rfl⟩
  have bb : Below w.heap.size w wb := by rw [hwb]; exact al _ _
  have xw : wb.heap[w.heap.size]? = some (.cells (wcs D) 25 (0, 0)) := by rw [hwb]; exact (MapKept.heap_alloc _ _).1
  have wwb : Ww wb D := hw.below bb
  have HLt : Hid (Lt (nthF D.fs f).rs) := (stp_three hw hf).2
  have hn8 := (wld_n hok).2
  have HFC : Hid (FaceW PN) := face
  have HZ : Hid (RdQ w sa z) := hz
  have HBW0 : Hid (∀ W, Below wb.heap.size wb W → Below w.heap.size w W) := fun W h => bb.trans (h.mono bb.size)
  obtain ⟨A0, hA0⟩ : ∃ A0, w.heap.size = A0 := ⟨_, rfl⟩
  have HOX : Hid (∀ W, Below wb.heap.size wb W → W.cell? ⟨A0, 0, none⟩ = some (.slice D.pa D.ps.length D.pc) ∧ W.cell? ⟨A0, 1, none⟩ = some (.slice D.fa D.fs.length D.fc) ∧ W.cell? ⟨A0, 2, none⟩ = some (.int .i64 D.en)) := fun W hW => by
    have q := (hW.block _ (Array.getElem?_eq_some_iff.1 xw).1).trans xw
    rw [hA0] at q
    exact ⟨cellN q 0, cellN q 1, cellN q 2⟩
  have HSM : Hid (Calls Tryz.prog 7 #[wv D] (w.alloc (.cells (wcs D) 25)) fun e w' => e = .returned (.bool true) ∧ Below wb.heap.size wb w') := by
    have := small_any wb D wwb.p wwb.f
    rw [hh] at this
    rw [← hwb]
    exact this
  have HPN : Hid (∀ W, Below wb.heap.size wb W → Calls Tryz.prog 9 #[wv D, .int .i64 (f : Int)] W fun en w' => ∃ nb F, en = .returned (.tuple #[.pointer (some ⟨nb, 0, none⟩), .int .i64 0]) ∧ PN W D f (nd0 D f) nb F w') := fun W hb => face.new W D f (wwb.below hb) hok hf hkd
  have hil : (nthF D.fs f).is.length ≤ 20 := (hw.lt _ (by unfold nthF; simp [hf])).i
  have HRN : Hid (∀ W0 W nb F, Below wb.heap.size wb W0 → PN W0 D f (nd0 D f) nb F W → Calls Tryz.prog 10 #[wv D, .int .i64 (f : Int)] W fun en w' => ∃ mb H x, en = .returned (.tuple #[.pointer (some ⟨mb, 0, none⟩), .int .i64 0]) ∧ T3 PN wb W0 D f 0 x nb mb F H w') := fun W0 W nb F h0 h1 => by
    have hm : Ww (mask (fun k => @decide (F k) (Classical.propDecidable (F k))) W) D := (wwb.below h0).sub (sub_behind (face.bel h1) (face.lo h1))
    refine (Tw.new (w := wb) face.toFace h1 h0 hm hok hf hkd).mono fun en w' ⟨mb, H, he, ht⟩ => ⟨mb, H, nd0 D f, he, ht, ?_, Nat.le_refl _, by show 0 ≤ 64; omega⟩
    show ((nthF D.fs f).is.length : Int) ≤ _
    omega
  have HOK : Hid (∀ {W W2 : World} {v : Value} {l : List Q.M}, Q.Own W v l → Below W.heap.size W W2 → Q.Own W2 v l) := fun h hb => h.keep (Fr.of_below (S := fun _ => False) hb).toQ (fun _ _ g => g)
  have HSHB : Hid (∀ W, Calls Tryz.prog 8 #[] W fun e w' => e = .returned (.bool true) ∧ Below W.heap.size W w') := fun W => shown_any face.toFace W
  dsimp only [wcs] at HSM
  dsimp only [wv] at HSM HPN HRN ⊢
  rw [hA0]
  have HBW : Hid (∀ W, Below wb.heap.size wb W → Below A0 w W) := by have := HBW0.out; rw [hA0] at this; exact this
  clear hz hw hh hwb bb xw wwb hok hkd hil face
  go_enter Tryz.func3, Tryz.ntmps3
  go_wp2_with (first
    | (go_at_call 7; refine (Hid.out HSM).mono ?_; rintro e w1 ⟨rfl, hb⟩; have HB1 : Hid _ := hb; obtain ⟨y0, y1, y2⟩ := Hid.out HOX _ hb; clear hb HSM)
    | (go_at_call 9; refine (Hid.out HPN _ (Hid.out HB1)).mono ?_; rintro e w2 ⟨nb, F, rfl, h2⟩; have HE2 : Hid _ := h2; obtain ⟨v0, v1, v2⟩ := Hid.out HOX _ ((Hid.out HB1).trans (((Hid.out HFC).bel h2).mono (Hid.out HB1).size)); clear h2 HPN)
    | (go_at_call 10; refine (Hid.out HRN _ _ _ _ (Hid.out HB1) (Hid.out HE2)).mono ?_; rintro e w3 ⟨mb, H, x0, rfl, h3⟩; have HE3 : Hid _ := h3; clear h3 HRN)
    | (go_at_call 8; refine (Hid.out HSHB _).mono ?_; rintro e w4 ⟨rfl, b4⟩; have HE4 : Hid _ := (Hid.out HE3).same ((Hid.out HE3).tw.on (Hid.out HFC).toFace b4); clear b4 HSHB))
  go_loopw [11] (fun s11 wr => ∃ (i : Nat) (x : Nd) (F H : Nat → Prop), s11 = .int .i64 i ∧ i ≤ z.length ∧ Hid (T3 PN wb w1 D f (i + 1) x nb mb F H wr)) (fun s11 _ => z.length - (intOf s11).toNat)
  case atStart => exact ⟨0, x0, F, H, rfl, Nat.zero_le _, HE4.out⟩
  case round =>
    clear HE4 HE3 HE2 y0 y1 y2 v0 v1 v2
    obtain ⟨i, x, FX, HX, rfl, hi, HT⟩ := hrel
    by_cases hlt : i < z.length
    · have hlt' : (i : Int) < (z.length : Int) := by omega
      obtain ⟨k, fr, ik, T, b, c, d, e, g, co, xb, off, rfl, hwf, hmw, hcs⟩ := RdQ.cells HZ.out hlt
      obtain ⟨c0, c1, c2, c3, c4, c5, c6, c7, c8, c9⟩ := hcs _ (HBW0.out _ (HT.out.tw.bel HFC.out.toFace))
      clear hcs
      obtain ⟨A, hA⟩ : ∃ A, wr.heap.size = A := ⟨_, rfl⟩
      obtain ⟨W1, hW1⟩ : ∃ W1, W1 = wr.alloc (.cells #[.int .i64 k, .int .i64 fr, .int .i64 ik, .int .i64 T, .int .i64 b, .int .i64 c, .int .i64 d, .int .i64 e, .int .i64 g, .int .i64 co] 43) := ⟨_, rfl⟩
      have b1 : Below wr.heap.size wr W1 := by rw [hW1]; exact al _ _
      have x1 : W1.heap[A]? = some (.cells #[.int .i64 k, .int .i64 fr, .int .i64 ik, .int .i64 T, .int .i64 b, .int .i64 c, .int .i64 d, .int .i64 e, .int .i64 g, .int .i64 co] 43 (0, 0)) := by rw [hW1, ← hA]; exact (MapKept.heap_alloc _ _).1
      have HT1 : Hid (Tw PN wb w1 D D f x x nb mb FX HX W1) := HT.out.tw.on HFC.out.toFace b1
      have HNA : Hid (¬ FX A ∧ ¬ HX A ∧ A < W1.heap.size) := ⟨fun q => by have := HT.out.tw.lt HFC.out.toFace A (.inl q); omega, fun q => by have := HT.out.tw.lt HFC.out.toFace A (.inr q); omega, (Array.getElem?_eq_some_iff.1 x1).1⟩
      have HKC : Hid (∀ W, W.heap[A]? = some (.cells #[.int .i64 k, .int .i64 fr, .int .i64 ik, .int .i64 T, .int .i64 b, .int .i64 c, .int .i64 d, .int .i64 e, .int .i64 g, .int .i64 co] 43 (0, 0)) → (fun w' : World => w'.cell? ⟨A, 1, none⟩ = some (.int .i64 fr) ∧ w'.cell? ⟨A, 2, none⟩ = some (.int .i64 ik) ∧ w'.cell? ⟨A, 3, none⟩ = some (.int .i64 T) ∧ w'.cell? ⟨A, 4, none⟩ = some (.int .i64 b) ∧ w'.cell? ⟨A, 5, none⟩ = some (.int .i64 c) ∧ w'.cell? ⟨A, 6, none⟩ = some (.int .i64 d) ∧ w'.cell? ⟨A, 7, none⟩ = some (.int .i64 e) ∧ w'.cell? ⟨A, 8, none⟩ = some (.int .i64 g) ∧ w'.cell? ⟨A, 9, none⟩ = some (.int .i64 co)) W) := fun W q => ⟨cellN q 1, cellN q 2, cellN q 3, cellN q 4, cellN q 5, cellN q 6, cellN q 7, cellN q 8, cellN q 9⟩
      have m0 : W1.cell? ⟨A, 0, none⟩ = some (.int .i64 k) := cellN x1 0
      obtain ⟨m1, m2, m3, m4, m5, m6, m7, m8, m9⟩ := HKC.out _ x1
      have HX1 : Hid _ := x1
      have HQ64 : Hid (x.q.length ≤ 64) := HT.out.ql
      clear x1 b1
      by_cases k0 : k = 0
      · have dk0 : (k == 0) = true := by simpa using k0
        have HQL : Hid ((heN D.fs.length f x fr ik ((T, b, c), d, e, g)).q.length ≤ 1000) := by have := heN_ql (n := D.fs.length) (f := f) (fr := fr) (k := ik) (m := ((T, b, c), d, e, g)) HQ64.out; show _ ≤ _; omega
        clear k0
        go_wp2_with fail
        rw [← hW1]
        clear hW1
        go_region_held3 (fun w' : World => w'.cell? ⟨A, 1, none⟩ = some (.int .i64 fr) ∧ w'.cell? ⟨A, 2, none⟩ = some (.int .i64 ik) ∧ w'.cell? ⟨A, 3, none⟩ = some (.int .i64 T) ∧ w'.cell? ⟨A, 4, none⟩ = some (.int .i64 b) ∧ w'.cell? ⟨A, 5, none⟩ = some (.int .i64 c) ∧ w'.cell? ⟨A, 6, none⟩ = some (.int .i64 d) ∧ w'.cell? ⟨A, 7, none⟩ = some (.int .i64 e) ∧ w'.cell? ⟨A, 8, none⟩ = some (.int .i64 g) ∧ w'.cell? ⟨A, 9, none⟩ = some (.int .i64 co)) (first | (go_keep; done) | exact Hid.out KEEP) (first
          | (go_at_call 11; refine (Tw.phear (Hid.out HFC).toFace ((Hid.out HT1).on (Hid.out HFC).toFace (below_drew _)) fr ik co T b c d e g hwf hmw).mono ?_; rintro en w6 ⟨F2, rfl, h6, f6⟩; have q6 := (f6.block A (Hid.out HNA).2.2 (Hid.out HNA).1).trans (Hid.out HX1); have HE6 : Hid _ := And.intro h6 (And.intro q6 f6.size); have KEEP : Hid _ := Hid.out HKC _ q6; clear h6 f6 q6)
          | (go_at_call 12; refine (Tw.rhear (Hid.out HFC).toFace (Hid.out HE6).1 fr ik co T b c d e g).mono ?_; rintro en w7 ⟨H2, rfl, h7, f7⟩; have q7 := (f7.block A (Nat.lt_of_lt_of_le (Hid.out HNA).2.2 (Hid.out HE6).2.2) (Hid.out HNA).2.1).trans (Hid.out HE6).2.1; have HE7 : Hid _ := h7; have KEEP : Hid _ := Hid.out HKC _ q7; clear h7 f7 q7))
        clear KEEP
        go_wp2_with (first
          | (go_at_call 18; refine (Tw.psafe (Hid.out HFC).toFace (Hid.out HE7)).mono ?_; rintro en u1 ⟨rfl, t1, _⟩; have HU1 : Hid _ := t1; clear t1)
          | (go_at_call 19; refine (Tw.rsafe (Hid.out HFC).toFace (Hid.out HU1)).mono ?_; rintro en u2 ⟨rfl, t2, _⟩; have HU2 : Hid _ := t2; obtain ⟨cb, hcb, HBc⟩ := Tw.pboundH (Hid.out HFC).toFace t2; clear t2)
          | (go_at_call 20; refine ((Hid.out HFC).state (Hid.out HU2).pn).mono ?_; rintro en u3 ⟨rfl, rfl⟩)
          | (go_at_call 21; refine (Tw.rstate (Hid.out HU2)).mono ?_; rintro en u4 ⟨rfl, rfl⟩)
          | (go_at_call 22; refine (Hid.out HBc).mono ?_; rintro en u5 ⟨rfl, t5, _⟩; have HU5 : Hid _ := t5; clear t5 HBc hcb)
          | (go_at_call 23; refine (Tw.rbound (Hid.out HFC).toFace (Hid.out HU5)).mono ?_; rintro en u6 ⟨rfl, rfl⟩)
          | (go_at_call 24; refine (Tw.pwaiting (Hid.out HFC) (Hid.out HU5)).mono ?_; rintro en u7 ⟨a7, c7, rfl, o7, _, t7, _⟩; have HU7 : Hid _ := And.intro t7 o7; clear t7 o7)
          | (go_at_call 25; refine (Tw.rwaiting (Hid.out HFC).toFace (Hid.out HU7).1).mono ?_; rintro en u8 ⟨v8, rfl, o8, t8, b8⟩; have HU8 : Hid _ := And.intro t8 (And.intro (Hid.out HOK (Hid.out HU7).2 b8) o8); clear t8 o8 b8)
          | (go_at_call 15; refine (Q.same_any (Hid.out HU8).2.1 (Hid.out HU8).2.2 (Hid.out HQL)).mono ?_; rintro en u9 ⟨rfl, b9⟩; have HU9 : Hid _ := (Hid.out HU8).1.on (Hid.out HFC).toFace b9; clear b9))
        go_roundw
        case rel => exact ⟨i + 1, _, F2, H2, by go_num, by omega, HT.out.heard HU9.out⟩
        case measure => simp [intOf]; omega
      · have dk0 : (k == 0) = false := by simpa using k0
        by_cases k1 : k = 1
        · have dk1 : (k == 1) = true := by simpa using k1
          obtain ⟨dd, ml, E, y, HQM, HP, HR, HY⟩ : ∃ (dd : Dn) (ml : List Q.M) (E : Int) (y : Nd), Hid (ml.length ≤ 1000 ∧ y.q.length ≤ 1000) ∧
              Hid (Calls Tryz.prog 13 #[.pointer (some ⟨nb, 0, none⟩)] W1 fun en w' => ∃ va vc F2, en = .returned (.tuple #[.agg #[.int .i64 dd.m.t, .int .i64 dd.m.fr, .int .i64 dd.m.sq, .int .i64 dd.m.dst, .int .i64 dd.m.cl, .int .i64 dd.m.bd, .int .i64 dd.s], .slice va ml.length vc, .int .i64 E]) ∧ (Q.Own w' (.slice va ml.length vc) ml ∧ ∀ k, (Value.slice va ml.length vc).ownBlock = some k → ¬ HX k) ∧ Tw PN wb w1 D D f y x nb mb F2 HX w') ∧
              Hid (∀ W F2, Tw PN wb w1 D D f y x nb mb F2 HX W → Calls Tryz.prog 14 #[.pointer (some ⟨mb, 0, none⟩)] W fun en w' => ∃ v H2, en = .returned (.tuple #[.agg #[.int .i64 dd.m.t, .int .i64 dd.m.fr, .int .i64 dd.m.sq, .int .i64 dd.m.dst, .int .i64 dd.m.cl, .int .i64 dd.m.bd, .int .i64 dd.s], v, .int .i64 E]) ∧ Q.Own w' v ml ∧ Tw PN wb w1 D D f y y nb mb F2 H2 w' ∧ Fr HX W w') ∧
              Hid (∀ F2 H2 W, Tw PN wb w1 D D f y y nb mb F2 H2 W → T3 PN wb w1 D f (i + 1 + 1) y nb mb F2 H2 W) := by
            have hlt2 := HT.out.tw.lt HFC.out.toFace
            cases hs : safe D f x
            · refine ⟨zeroD, [], 150, x, ⟨by simp, by have := HT.out.ql; omega⟩, ?_, ?_, fun F2 H2 W h => HT.out.same h⟩
              · exact (Tw.pidle HFC.out.toFace HT1.out hs).mono fun en w' ⟨he, ht⟩ => ⟨none, 0, FX, he, ⟨World.ownsRow_nil _ _ _ _, fun k g => by simp [Value.ownBlock] at g⟩, ht⟩
              · intro W F2 h
                obtain ⟨wr2, cb, rb, qb, G, v, hr, he0, hm, hsz⟩ := h.rn
                exact (rnstep_idle hr hs).mono fun en w' ⟨he, hb⟩ => ⟨_, HX, he, World.ownsRow_nil _ _ _ _, h.on HFC.out.toFace hb, Fr.of_below hb⟩
            · have c1 : x.sn ≤ 900000 := by have := HT.out.sn; omega
              have c2 : x.lg.length ≤ 10000 := by have := HT.out.lg; omega
              have hsl : (spS D f x).2.length ≤ 20 := stp_len HLt.out _ _
              have hml : (spM D f x).length ≤ 1000 := by
                have q : (spM D f x).length ≤ (spS D f x).2.length * 8 := sprF_len hn8 _ _ _ _ _ _
                have q2 : (spS D f x).2.length * 8 ≤ 160 := by omega
                omega
              refine ⟨spD D f x, (spM D f x).map q8, 0, spN D f x, ⟨by simpa using hml, by have := HT.out.ql; show x.q.tail.length ≤ 1000; simp; omega⟩, ?_, ?_, fun F2 H2 W h => HT.out.stepped HLt.out h⟩
              · rw [List.length_map]
                exact (Tw.pgo HFC.out.toFace HT1.out hs c1 c2).mono fun en w' ⟨va, vc, F2, he, ho, ht, _⟩ => ⟨va, vc, F2, he, ⟨own_q8 ho, fun k g q => by have := (own_lt ho g).2; have := HT1.out.lt HFC.out.toFace k (.inr q); omega⟩, ht⟩
              · intro W F2 h
                exact (Tw.rgo HFC.out.toFace h hs c1 c2).mono fun en w' ⟨vm, H2, he, ho, ht, hfr⟩ => ⟨vm, H2, he, own_q8 ho, ht, hfr⟩
          have HQL : Hid (y.q.length ≤ 1000) := HQM.out.2
          clear k0 k1
          go_wp2_with fail
          rw [← hW1]
          clear hW1
          have HDC : Hid (∀ w6 w7 : World, Fr HX (w6.alloc (.cells (dcs dd) 46)) w7 → ¬ HX w6.heap.size → w6.heap.size < w7.heap.size ∧ w7.heap[w6.heap.size]? = some (.cells (dcs dd) 46 (0, 0))) := fun w6 w7 hf hn => ⟨by have := hf.size; simp at this; omega, (hf.block _ (by simp) hn).trans (MapKept.heap_alloc w6 _).1⟩
          dsimp only [dcs] at HDC
          go_wp2_with (first
            | (go_at_call 13; refine (Hid.out HP).mono ?_; rintro en w6 ⟨va, vc, F2, rfl, o6, h6⟩; have HE6 : Hid _ := And.intro h6 o6; clear h6 o6 HP)
            | (go_at_call 14; refine (Hid.out HR _ _ ((Hid.out HE6).1.on (Hid.out HFC).toFace (al _ _))).mono ?_; rintro en w7 ⟨vq, H2, rfl, o7, h7, f7⟩; obtain ⟨hl7, x7⟩ := Hid.out HDC _ _ f7 (fun q => by have := (Hid.out HE6).1.lt (Hid.out HFC).toFace _ (.inr q); omega); obtain ⟨n0, n1, n2, n3, n4, n5, n6, _⟩ := dn_cells (x := dd) x7; have HE7 : Hid _ := And.intro h7 (And.intro o7 (Q.Own.keep ((Q.Own.keep (Hid.out HE6).2.1 (Fr.of_below (S := fun _ => False) (al w6 _)).toQ (fun _ _ g => g))) f7.toQ (fun k g => (Hid.out HE6).2.2 k g))); clear h7 o7 f7 x7 HR)
            | (go_at_call 15; refine (Q.same_any (Hid.out HOK (Hid.out HE7).2.2 (al _ _)) (Hid.out HOK (Hid.out HE7).2.1 (al _ _)) (Hid.out HQM).1).mono ?_; rintro en w8 ⟨rfl, b8⟩; have HE8 : Hid _ := ((Hid.out HE7).1.on (Hid.out HFC).toFace (al _ _)).on (Hid.out HFC).toFace b8; clear b8 HE7))
          go_wp2_with (first
            | (go_at_call 18; refine (Tw.psafe (Hid.out HFC).toFace (Hid.out HE8)).mono ?_; rintro en u1 ⟨rfl, t1, _⟩; have HU1 : Hid _ := t1; clear t1)
            | (go_at_call 19; refine (Tw.rsafe (Hid.out HFC).toFace (Hid.out HU1)).mono ?_; rintro en u2 ⟨rfl, t2, _⟩; have HU2 : Hid _ := t2; obtain ⟨cb, hcb, HBc⟩ := Tw.pboundH (Hid.out HFC).toFace t2; clear t2)
            | (go_at_call 20; refine ((Hid.out HFC).state (Hid.out HU2).pn).mono ?_; rintro en u3 ⟨rfl, rfl⟩)
            | (go_at_call 21; refine (Tw.rstate (Hid.out HU2)).mono ?_; rintro en u4 ⟨rfl, rfl⟩)
            | (go_at_call 22; refine (Hid.out HBc).mono ?_; rintro en u5 ⟨rfl, t5, _⟩; have HU5 : Hid _ := t5; clear t5 HBc hcb)
            | (go_at_call 23; refine (Tw.rbound (Hid.out HFC).toFace (Hid.out HU5)).mono ?_; rintro en u6 ⟨rfl, rfl⟩)
            | (go_at_call 24; refine (Tw.pwaiting (Hid.out HFC) (Hid.out HU5)).mono ?_; rintro en u7 ⟨a7, c7, rfl, o7, _, t7, _⟩; have HU7 : Hid _ := And.intro t7 o7; clear t7 o7)
            | (go_at_call 25; refine (Tw.rwaiting (Hid.out HFC).toFace (Hid.out HU7).1).mono ?_; rintro en u8 ⟨v8, rfl, o8, t8, b8⟩; have HU8 : Hid _ := And.intro t8 (And.intro (Hid.out HOK (Hid.out HU7).2 b8) o8); clear t8 o8 b8)
            | (go_at_call 15; refine (Q.same_any (Hid.out HU8).2.1 (Hid.out HU8).2.2 (Hid.out HQL)).mono ?_; rintro en u9 ⟨rfl, b9⟩; have HU9 : Hid _ := (Hid.out HU8).1.on (Hid.out HFC).toFace b9; clear b9))
          go_roundw
          case rel => exact ⟨i + 1, y, F2, H2, by go_num, by omega, HY.out _ _ _ HU9.out⟩
          case measure => simp [intOf]; omega
        · have dk1 : (k == 1) = false := by simpa using k1
          by_cases k2 : k = 2
          · have dk2 : (k == 2) = true := by simpa using k2
            have HQL : Hid ((teN D f x).q.length ≤ 1000) := by have := HQ64.out; show x.q.length ≤ 1000; omega
            clear k0 k1 k2
            go_wp2_with fail
            rw [← hW1]
            clear hW1
            go_wp2_with (first
              | (go_at_call 16; refine (Tw.ptell (Hid.out HFC).toFace (Hid.out HT1)).mono ?_; rintro en w6 ⟨F2, rfl, h6⟩; have HE6 : Hid _ := h6; clear h6)
              | (go_at_call 17; refine (Tw.rtell (Hid.out HFC).toFace (Hid.out HE6)).mono ?_; rintro en w7 ⟨H2, rfl, h7⟩; have HE7 : Hid _ := h7; clear h7)
              | (go_at_call 18; refine (Tw.psafe (Hid.out HFC).toFace (Hid.out HE7)).mono ?_; rintro en u1 ⟨rfl, t1, _⟩; have HU1 : Hid _ := t1; clear t1)
              | (go_at_call 19; refine (Tw.rsafe (Hid.out HFC).toFace (Hid.out HU1)).mono ?_; rintro en u2 ⟨rfl, t2, _⟩; have HU2 : Hid _ := t2; obtain ⟨cb, hcb, HBc⟩ := Tw.pboundH (Hid.out HFC).toFace t2; clear t2)
              | (go_at_call 20; refine ((Hid.out HFC).state (Hid.out HU2).pn).mono ?_; rintro en u3 ⟨rfl, rfl⟩)
              | (go_at_call 21; refine (Tw.rstate (Hid.out HU2)).mono ?_; rintro en u4 ⟨rfl, rfl⟩)
              | (go_at_call 22; refine (Hid.out HBc).mono ?_; rintro en u5 ⟨rfl, t5, _⟩; have HU5 : Hid _ := t5; clear t5 HBc hcb)
              | (go_at_call 23; refine (Tw.rbound (Hid.out HFC).toFace (Hid.out HU5)).mono ?_; rintro en u6 ⟨rfl, rfl⟩)
              | (go_at_call 24; refine (Tw.pwaiting (Hid.out HFC) (Hid.out HU5)).mono ?_; rintro en u7 ⟨a7, c7, rfl, o7, _, t7, _⟩; have HU7 : Hid _ := And.intro t7 o7; clear t7 o7)
              | (go_at_call 25; refine (Tw.rwaiting (Hid.out HFC).toFace (Hid.out HU7).1).mono ?_; rintro en u8 ⟨v8, rfl, o8, t8, b8⟩; have HU8 : Hid _ := And.intro t8 (And.intro (Hid.out HOK (Hid.out HU7).2 b8) o8); clear t8 o8 b8)
              | (go_at_call 15; refine (Q.same_any (Hid.out HU8).2.1 (Hid.out HU8).2.2 (Hid.out HQL)).mono ?_; rintro en u9 ⟨rfl, b9⟩; have HU9 : Hid _ := (Hid.out HU8).1.on (Hid.out HFC).toFace b9; clear b9))
            go_roundw
            case rel => exact ⟨i + 1, _, F2, H2, by go_num, by omega, HT.out.told HU9.out⟩
            case measure => simp [intOf]; omega
          · have dk2 : (k == 2) = false := by simpa using k2
            have HQL : Hid (x.q.length ≤ 1000) := by have := HQ64.out; show x.q.length ≤ 1000; omega
            clear k0 k1 k2
            go_wp2_with fail
            rw [← hW1]
            clear hW1
            go_wp2_with (first
              | (go_at_call 18; refine (Tw.psafe (Hid.out HFC).toFace (Hid.out HT1)).mono ?_; rintro en u1 ⟨rfl, t1, _⟩; have HU1 : Hid _ := t1; clear t1)
              | (go_at_call 19; refine (Tw.rsafe (Hid.out HFC).toFace (Hid.out HU1)).mono ?_; rintro en u2 ⟨rfl, t2, _⟩; have HU2 : Hid _ := t2; obtain ⟨cb, hcb, HBc⟩ := Tw.pboundH (Hid.out HFC).toFace t2; clear t2)
              | (go_at_call 20; refine ((Hid.out HFC).state (Hid.out HU2).pn).mono ?_; rintro en u3 ⟨rfl, rfl⟩)
              | (go_at_call 21; refine (Tw.rstate (Hid.out HU2)).mono ?_; rintro en u4 ⟨rfl, rfl⟩)
              | (go_at_call 22; refine (Hid.out HBc).mono ?_; rintro en u5 ⟨rfl, t5, _⟩; have HU5 : Hid _ := t5; clear t5 HBc hcb)
              | (go_at_call 23; refine (Tw.rbound (Hid.out HFC).toFace (Hid.out HU5)).mono ?_; rintro en u6 ⟨rfl, rfl⟩)
              | (go_at_call 24; refine (Tw.pwaiting (Hid.out HFC) (Hid.out HU5)).mono ?_; rintro en u7 ⟨a7, c7, rfl, o7, _, t7, _⟩; have HU7 : Hid _ := And.intro t7 o7; clear t7 o7)
              | (go_at_call 25; refine (Tw.rwaiting (Hid.out HFC).toFace (Hid.out HU7).1).mono ?_; rintro en u8 ⟨v8, rfl, o8, t8, b8⟩; have HU8 : Hid _ := And.intro t8 (And.intro (Hid.out HOK (Hid.out HU7).2 b8) o8); clear t8 o8 b8)
              | (go_at_call 15; refine (Q.same_any (Hid.out HU8).2.1 (Hid.out HU8).2.2 (Hid.out HQL)).mono ?_; rintro en u9 ⟨rfl, b9⟩; have HU9 : Hid _ := (Hid.out HU8).1.on (Hid.out HFC).toFace b9; clear b9))
            go_roundw
            case rel => exact ⟨i + 1, x, FX, HX, by go_num, by omega, HT.out.same HU9.out⟩
            case measure => simp [intOf]; omega
    · obtain rfl : i = z.length := by omega
      have HLG : Hid (x.lg.length ≤ 10000) := by have := HT.out.lg; show _ ≤ _; omega
      go_wp2_with (first
        | (go_at_call 27; refine (Tw.plog (Hid.out HFC).toFace (Hid.out HT).tw (Hid.out HLG)).mono ?_; rintro en w6 ⟨a6, c6, rfl, r6, h6, _⟩; have HE6 : Hid _ := And.intro h6 r6; clear h6 r6)
        | (go_at_call 28; refine (Tw.rlog (Hid.out HFC).toFace (Hid.out HE6).1 (Hid.out HLG)).mono ?_; rintro en w7 ⟨a7, c7, rfl, r7, h7, b7⟩; have HE7 : Hid _ := And.intro h7 (And.intro ((Hid.out HE6).2.below b7) r7); clear h7 r7 b7)
        | (go_at_call 26; refine (sameD_yes _ _ _ _ _ _ (Hid.out HE7).2.1 (Hid.out HE7).2.2 (Nat.le_trans (Hid.out HLG) (by omega))).mono ?_; rintro en w8 ⟨rfl, b8⟩; have HE8 : Hid _ := (Hid.out HE7).1.on (Hid.out HFC).toFace b8; clear b8))
      go_ret
      exact ⟨rfl, HBW.out _ (HE8.out.bel HFC.out.toFace)⟩
end Go.Proofs.YtadmojehemdoaaaGreat
/- Proved: the walk of CmbScript. -/
namespace Go.Proofs.YtadmojehemdoaaaGreat
open Go.RowKit Go.Shelf
set_option linter.unusedVariables false
set_option maxRecDepth 100000

set_option maxHeartbeats 4000000 in
theorem script_none {PN : World → Wd → Nat → Nd → Nat → (Nat → Prop) → World → Prop} (face : FaceW PN) (w : World) (D : Wd) (hw : Ww w D) (hh : hvyW D = false) (f : Int) (E : Int)
    (hP : ∀ W, Ww W D → Calls Tryz.prog 9 #[wv D, .int .i64 f] W fun en w' => en = .returned (.tuple #[.pointer none, .int .i64 E]) ∧ Below W.heap.size W w')
    (hR : ∀ W, Ww W D → Calls Tryz.prog 10 #[wv D, .int .i64 f] W fun en w' => en = .returned (.tuple #[.pointer none, .int .i64 E]) ∧ Below W.heap.size W w')
    (sa : Option Addr) (sc : Nat) (z : List Oq) (hz2 : z.length ≤ 60) :
    Calls Tryz.prog 3 #[wv D, .int .i64 f, .slice sa z.length sc] w fun e w' => e = .returned (.bool true) ∧ Below w.heap.size w w' := by
  have hl' : ¬ (60 : Int) < (z.length : Int) := by omega
  obtain ⟨wb, hwb⟩ : ∃ wb, wb = w.alloc (.cells (wcs D) 25) := ⟨_, rfl⟩
  have bb : Below w.heap.size w wb := by rw [hwb]; exact al _ _
  have xw : wb.heap[w.heap.size]? = some (.cells (wcs D) 25 (0, 0)) := by rw [hwb]; exact (MapKept.heap_alloc _ _).1
  have wwb : Ww wb D := hw.below bb
  have HBW0 : Hid (∀ W, Below wb.heap.size wb W → Below w.heap.size w W) := fun W h => bb.trans (h.mono bb.size)
  obtain ⟨A0, hA0⟩ : ∃ A0, w.heap.size = A0 := ⟨_, rfl⟩
  have HOX : Hid (∀ W, Below wb.heap.size wb W → W.cell? ⟨A0, 0, none⟩ = some (.slice D.pa D.ps.length D.pc) ∧ W.cell? ⟨A0, 1, none⟩ = some (.slice D.fa D.fs.length D.fc) ∧ W.cell? ⟨A0, 2, none⟩ = some (.int .i64 D.en)) := fun W hW => by
    have q := (hW.block _ (Array.getElem?_eq_some_iff.1 xw).1).trans xw
    rw [hA0] at q
    exact ⟨cellN q 0, cellN q 1, cellN q 2⟩
  have HSM : Hid (Calls Tryz.prog 7 #[wv D] (w.alloc (.cells (wcs D) 25)) fun e w' => e = .returned (.bool true) ∧ Below wb.heap.size wb w') := by
    have := small_any wb D wwb.p wwb.f
    rw [hh] at this
    rw [← hwb]
    exact this
  have HPN : Hid (∀ W, Below wb.heap.size wb W → Calls Tryz.prog 9 #[wv D, .int .i64 f] W fun en w' => en = .returned (.tuple #[.pointer none, .int .i64 E]) ∧ Below wb.heap.size wb w') := fun W hb => (hP W (wwb.below hb)).mono fun en w' ⟨he, h⟩ => ⟨he, hb.trans (h.mono hb.size)⟩
  have HRN : Hid (∀ W, Below wb.heap.size wb W → Calls Tryz.prog 10 #[wv D, .int .i64 f] W fun en w' => en = .returned (.tuple #[.pointer none, .int .i64 E]) ∧ Below wb.heap.size wb w') := fun W hb => (hR W (wwb.below hb)).mono fun en w' ⟨he, h⟩ => ⟨he, hb.trans (h.mono hb.size)⟩
  have HSH : Hid (∀ W, Below wb.heap.size wb W → Calls Tryz.prog 8 #[] W fun e w' => e = .returned (.bool true) ∧ Below A0 w w') := fun W hb => (shown_any face.toFace W).mono fun en w' ⟨he, h⟩ => ⟨he, by rw [← hA0]; exact HBW0.out _ (hb.trans (h.mono hb.size))⟩
  dsimp only [wcs] at HSM
  dsimp only [wv] at HSM HPN HRN ⊢
  rw [hA0]
  clear hw hh hwb bb xw wwb hP hR face
  go_enter Tryz.func3, Tryz.ntmps3
  go_wp2_with (first
    | (go_at_call 7; refine (Hid.out HSM).mono ?_; rintro e w1 ⟨rfl, hb⟩; have HB1 : Hid _ := hb; obtain ⟨y0, y1, y2⟩ := Hid.out HOX _ hb; clear hb HSM)
    | (go_at_call 9; refine (Hid.out HPN _ (Hid.out HB1)).mono ?_; rintro e w2 ⟨rfl, hb⟩; have HB2 : Hid _ := hb; obtain ⟨v0, v1, v2⟩ := Hid.out HOX _ hb; clear hb HPN)
    | (go_at_call 10; refine (Hid.out HRN _ (Hid.out HB2)).mono ?_; rintro e w3 ⟨rfl, hb⟩; have HB3 : Hid _ := hb; clear hb HRN)
    | (go_at_call 8; refine (Hid.out HSH _ (Hid.out HB3)).mono ?_; rintro e w4 ⟨rfl, b4⟩; have HB4 : Hid _ := b4; clear b4 HSH))
  go_ret
  exact ⟨rfl, HB4.out⟩
set_option maxHeartbeats 4000000 in
theorem script_great {PN : World → Wd → Nat → Nd → Nat → (Nat → Prop) → World → Prop} (face : FaceW PN) (w : World) (D : Wd) (hp : RdI w w.heap.size D.pa D.ps) (hff : RdF w D.fa D.fs) (f : Int) (sa : Option Addr) (sc : Nat) (z : List Oq) (hn : z.length ≤ maxLen) (hh : hvyW D = true ∨ hvyW D = false ∧ 60 < z.length) :
    Calls Tryz.prog 3 #[wv D, .int .i64 f, .slice sa z.length sc] w fun e w' => e = .returned (.bool true) ∧ Below w.heap.size w w' := by
  unfold maxLen at hn
  have bb := al w (.cells (wcs D) 25)
  have HSM : Hid (Calls Tryz.prog 7 #[wv D] (w.alloc (.cells (wcs D) 25)) fun e w' => e = .returned (.bool (!hvyW D)) ∧ Below w.heap.size w w') := (small_any _ D (hp.belo bb) (hff.below bb)).mono fun e w' ⟨he, hb⟩ => ⟨he, bb.trans (hb.mono bb.size)⟩
  have HSH : Hid (∀ W, Below w.heap.size w W → Calls Tryz.prog 8 #[] W fun e w' => e = .returned (.bool true) ∧ Below w.heap.size w w') := fun W hb => (shown_any face.toFace W).mono fun en w' ⟨he, h⟩ => ⟨he, hb.trans (h.mono hb.size)⟩
  dsimp only [wcs] at HSM
  dsimp only [wv] at HSM ⊢
  clear bb hp hff face
  rcases hh with h1 | ⟨h1, h2⟩
  · rw [h1] at HSM
    clear h1
    go_enter Tryz.func3, Tryz.ntmps3
    go_wp2_with (first
      | (go_at_call 7; refine (Hid.out HSM).mono ?_; rintro e w1 ⟨rfl, hb⟩; have HB1 : Hid _ := hb; clear hb HSM)
      | (go_at_call 8; refine (Hid.out HSH _ (Hid.out HB1)).mono ?_; rintro e w4 ⟨rfl, b4⟩; have HB4 : Hid _ := b4; clear b4 HSH))
    go_ret
    exact ⟨rfl, HB4.out⟩
  · rw [h1] at HSM
    have hl' : (60 : Int) < (z.length : Int) := by omega
    clear h1
    go_enter Tryz.func3, Tryz.ntmps3
    go_wp2_with (first
      | (go_at_call 7; refine (Hid.out HSM).mono ?_; rintro e w1 ⟨rfl, hb⟩; have HB1 : Hid _ := hb; clear hb HSM)
      | (go_at_call 8; refine (Hid.out HSH _ (Hid.out HB1)).mono ?_; rintro e w4 ⟨rfl, b4⟩; have HB4 : Hid _ := b4; clear b4 HSH))
    go_ret
    exact ⟨rfl, HB4.out⟩
theorem wld_none {D : Wd} {N : Int} (h : wldE D = (N, 0)) : N = -1 := by
  have h2 := (wld_ok h).2.2.2
  unfold wldE at h
  split at h
  · rw [fedsE_no 0 (fun i hi => h2 _ (by unfold nthF; simp [hi]))] at h
    injection h with h3 _
    exact h3.symm
  · injection h with h3 _
    exact h3.symm
theorem script_walk {PN : World → Wd → Nat → Nd → Nat → (Nat → Prop) → World → Prop} (face : FaceW PN) (w : World) (D : Wd) (hp : RdI w w.heap.size D.pa D.ps) (hff : RdF w D.fa D.fs) (f : Int) (sa : Option Addr) (sc : Nat) (z : List Oq) (hn : z.length ≤ maxLen) (hz : RdQ w sa z) :
    Calls Tryz.prog 3 #[wv D, .int .i64 f, .slice sa z.length sc] w fun e w' => e = .returned (.bool true) ∧ Below w.heap.size w w' := by
  cases hh : hvyW D
  · by_cases hl : 60 < z.length
    · exact script_great face w D hp hff f sa sc z hn (.inr ⟨hh, hl⟩)
    · have hw := ww_of hp hff hh
      obtain ⟨N, E, hE⟩ : ∃ N E, wldE D = (N, E) := ⟨_, _, rfl⟩
      by_cases e0 : E = 0
      · subst e0
        obtain rfl : N = -1 := wld_none hE
        by_cases hf : 0 ≤ f ∧ f < D.fs.length ∧ (nthF D.fs f.toNat).kd = 0
        · obtain ⟨k, rfl⟩ := Int.eq_ofNat_of_zero_le hf.1
          exact script_ok face w D hw hh hE k (by omega) hf.2.2 sa sc z (by omega) hz
        · exact script_none face w D hw hh f 1 (fun W h => face.no W D f h hE hf) (fun W h => rnnew_no W D f h hE hf) sa sc z (by omega)
      · exact script_none face w D hw hh f E (fun W h => face.err W D f h hE e0) (fun W h => rnnew_err W D f h hE e0) sa sc z (by omega)
  · exact script_great face w D hp hff f sa sc z hn (.inl hh)
end Go.Proofs.YtadmojehemdoaaaGreat
