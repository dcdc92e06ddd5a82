/- Proved: the walk of CmbRefuses. -/
import Derived.Test.YtadmojehemdoaaaGreatJTw
namespace Go.Proofs.YtadmojehemdoaaaGreat
open Go.RowKit Go.Shelf
set_option linter.unusedVariables false
set_option maxRecDepth 100000

theorem ec_spN (s1 s2 : Nat) {x : Nd} (h : x.st = 0) : spN (ecD s1) 0 x = spN (ecD s2) 0 x := by
  unfold spN spD
  rw [ec_spS h, ec_spS h]
theorem RdQ.cells {w : World} {a : Option Addr} {l : List Oq} (h : RdQ w a l) {i : Nat} (hi : i < l.length) : ∃ k fr ik T b c d e g co xb off, a = some ⟨xb, off, none⟩ ∧ wfI fr ∧ Q.mwf ((T, b, c), d, e, g) ∧ ∀ W, Below w.heap.size w W →
    W.cell? ⟨xb, off + i * 10, none⟩ = some (.int .i64 k) ∧ W.cell? ⟨xb, off + i * 10 + 1, none⟩ = some (.int .i64 fr) ∧ W.cell? ⟨xb, off + i * 10 + 2, none⟩ = some (.int .i64 ik) ∧ W.cell? ⟨xb, off + i * 10 + 3, none⟩ = some (.int .i64 T) ∧ W.cell? ⟨xb, off + i * 10 + 4, none⟩ = some (.int .i64 b) ∧ W.cell? ⟨xb, off + i * 10 + 5, none⟩ = some (.int .i64 c) ∧ W.cell? ⟨xb, off + i * 10 + 6, none⟩ = some (.int .i64 d) ∧ W.cell? ⟨xb, off + i * 10 + 7, none⟩ = some (.int .i64 e) ∧ W.cell? ⟨xb, off + i * 10 + 8, none⟩ = some (.int .i64 g) ∧ W.cell? ⟨xb, off + i * 10 + 9, none⟩ = some (.int .i64 co) := by
  obtain ⟨xb, off, rfl, hb, hc⟩ := h.2 (by intro e; rw [e] at hi; simp at hi)
  have hw := h.1 i hi
  obtain ⟨o, ho⟩ : ∃ o, nthQ l i = o := ⟨_, rfl⟩
  obtain ⟨k, fr, ik, ⟨⟨T, b, c⟩, d, e, g⟩, co⟩ := o
  rw [ho] at hw
  refine ⟨k, fr, ik, T, b, c, d, e, g, co, xb, off, rfl, hw.1, hw.2, fun W hW => ?_⟩
  have q : ∀ j, j < 10 → W.cell? ⟨xb, off + i * 10 + j, none⟩ = (encQ (nthQ l i))[j]? := fun j hj => (hW.cell (p := ⟨xb, off + i * 10 + j, none⟩) hb).trans (hc i hi j hj)
  rw [ho] at q
  exact ⟨q 0 (by omega), q 1 (by omega), q 2 (by omega), q 3 (by omega), q 4 (by omega), q 5 (by omega), q 6 (by omega), q 7 (by omega), q 8 (by omega), q 9 (by omega)⟩
/-- Two nodes of the small federation that are alike; how far they can have come. -/
structure T2 (PN : World → Wd → Nat → Nd → Nat → (Nat → Prop) → World → Prop) (w wp : World) (s1 s2 : Nat) (i : Nat) (x : Nd) (nb mb : Nat) (F H : Nat → Prop) (W : World) : Prop where
  tw : Tw PN w wp (ecD s1) (ecD s2) 0 x x nb mb F H W
  st : x.st = 0
  sn : x.sn ≤ i
  lg : x.lg.length ≤ i
  ql : x.q.length ≤ 64
theorem T2.bel {PN : World → Wd → Nat → Nd → Nat → (Nat → Prop) → World → Prop} (face : Face PN) {w wp : World} {s1 s2 i : Nat} {x : Nd} {nb mb : Nat} {F H : Nat → Prop} {W : World} (h : T2 PN w wp s1 s2 i x nb mb F H W) : Below w.heap.size w W := h.tw.bel face
theorem heN_ql {n f : Nat} {x : Nd} {fr k : Int} {m : Q.M} (h : x.q.length ≤ 64) : (heN n f x fr k m).q.length ≤ 64 := by
  by_cases e : heE n f x fr k m = 0
  · by_cases k2 : k = 2
    · unfold heN; rw [if_pos k2]; exact h
    · by_cases k0 : k = 0
      · subst k0
        obtain ⟨e1, _, _, _, h4⟩ := heN_push e
        rw [e1]
        show (Q.ins x.q m).length ≤ 64
        rw [Q.ins_len]; omega
      · unfold heN; rw [if_neg k2, if_neg (fun g => k0 g.1)]; exact h
  · rw [heN_no e]; exact h
theorem T2.more {PN : World → Wd → Nat → Nd → Nat → (Nat → Prop) → World → Prop} {w wp : World} {s1 s2 i : Nat} {x : Nd} {nb mb : Nat} {F H : Nat → Prop} {W : World} (h : T2 PN w wp s1 s2 i x nb mb F H W) : T2 PN w wp s1 s2 (i + 1) x nb mb F H W := ⟨h.tw, h.st, by have := h.sn; omega, by have := h.lg; omega, h.ql⟩
theorem T2.on {PN : World → Wd → Nat → Nd → Nat → (Nat → Prop) → World → Prop} (face : Face PN) {w wp : World} {s1 s2 i : Nat} {x : Nd} {nb mb : Nat} {F H : Nat → Prop} {W W2 : World} (h : T2 PN w wp s1 s2 i x nb mb F H W) (hb : Below W.heap.size W W2) : T2 PN w wp s1 s2 i x nb mb F H W2 := ⟨h.tw.on face hb, h.st, h.sn, h.lg, h.ql⟩
theorem T2.heard {PN : World → Wd → Nat → Nd → Nat → (Nat → Prop) → World → Prop} {w wp : World} {s1 s2 i : Nat} {x : Nd} {nb mb : Nat} {F H F2 H2 : Nat → Prop} {W W2 : World} (h : T2 PN w wp s1 s2 i x nb mb F H W) {fr k : Int} {m : Q.M} (ht : Tw PN w wp (ecD s1) (ecD s2) 0 (heN (ecD s1).fs.length 0 x fr k m) (heN (ecD s2).fs.length 0 x fr k m) nb mb F2 H2 W2) : T2 PN w wp s1 s2 (i + 1) (heN 3 0 x fr k m) nb mb F2 H2 W2 := by
  obtain ⟨q1, q2, q3, q4⟩ := he_st 3 0 x fr k m
  exact ⟨ht, by rw [q1]; exact h.st, by rw [q2]; have := h.sn; omega, by rw [q3]; have := h.lg; omega, heN_ql h.ql⟩
theorem T2.stepped {PN : World → Wd → Nat → Nd → Nat → (Nat → Prop) → World → Prop} {w wp : World} {s1 s2 i : Nat} {x : Nd} {nb mb : Nat} {F H F2 H2 : Nat → Prop} {W W2 : World} (h : T2 PN w wp s1 s2 i x nb mb F H W) (ht : Tw PN w wp (ecD s1) (ecD s2) 0 (spN (ecD s1) 0 x) (spN (ecD s2) 0 x) nb mb F2 H2 W2) : T2 PN w wp s1 s2 (i + 1) (spN (ecD s1) 0 x) nb mb F2 H2 W2 := by
  rw [ec_spN s2 s1 h.st] at ht
  refine ⟨ht, ec_st h.st, ?_, ?_, ?_⟩
  · have := (ec_sn (s := s1) h.st).1; have := h.sn; omega
  · show (x.lg ++ [spD (ecD s1) 0 x]).length ≤ i + 1
    have := h.lg
    simp; omega
  · show x.q.tail.length ≤ 64
    have := h.ql
    simp; omega
theorem ec_new1 {PN : World → Wd → Nat → Nd → Nat → (Nat → Prop) → World → Prop} (face : Face PN) {W : World} {s n : Nat} (hw : ∀ F : Nat → Prop, (∀ k, F k → k < n) → Ww (mask (fun k => @decide (F k) (Classical.propDecidable (F k))) W) (ecD s)) :
    Calls Tryz.prog 9 #[wv (ecD s), .int .i64 0] W fun en w' => ∃ nb F, en = .returned (.tuple #[.pointer (some ⟨nb, 0, none⟩), .int .i64 0]) ∧ PN W (ecD s) 0 (nd0 (ecD s) 0) nb F w' := by
  have h1 : Ww W (ecD s) := (hw (fun _ => False) (fun _ g => g.elim)).sub (sub_of_mask (Nat.le_refl _) (fun k _ _ => rfl))
  exact face.new W (ecD s) 0 h1 (ecD_wld s) (by rw [ecD_n]; omega) rfl
theorem nd0_ec (s1 s2 : Nat) : nd0 (ecD s1) 0 = nd0 (ecD s2) 0 := rfl
theorem T2.new {PN : World → Wd → Nat → Nd → Nat → (Nat → Prop) → World → Prop} (face : Face PN) {wb w0 w1 W : World} {s1 s2 n nb : Nat} {F : Nat → Prop} (h0 : Below wb.heap.size wb w0) (h1 : PN w0 (ecD s1) 0 (nd0 (ecD s1) 0) nb F w1) (hn : w1.heap.size = n) (hb : Below w1.heap.size w1 W) (hw : ∀ F : Nat → Prop, (∀ k, F k → k < n) → Ww (mask (fun k => @decide (F k) (Classical.propDecidable (F k))) W) (ecD s2)) :
    Calls Tryz.prog 10 #[wv (ecD s2), .int .i64 0] W fun en w' => ∃ mb H x, en = .returned (.tuple #[.pointer (some ⟨mb, 0, none⟩), .int .i64 0]) ∧ T2 PN wb w0 s1 s2 0 x nb mb F H w' := by
  have hm := hw F (fun k g => by rw [← hn]; exact face.lt h1 k g)
  have hp := face.below h1 hb
  have hx := nd0_ec s1 s2
  have C := Tw.new (w := wb) face hp h0 hm (ecD_wld s2) (by rw [ecD_n]; omega) rfl
  refine C.mono fun en w' ⟨mb, H, he, ht⟩ => ⟨mb, H, nd0 (ecD s1) 0, he, ?_, rfl, ?_, ?_, ?_⟩
  · rw [← hx] at ht; exact ht
  · show (0 : Int) ≤ ((0 : Nat) : Int); exact Int.le_refl _
  · show 0 ≤ 0; exact Nat.le_refl _
  · show 0 ≤ 64; omega
set_option maxHeartbeats 8000000 in
theorem refuses_walk {PN : World → Wd → Nat → Nd → Nat → (Nat → Prop) → World → Prop} (face : FaceW PN) (w : World) (sa : Option Addr) (sc : Nat) (z : List Oq) (hn : z.length ≤ maxLen) (hz : RdQ w sa z) (ok ofr oik oT ob oc od oe og oco : Int) (hfr : wfI ofr) (hm : Q.mwf ((oT, ob, oc), od, oe, og)) :
    Calls Tryz.prog 5 #[.slice sa z.length sc, .agg #[.int .i64 ok, .int .i64 ofr, .int .i64 oik, .int .i64 oT, .int .i64 ob, .int .i64 oc, .int .i64 od, .int .i64 oe, .int .i64 og, .int .i64 oco]] w fun e w' => e = .returned (.bool true) ∧ Below w.heap.size w w' := by
  obtain ⟨wb, hwb⟩ : ∃ wb, wb = w.alloc (.cells #[.int .i64 ok, .int .i64 ofr, .int .i64 oik, .int .i64 oT, .int .i64 ob, .int .i64 oc, .int .i64 od, .int .i64 oe, .int .i64 og, .int .i64 oco] 43) := ⟨_, rfl⟩
  have bb : Below w.heap.size w wb := by rw [hwb]; exact al _ _
  have xb : wb.heap[w.heap.size]? = some (.cells #[.int .i64 ok, .int .i64 ofr, .int .i64 oik, .int .i64 oT, .int .i64 ob, .int .i64 oc, .int .i64 od, .int .i64 oe, .int .i64 og, .int .i64 oco] 43 (0, 0)) := by rw [hwb]; exact (MapKept.heap_alloc _ _).1
  have HBW : Hid (∀ W, Below wb.heap.size wb W → Below w.heap.size w W) := fun W h => bb.trans (h.mono bb.size)
  have SH := shown_any face.toFace wb
  by_cases hlong : 100 < z.length
  · have hl' : (100 : Int) < (z.length : Int) := by omega
    unfold maxLen at hn
    clear hz
    go_enter Tryz.func5, Tryz.ntmps5
    rw [hwb] at SH
    go_wp2_with (go_at_call 8; refine SH.mono ?_; rintro e w1 ⟨rfl, hb⟩; have HB : Hid _ := hb; clear hb SH)
    go_ret
    exact ⟨rfl, HBW.out _ (by rw [hwb]; exact HB.out)⟩
  have hz2 : z.length ≤ 100 := by omega
  have hl' : ¬ (100 : Int) < (z.length : Int) := by omega
  obtain ⟨A, hA⟩ : ∃ A, w.heap.size = A := ⟨_, rfl⟩
  have HOX : Hid (∀ W, Below wb.heap.size wb W → W.cell? ⟨A, 1, none⟩ = some (.int .i64 ofr) ∧ W.cell? ⟨A, 2, none⟩ = some (.int .i64 oik) ∧ W.cell? ⟨A, 3, none⟩ = some (.int .i64 oT) ∧ W.cell? ⟨A, 4, none⟩ = some (.int .i64 ob) ∧ W.cell? ⟨A, 5, none⟩ = some (.int .i64 oc) ∧ W.cell? ⟨A, 6, none⟩ = some (.int .i64 od) ∧ W.cell? ⟨A, 7, none⟩ = some (.int .i64 oe) ∧ W.cell? ⟨A, 8, none⟩ = some (.int .i64 og) ∧ W.cell? ⟨A, 9, none⟩ = some (.int .i64 oco)) := fun W hW => by
    have q := (hW.block _ (Array.getElem?_eq_some_iff.1 xb).1).trans xb
    rw [hA] at q
    exact ⟨cellN q 1, cellN q 2, cellN q 3, cellN q 4, cellN q 5, cellN q 6, cellN q 7, cellN q 8, cellN q 9⟩
  have HZ : Hid (RdQ w sa z) := hz
  have HFC : Hid (FaceW PN) := face
  have HEC : Hid (∀ w1, Below wb.heap.size wb w1 → Calls Tryz.prog 29 #[] w1 fun e w' => ∃ s, e = .returned (wv (ecD s)) ∧ (∀ F : Nat → Prop, (∀ k, F k → k < w1.heap.size) → Ww (mask (fun k => @decide (F k) (Classical.propDecidable (F k))) w') (ecD s)) ∧ Below w1.heap.size w1 w' ∧ Below wb.heap.size wb w') := fun w1 b1 => (echo2 w1).mono fun e w' ⟨he, hw, hb⟩ => ⟨_, he, hw, hb, b1.trans (hb.mono b1.size)⟩
  have HBW0 := HBW
  rw [hA] at HBW ⊢
  clear hz hlong face bb xb
  have HSH : Hid (Calls Tryz.prog 8 #[] (w.alloc (.cells #[.int .i64 ok, .int .i64 ofr, .int .i64 oik, .int .i64 oT, .int .i64 ob, .int .i64 oc, .int .i64 od, .int .i64 oe, .int .i64 og, .int .i64 oco] 43)) fun e w' => e = .returned (.bool true) ∧ Below wb.heap.size wb w') := by rw [← hwb]; exact SH
  clear SH hwb
  go_enter Tryz.func5, Tryz.ntmps5
  go_wp2_with (first
    | (go_at_call 8; refine (Hid.out HSH).mono ?_; rintro e w1 ⟨rfl, hb⟩; have HB : Hid _ := hb; clear hb HSH)
    | (go_at_call 29; refine (Hid.out HEC _ (Hid.out HB)).mono ?_; rintro e w2 ⟨s1, rfl, hw, hb1, hb⟩; have HW2 : Hid _ := And.intro hw hb; clear hw hb hb1 HB)
    | (go_at_call 9; refine (ec_new1 (Hid.out HFC).toFace (Hid.out HW2).1).mono ?_; rintro e w3 ⟨nb, F, rfl, h3⟩; have HE3 : Hid _ := h3; clear h3))
  have HB3 : Hid (Below wb.heap.size wb w3) := HW2.out.2.trans ((HFC.out.bel HE3.out).mono HW2.out.2.size)
  go_wp2_with (first
    | (go_at_call 29; refine (Hid.out HEC _ (Hid.out HB3)).mono ?_; rintro e w4 ⟨s2, rfl, hw, hb1, hb⟩; have HW4 : Hid _ := And.intro hw hb1; clear hw hb hb1 HEC)
    | (go_at_call 10; refine (T2.new (Hid.out HFC).toFace (Hid.out HW2).2 (Hid.out HE3) rfl (Hid.out HW4).2 (Hid.out HW4).1).mono ?_; rintro e w5 ⟨mb, H, x0, rfl, h5⟩; have HE5 : Hid _ := h5; clear h5))
  clear HW4 HE3 HB3
  go_loopw [9] (fun s9 wr => ∃ (i : Nat) (x : Nd) (F H : Nat → Prop), s9 = .int .i64 i ∧ i ≤ z.length ∧ Hid (T2 PN wb w2 s1 s2 i x nb mb F H wr)) (fun s9 _ => z.length - (intOf s9).toNat)
  case atStart => exact ⟨0, x0, F, H, rfl, Nat.zero_le _, HE5.out⟩
  case round =>
    clear HE5
    obtain ⟨i, x, FX, HX, rfl, hi, HT⟩ := hrel
    by_cases hlt : i < z.length
    · have hlt' : (i : Int) < (z.length : Int) := by omega
      obtain ⟨k, fr, ik, T, b, c, d, e, g, co, xb, off, rfl, hwf, hmw, hcs⟩ := RdQ.cells HZ.out hlt
      have HCS : Hid (∀ W, Below wb.heap.size wb W → _) := fun W hW => hcs W (HBW0.out W hW)
      obtain ⟨c0, c1, c2, c3, c4, c5, c6, c7, c8, c9⟩ := hcs _ (HBW0.out _ (HT.out.bel HFC.out.toFace))
      clear hcs
      by_cases k0 : k = 0
      · have dk0 : (k == 0) = true := by simpa using k0
        clear k0
        go_wp2_with fail
        go_region_held3 (fun w' => w'.cell? ⟨xb, off + i * 10 + 1, none⟩ = some (.int .i64 fr) ∧ w'.cell? ⟨xb, off + i * 10 + 2, none⟩ = some (.int .i64 ik) ∧ w'.cell? ⟨xb, off + i * 10 + 3, none⟩ = some (.int .i64 T) ∧ w'.cell? ⟨xb, off + i * 10 + 4, none⟩ = some (.int .i64 b) ∧ w'.cell? ⟨xb, off + i * 10 + 5, none⟩ = some (.int .i64 c) ∧ w'.cell? ⟨xb, off + i * 10 + 6, none⟩ = some (.int .i64 d) ∧ w'.cell? ⟨xb, off + i * 10 + 7, none⟩ = some (.int .i64 e) ∧ w'.cell? ⟨xb, off + i * 10 + 8, none⟩ = some (.int .i64 g) ∧ w'.cell? ⟨xb, off + i * 10 + 9, none⟩ = some (.int .i64 co)) (first | (go_keep; done) | exact Hid.out KEEP) (first
          | (go_at_call 11; refine (Tw.phear (Hid.out HFC).toFace ((Hid.out HT).tw.on (Hid.out HFC).toFace (below_drew _)) fr ik co T b c d e g hwf hmw).mono ?_; rintro en w6 ⟨F2, rfl, h6, _⟩; have HE6 : Hid _ := h6; have KEEP : Hid _ := (Hid.out HCS _ (h6.bel (Hid.out HFC).toFace)).2; clear h6))
        clear KEEP c0 c1 c2 c3 c4 c5 c6 c7 c8 c9
        obtain ⟨c0, c1, c2, c3, c4, c5, c6, c7, c8, c9⟩ := HCS.out _ (HE6.out.bel HFC.out.toFace)
        go_wp2_with fail
        go_region_held3 (fun w' => w'.cell? ⟨xb, off + i * 10 + 1, none⟩ = some (.int .i64 fr) ∧ w'.cell? ⟨xb, off + i * 10 + 2, none⟩ = some (.int .i64 ik) ∧ w'.cell? ⟨xb, off + i * 10 + 3, none⟩ = some (.int .i64 T) ∧ w'.cell? ⟨xb, off + i * 10 + 4, none⟩ = some (.int .i64 b) ∧ w'.cell? ⟨xb, off + i * 10 + 5, none⟩ = some (.int .i64 c) ∧ w'.cell? ⟨xb, off + i * 10 + 6, none⟩ = some (.int .i64 d) ∧ w'.cell? ⟨xb, off + i * 10 + 7, none⟩ = some (.int .i64 e) ∧ w'.cell? ⟨xb, off + i * 10 + 8, none⟩ = some (.int .i64 g) ∧ w'.cell? ⟨xb, off + i * 10 + 9, none⟩ = some (.int .i64 co)) (first | (go_keep; done) | exact Hid.out KEEP) (first
          | (go_at_call 12; refine (Tw.rhear (Hid.out HFC).toFace ((Hid.out HE6).on (Hid.out HFC).toFace (below_drew _)) fr ik co T b c d e g).mono ?_; rintro en w7 ⟨H2, rfl, h7, _⟩; have HE7 : Hid _ := h7; have KEEP : Hid _ := (Hid.out HCS _ (h7.bel (Hid.out HFC).toFace)).2; clear h7))
        clear KEEP
        go_wp2
        go_roundw
        case rel => exact ⟨i + 1, _, F2, H2, by go_num, by omega, HT.out.heard HE7.out⟩
        case measure => simp [intOf]; omega
      · have dk0 : (k == 0) = false := by simpa using k0
        by_cases k1 : k = 1
        · have dk1 : (k == 1) = true := by simpa using k1
          clear k0 k1
          cases hs : safe (ecD s1) 0 x
          · have HS : Hid (safe (ecD s1) 0 x = false) := hs
            clear hs
            go_wp2_with (first
              | (go_at_call 13; refine (Tw.pidle (Hid.out HFC).toFace (Hid.out HT).tw (Hid.out HS)).mono ?_; rintro en w6 ⟨rfl, h6⟩; have HE6 : Hid _ := h6; clear h6)
              | (go_at_call 14; refine (Tw.ridle (Hid.out HFC).toFace (Hid.out HE6) (Hid.out HS)).mono ?_; rintro en w7 ⟨rfl, h7⟩; have HE7 : Hid _ := h7; clear h7))
            go_roundw
            case rel => exact ⟨i + 1, x, FX, HX, by go_num, by omega, T2.more ⟨HE7.out, HT.out.st, HT.out.sn, HT.out.lg, HT.out.ql⟩⟩
            case measure => simp [intOf]; omega
          · have HS : Hid (safe (ecD s1) 0 x = true ∧ x.sn ≤ 900000 ∧ x.lg.length ≤ 10000) := ⟨hs, by have := HT.out.sn; omega, by have := HT.out.lg; omega⟩
            clear hs
            go_wp2_with (first
              | (go_at_call 13; refine (Tw.pgo (Hid.out HFC).toFace (Hid.out HT).tw (Hid.out HS).1 (Hid.out HS).2.1 (Hid.out HS).2.2).mono ?_; rintro en w6 ⟨va, vc, F2, rfl, _, h6, _⟩; have HE6 : Hid _ := h6; clear h6)
              | (go_at_call 14; refine (Tw.rgo (Hid.out HFC).toFace (Hid.out HE6) (Hid.out HS).1 (Hid.out HS).2.1 (Hid.out HS).2.2).mono ?_; rintro en w7 ⟨vm, H2, rfl, _, h7, _⟩; have HE7 : Hid _ := h7; clear h7))
            go_roundw
            case rel => exact ⟨i + 1, _, F2, H2, by go_num, by omega, HT.out.stepped HE7.out⟩
            case measure => simp [intOf]; omega
        · have dk1 : (k == 1) = false := by simpa using k1
          clear k0 k1
          go_wp2
          go_roundw
          case rel => exact ⟨i + 1, x, FX, HX, by go_num, by omega, HT.out.more⟩
          case measure => simp [intOf]; omega
    · obtain rfl : i = z.length := by omega
      obtain ⟨n, hn⟩ : ∃ n, x.q.length = n := ⟨_, rfl⟩
      obtain ⟨B, hB⟩ : ∃ B, C.bnd 3 0 x.c = B := ⟨_, rfl⟩
      obtain ⟨S, hS⟩ : ∃ S, x.st = S := ⟨_, rfl⟩
      obtain ⟨L, hL⟩ : ∃ L, x.lg.length = L := ⟨_, rfl⟩
      obtain ⟨E, hE⟩ : ∃ E, heE 3 0 x ofr oik ((oT, ob, oc), od, oe, og) = E := ⟨_, rfl⟩
      obtain ⟨X2, hX2⟩ : ∃ X2, heN 3 0 x ofr oik ((oT, ob, oc), od, oe, og) = X2 := ⟨_, rfl⟩
      have hq64 : n ≤ 64 := by rw [← hn]; exact HT.out.ql
      have hL10 : L ≤ 10000 := by rw [← hL]; have := HT.out.lg; omega
      have HWT : Hid (∀ W F H, Tw PN wb w2 (ecD s1) (ecD s2) 0 x x nb mb F H W → Calls Tryz.prog 24 #[.pointer (some ⟨nb, 0, none⟩)] W fun en w' => ∃ a c, en = .returned (.slice a n c) ∧ (Q.Own w' (.slice a n c) x.q ∧ ∀ k, (Value.slice a n c).ownBlock = some k → ¬ F k ∧ ¬ H k) ∧ Tw PN wb w2 (ecD s1) (ecD s2) 0 x x nb mb F H w' ∧ Below W.heap.size W w') := fun W F H h => by
        have := h.pwaiting HFC.out
        rw [hn] at this
        refine this.mono fun en w' ⟨a, c, he, ho, hk, ht, hbw⟩ => ⟨a, c, he, ⟨ho, fun k g => ?_⟩, ht, hbw⟩
        have h1 := hk k g
        exact ⟨fun q => by have := h.lt HFC.out.toFace k (.inl q); omega, fun q => by have := h.lt HFC.out.toFace k (.inr q); omega⟩
      have HBD : Hid (∀ W F H y, Tw PN wb w2 (ecD s1) (ecD s2) 0 x y nb mb F H W → ∃ cb, W.cell? ⟨nb, 0, none⟩ = some (.pointer (some ⟨cb, 0, none⟩)) ∧ Hid (Calls Tryz.prog 22 #[.pointer (some ⟨cb, 0, none⟩)] W fun en w' => en = .returned (.int .i64 B) ∧ Tw PN wb w2 (ecD s1) (ecD s2) 0 x y nb mb F H w' ∧ Below W.heap.size W w')) := fun W F H y h => by
        obtain ⟨cb, h1, h2⟩ := h.pbound HFC.out.toFace
        rw [ecD_n, hB] at h2
        exact ⟨cb, h1, h2⟩
      have HSTT : Hid (∀ W F H y, Tw PN wb w2 (ecD s1) (ecD s2) 0 x y nb mb F H W → Calls Tryz.prog 20 #[.pointer (some ⟨nb, 0, none⟩)] W fun en w' => en = .returned (.int .i64 S) ∧ W = w') := fun W F H y h => by
        have := HFC.out.state h.pn
        rw [hS] at this
        exact this
      have HLG : Hid (∀ W F H y, Tw PN wb w2 (ecD s1) (ecD s2) 0 x y nb mb F H W → Calls Tryz.prog 27 #[.pointer (some ⟨nb, 0, none⟩)] W fun en w' => ∃ a c, en = .returned (.slice a L c) ∧ Tw PN wb w2 (ecD s1) (ecD s2) 0 x y nb mb F H w' ∧ Below W.heap.size W w') := fun W F H y h => by
        have := h.plog HFC.out.toFace (by rw [hL]; exact hL10)
        rw [hL] at this
        exact this.mono fun en w' ⟨a, c, he, _, ht, hb⟩ => ⟨a, c, he, ht, hb⟩
      have HPH : Hid (∀ W F H, Tw PN wb w2 (ecD s1) (ecD s2) 0 x x nb mb F H W → Calls Tryz.prog 11 #[.pointer (some ⟨nb, 0, none⟩), .int .i64 ofr, .agg #[.int .i64 oik, .int .i64 oT, .int .i64 ob, .int .i64 oc, .int .i64 od, .int .i64 oe, .int .i64 og, .int .i64 oco]] W fun en w' => ∃ F2, en = .returned (.int .i64 E) ∧ Tw PN wb w2 (ecD s1) (ecD s2) 0 X2 x nb mb F2 H w' ∧ Fr F W w') := fun W F H h => by
        have := h.phear HFC.out.toFace ofr oik oco oT ob oc od oe og hfr hm
        rw [ecD_n, hE, hX2] at this
        exact this
      have HRH : Hid (∀ W F H, Tw PN wb w2 (ecD s1) (ecD s2) 0 X2 x nb mb F H W → Calls Tryz.prog 12 #[.pointer (some ⟨mb, 0, none⟩), .int .i64 ofr, .agg #[.int .i64 oik, .int .i64 oT, .int .i64 ob, .int .i64 oc, .int .i64 od, .int .i64 oe, .int .i64 og, .int .i64 oco]] W fun en w' => ∃ H2, en = .returned (.int .i64 E) ∧ Tw PN wb w2 (ecD s1) (ecD s2) 0 X2 X2 nb mb F H2 w' ∧ Fr H W w') := fun W F H h => by
        have := h.rhear HFC.out.toFace ofr oik oco oT ob oc od oe og
        rw [ecD_n, hE, hX2] at this
        exact this
      have HW2T : Hid (∀ W F H, E = 0 → oik = 0 → Tw PN wb w2 (ecD s1) (ecD s2) 0 X2 X2 nb mb F H W → Calls Tryz.prog 24 #[.pointer (some ⟨nb, 0, none⟩)] W fun en w' => ∃ a c, en = .returned (.slice a (n + 1) c) ∧ Below A w w') := fun W F H e0 e1 h => by
        have := h.pwaiting HFC.out
        have hE' := hE
        rw [e1] at hE'
        have hl : X2.q.length = n + 1 := by rw [← hX2, e1, ← hn]; exact heN_len (by rw [hE']; exact e0)
        rw [hl] at this
        exact this.mono fun en w' ⟨a, c, he, _, _, ht, _⟩ => ⟨a, c, he, HBW.out _ (ht.bel HFC.out.toFace)⟩
      have HX2 : Hid (E ≠ 0 → X2 = x) := fun e => by rw [← hX2]; exact heN_no (by rw [hE]; exact e)
      have HSM : Hid (∀ W va vb, Q.Own W va x.q → Q.Own W vb x.q → Calls Tryz.prog 15 #[va, vb] W fun e w' => e = .returned (.bool true) ∧ Below W.heap.size W w') := fun W va vb h1 h2 => Q.same_any h1 h2 (by rw [hn]; omega)
      clear hB hS hL hE hX2 HZ
      go_wp2_with (first
        | (go_at_call 24; refine (Hid.out HWT _ _ _ (Hid.out HT).tw).mono ?_; rintro en w6 ⟨a6, l6, rfl, h6, t6, _⟩; have HU6 : Hid _ := h6; have HE6 : Hid _ := t6; obtain ⟨cb, hcb, HBc⟩ := Hid.out HBD _ _ _ _ t6; clear h6 t6)
        | (go_at_call 22; refine (Hid.out HBc).mono ?_; rintro en w7 ⟨rfl, t7, b7⟩; have HE7 : Hid _ := And.intro t7 b7; clear t7 b7 HBc hcb)
        | (go_at_call 20; refine (Hid.out HSTT _ _ _ _ (Hid.out HE7).1).mono ?_; rintro en w8 ⟨rfl, rfl⟩)
        | (go_at_call 27; refine (Hid.out HLG _ _ _ _ (Hid.out HE7).1).mono ?_; rintro en w9 ⟨a9, l9, rfl, t9, b9⟩; have HE9 : Hid _ := And.intro t9 b9; obtain ⟨o1, o2, o3, o4, o5, o6, o7, o8, o9⟩ := Hid.out HOX _ (t9.bel (Hid.out HFC).toFace); clear t9 b9)
        | (go_at_call 11; refine (Hid.out HPH _ _ _ (Hid.out HE9).1).mono ?_; rintro en w10 ⟨F2, rfl, t10, f10⟩; have HE10 : Hid _ := And.intro t10 f10; obtain ⟨p1, p2, p3, p4, p5, p6, p7, p8, p9⟩ := Hid.out HOX _ (t10.bel (Hid.out HFC).toFace); clear t10 f10))
      by_cases e0 : E = 0
      · subst e0
        by_cases e1 : oik = 0
        · have d1 : (oik != 0) = false := by simpa using e1
          have HW3T := fun W F H => HW2T.out W F H rfl e1
          have HW4T : Hid _ := HW3T
          clear e1 HW3T HW2T
          go_wp2_with (first
            | (go_at_call 12; refine (Hid.out HRH _ _ _ (Hid.out HE10).1).mono ?_; rintro en w11 ⟨H2, rfl, t11, f11⟩; have HE11 : Hid _ := And.intro t11 f11; obtain ⟨q1, q2, q3, q4, q5, q6, q7, q8, q9⟩ := Hid.out HOX _ (t11.bel (Hid.out HFC).toFace); clear t11 f11)
            | (go_at_call 24; refine (Hid.out HW4T _ _ _ (Hid.out HE11).1).mono ?_; rintro en w12 ⟨a12, l12, rfl, t12⟩; have HE12 : Hid _ := t12; clear t12))
          go_ret
          exact ⟨rfl, HE12.out⟩
        · have d1 : (oik != 0) = true := by simpa using e1
          clear e1
          go_wp2_with (first
            | (go_at_call 12; refine (Hid.out HRH _ _ _ (Hid.out HE10).1).mono ?_; rintro en w11 ⟨H2, rfl, t11, f11⟩; have HE11 : Hid _ := And.intro t11 f11; obtain ⟨q1, q2, q3, q4, q5, q6, q7, q8, q9⟩ := Hid.out HOX _ (t11.bel (Hid.out HFC).toFace); clear t11 f11))
          go_ret
          exact ⟨rfl, HBW.out _ (HE11.out.1.bel HFC.out.toFace)⟩
      · have d0 : (E == 0) = false := by simpa using e0
        obtain rfl := HX2.out e0
        clear e0
        have HKU : Hid (∀ w11 w12, Below w6.heap.size w6 w7 → Below w7.heap.size w7 w9 → Fr FX w9 w10 → Fr HX w10 w11 → Below w11.heap.size w11 w12 → Q.Own w12 (.slice a6 n l6) X2.q) := fun w11 w12 q1 q2 q3 q4 q5 => by
          obtain ⟨u, hk⟩ := HU6.out
          have r1 := u.keep (Fr.of_below (S := fun _ => False) q1).toQ (fun _ _ g => g)
          have r2 := r1.keep (Fr.of_below (S := fun _ => False) q2).toQ (fun _ _ g => g)
          have r3 := r2.keep q3.toQ (fun k g => (hk k g).1)
          have r4 := r3.keep q4.toQ (fun k g => (hk k g).2)
          exact r4.keep (Fr.of_below (S := fun _ => False) q5).toQ (fun _ _ g => g)
        go_wp2_with (first
          | (go_at_call 12; refine (Hid.out HRH _ _ _ (Hid.out HE10).1).mono ?_; rintro en w11 ⟨H2, rfl, t11, f11⟩; have HE11 : Hid _ := And.intro t11 f11; obtain ⟨q1, q2, q3, q4, q5, q6, q7, q8, q9⟩ := Hid.out HOX _ (t11.bel (Hid.out HFC).toFace); clear t11 f11)
          | (go_at_call 24; refine (Hid.out HWT _ _ _ (Hid.out HE11).1).mono ?_; rintro en w12 ⟨a12, l12, rfl, h12, t12, b12⟩; have HU12 : Hid _ := And.intro h12.1 (Hid.out HKU _ _ (Hid.out HE7).2 (Hid.out HE9).2 (Hid.out HE10).2 (Hid.out HE11).2 b12); have HE12 : Hid _ := t12; clear h12 t12 b12)
          | (go_at_call 15; refine (Hid.out HSM _ _ _ (Hid.out HU12).1 (Hid.out HU12).2).mono ?_; rintro en w13 ⟨rfl, b13⟩; have t13 := (Hid.out HE12).on (Hid.out HFC).toFace b13; have HE13 : Hid _ := t13; obtain ⟨cb, hcb, HBc⟩ := Hid.out HBD _ _ _ _ t13; clear t13 b13)
          | (go_at_call 22; refine (Hid.out HBc).mono ?_; rintro en w14 ⟨rfl, t14, b14⟩; have HE14 : Hid _ := t14; clear t14 b14 HBc hcb)
          | (go_at_call 20; refine (Hid.out HSTT _ _ _ _ (Hid.out HE14)).mono ?_; rintro en w15 ⟨rfl, rfl⟩)
          | (go_at_call 27; refine (Hid.out HLG _ _ _ _ (Hid.out HE14)).mono ?_; rintro en w16 ⟨a16, l16, rfl, t16, b16⟩; have HE16 : Hid _ := t16; clear t16 b16))
        go_ret
        exact ⟨rfl, HBW.out _ (HE16.out.bel HFC.out.toFace)⟩
end Go.Proofs.YtadmojehemdoaaaGreat
