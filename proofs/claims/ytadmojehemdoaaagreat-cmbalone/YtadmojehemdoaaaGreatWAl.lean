/- Proved: the walk of CmbAlone. -/
import Derived.Test.YtadmojehemdoaaaGreatWEd
namespace Go.Proofs.YtadmojehemdoaaaGreat
open Go.RowKit Go.Shelf
set_option linter.unusedVariables false
set_option maxRecDepth 100000

theorem Al.notyet {s k l : Nat} {x : Nd} (h : Al k l x) (hc : x.c = C.noC) : safe (ecD s) 0 x = false := by
  cases e : safe (ecD s) 0 x
  · rfl
  · obtain ⟨m, r, hq, _, h2, _⟩ := safe_parts e
    obtain ⟨t, i, rfl, t0, _, _⟩ := h.mem m (by rw [hq]; simp)
    rw [hc, ecD_n] at h2
    have e0 : C.bnd 3 0 C.noC = 0 := by decide
    rw [e0] at h2
    have : t < 0 := h2
    omega
theorem Al.start (s : Nat) : Al 0 0 (nd0 (ecD s) 0) ∧ (nd0 (ecD s) 0).c = C.noC ∧ lowN (nd0 (ecD s) 0).q = 0 ∧ ∀ m ∈ (nd0 (ecD s) 0).q, m.1.2.2 < ((0 : Nat) : Int) :=
  ⟨⟨rfl, rfl, rfl, List.Pairwise.nil, rfl, fun m h => by cases h⟩, rfl, rfl, fun m h => by cases h⟩
theorem Al.told {k l : Nat} {x : Nd} (h : Al k l x) {fr : Int} (hf : fr = 1 ∨ fr = 2) (hc : x.c fr = 0) : heE 3 0 x fr 2 ((1125899906842624, 0, 0), 0, 0, 0) = 0 ∧ Al k l (heN 3 0 x fr 2 ((1125899906842624, 0, 0), 0, 0, 0)) ∧ (heN 3 0 x fr 2 ((1125899906842624, 0, 0), 0, 0, 0)).q = x.q ∧ (heN 3 0 x fr 2 ((1125899906842624, 0, 0), 0, 0, 0)).c = C.upC x.c fr 1125899906842624 := by
  obtain ⟨e1, e2⟩ := heB (x := x) (t := 1125899906842624) ((1125899906842624, 0, 0), 0, 0, 0) rfl hf (by decide) (by rw [hc]; omega)
  refine ⟨e1, ?_⟩
  rw [e2]
  exact ⟨⟨h.st, h.sn, h.lg, h.srt, h.len, h.mem⟩, rfl, rfl⟩
set_option maxHeartbeats 8000000 in
theorem alone_walk {PN : World → Wd → Nat → Nd → Nat → (Nat → Prop) → World → Prop} (face : FaceW PN) (w : World) (sa : Option Addr) (sc : Nat) (z : List Int) (hz : InB w sa z) :
    Calls Tryz.prog 4 #[.slice sa z.length sc] w fun e w' => e = .returned (.bool true) ∧ Below w.heap.size w w' := by
  have SH := shown_any face.toFace w
  by_cases hlong : 30 < z.length
  · have hl' : (30 : Int) < (z.length : Int) := by omega
    clear hz
    go_enter Tryz.func4, Tryz.ntmps4
    go_wp2_with (go_at_call 8; refine SH.mono ?_; rintro e w1 ⟨rfl, hb⟩; have HB : Hid _ := hb; clear hb SH)
    go_ret
    exact ⟨rfl, HB.out⟩
  have hz2 : z.length ≤ 30 := by omega
  have hl' : ¬ (30 : Int) < (z.length : Int) := by omega
  have HZ : Hid (∀ i, i < z.length → ∃ v b off, 0 ≤ v ∧ v ≤ 255 ∧ sa = some ⟨b, off, none⟩ ∧ ∀ W, Below w.heap.size w W → W.cell? ⟨b, off + i, none⟩ = some (.int .u8 v)) := fun i hi => hz.cell hi
  have HEC : Hid (∀ w1, Below w.heap.size w w1 → Calls Tryz.prog 29 #[] w1 fun e w' => ∃ s, e = .returned (wv (ecD s)) ∧ Ww w' (ecD s) ∧ Below w.heap.size w w') := fun w1 b1 => (echo_any w1).mono fun e w' ⟨he, hw, hb⟩ => ⟨_, he, hw, b1.trans (hb.mono b1.size)⟩
  have HN : Hid (∀ W s, Ww W (ecD s) → Below w.heap.size w W → Calls Tryz.prog 9 #[wv (ecD s), .int .i64 0] W fun en w' => ∃ nb F x, en = .returned (.tuple #[.pointer (some ⟨nb, 0, none⟩), .int .i64 0]) ∧ (Al 0 0 x ∧ x.c = C.noC ∧ lowN x.q = 0 ∧ ∀ m ∈ x.q, m.1.2.2 < ((0 : Nat) : Int)) ∧ Ec PN w W s x nb F w') := fun W s hw hb => (Ec.new face.toFace hw hb).mono fun en w' ⟨nb, F, he, hp⟩ => ⟨nb, F, _, he, Al.start s, hp⟩
  have H1 : Hid (∀ {W0 W s nb F x} {i : Nat} {t : Int} {n : Nat}, Al 0 i x ∧ x.c = C.noC ∧ lowN x.q = n ∧ (∀ m ∈ x.q, m.1.2.2 < (i : Int)) → 0 ≤ t → t ≤ 255 → i < 30 → Ec PN w W0 s x nb F W → Calls Tryz.prog 11 #[.pointer (some ⟨nb, 0, none⟩), .int .i64 1, .agg #[.int .i64 0, .int .i64 t, .int .i64 1, .int .i64 i, .int .i64 0, .int .i64 0, .int .i64 i, .int .i64 0]] W fun en w' => ∃ F2 x2, en = .returned (.int .i64 0) ∧ (Al 0 (i + 1) x2 ∧ x2.c = C.noC ∧ lowN x2.q = n + (if t < 100 then 1 else 0) ∧ ∀ m ∈ x2.q, m.1.2.2 < ((i + 1 : Nat) : Int)) ∧ Ec PN w W0 s x2 nb F2 w') := fun {W0 W s nb F x i t n} g h0 h1 h2 h => by
    obtain ⟨q1, q2, q3, q4, q5⟩ := g.1.hear g.2.1 h0 h1 h2 g.2.2.2
    have := h.hear face.toFace 1 0 0 t 1 i 0 0 i (by decide) (mwf_small (by omega))
    rw [show ((t, (1 : Int), (i : Int)), (0 : Int), (0 : Int), (i : Int)) = am t i from rfl, q1] at this
    rw [g.2.2.1] at q4
    exact this.mono fun en w' ⟨F2, he, hp⟩ => ⟨F2, _, he, ⟨q2, q3, q4, q5⟩, hp⟩
  have HF : Hid (∀ {W0 W s nb F x} {i : Nat}, Al 0 i x → x.c = C.noC → Ec PN w W0 s x nb F W → Calls Tryz.prog 18 #[.pointer (some ⟨nb, 0, none⟩)] W fun en w' => en = .returned (.bool false) ∧ Ec PN w W0 s x nb F w') := fun {W0 W s nb F x i} g hc h => by
    have := h.safe face.toFace
    rw [g.notyet hc] at this
    exact this
  have H2 : Hid (∀ {W0 W s nb F x} {l n : Nat}, Al 0 l x → x.c = C.noC → lowN x.q = n → Ec PN w W0 s x nb F W → Calls Tryz.prog 11 #[.pointer (some ⟨nb, 0, none⟩), .int .i64 1, .agg #[.int .i64 2, .int .i64 1125899906842624, .int .i64 0, .int .i64 0, .int .i64 0, .int .i64 0, .int .i64 0, .int .i64 0]] W fun en w' => ∃ F2 x2, en = .returned (.int .i64 0) ∧ (Al 0 l x2 ∧ x2.c 1 = 1125899906842624 ∧ x2.c 2 = 0 ∧ lowN x2.q = n) ∧ Ec PN w W0 s x2 nb F2 w') := fun {W0 W s nb F x l n} g hc hn h => by
    obtain ⟨q1, q2, q3, q4⟩ := g.told (fr := 1) (.inl rfl) (by rw [hc]; rfl)
    have := h.hear face.toFace 1 2 0 1125899906842624 0 0 0 0 0 (by decide) (mwf_small (by omega))
    rw [q1] at this
    exact this.mono fun en w' ⟨F2, he, hp⟩ => ⟨F2, _, he, ⟨q2, by rw [q4]; exact C.upC_at _ _ _, by rw [q4, C.upC_out _ _ (by decide), hc]; rfl, by rw [q3]; exact hn⟩, hp⟩
  have H3 : Hid (∀ {W0 W s nb F x} {l n : Nat}, Al 0 l x ∧ x.c 1 = 1125899906842624 ∧ x.c 2 = 0 ∧ lowN x.q = n → Ec PN w W0 s x nb F W → Calls Tryz.prog 11 #[.pointer (some ⟨nb, 0, none⟩), .int .i64 2, .agg #[.int .i64 2, .int .i64 1125899906842624, .int .i64 0, .int .i64 0, .int .i64 0, .int .i64 0, .int .i64 0, .int .i64 0]] W fun en w' => ∃ F2 x2, en = .returned (.int .i64 0) ∧ (Al 0 l x2 ∧ C.bnd 3 0 x2.c = 1125899906842624 ∧ lowN x2.q + 0 = n) ∧ Ec PN w W0 s x2 nb F2 w') := fun {W0 W s nb F x l n} g h => by
    obtain ⟨q1, q2, q3, q4⟩ := g.1.told (fr := 2) (.inr rfl) g.2.2.1
    have := h.hear face.toFace 2 2 0 1125899906842624 0 0 0 0 0 (by decide) (mwf_small (by omega))
    rw [q1] at this
    exact this.mono fun en w' ⟨F2, he, hp⟩ => ⟨F2, _, he, ⟨q2, by rw [bnd3, q4, C.upC_out _ _ (by decide), C.upC_at, g.2.1]; decide, by rw [q3]; exact g.2.2.2⟩, hp⟩
  have HT : Hid (∀ {W0 W s nb F x} {k l n : Nat}, Al k l x ∧ C.bnd 3 0 x.c = 1125899906842624 ∧ lowN x.q + k = n → k < n → k < 30 → Ec PN w W0 s x nb F W → Calls Tryz.prog 13 #[.pointer (some ⟨nb, 0, none⟩)] W fun en w' => ∃ (t : Int) (i : Nat) (st : Int) (b vc : Nat) (F2 : Nat → Prop) (x2 : Nd), en = .returned (.tuple #[.agg #[.int .i64 t, .int .i64 1, .int .i64 i, .int .i64 0, .int .i64 0, .int .i64 i, .int .i64 st], .slice (some ⟨b, 0, none⟩) 1 vc, .int .i64 0]) ∧ (0 ≤ t ∧ t < 100 ∧ i < 30) ∧ Hid (b < w'.heap.size ∧ ∀ c, c < 6 → w'.cell? ⟨b, c, none⟩ = (flatM [⟨t + 2, 0, (k : Int), 1, 0, (i : Int) + 1⟩])[c]?) ∧ (Al (k + 1) (l - 1) x2 ∧ C.bnd 3 0 x2.c = 1125899906842624 ∧ lowN x2.q + (k + 1) = n ∧ 1 ≤ l) ∧ Ec PN w W0 s x2 nb F2 w') := fun {W0 W s nb F x k l n} g hk hk3 h => by
    obtain ⟨t, i, q1, q2, q3, q4, q5, q6, q7, q8, q9, q10⟩ := g.1.step (s := s) g.2.1 (by omega)
    have := h.step face.toFace q5 (by rw [g.1.sn]; omega) (by rw [g.1.lg]; omega)
    rw [q6] at this
    refine this.mono fun en w' ⟨va, vc, F2, he, hr, hp⟩ => ?_
    obtain ⟨b, rfl, hb, hc⟩ := hr 0 (by simp)
    refine ⟨t, i, (spS (ecD s) 0 x).1, b, vc, F2, _, ?_, ⟨q2, q3, q4⟩, ⟨hb, fun c h6 => by have := hc c h6; simpa using this⟩, ⟨q7, by rw [q10]; exact g.2.1, by omega, q8⟩, hp⟩
    rw [he]
    unfold spD
    rw [q1]
    rfl
  have HD : Hid (∀ {W0 W s nb F x} {k l n : Nat}, Al k l x ∧ C.bnd 3 0 x.c = 1125899906842624 ∧ lowN x.q + k = n → k = n → Ec PN w W0 s x nb F W → Calls Tryz.prog 18 #[.pointer (some ⟨nb, 0, none⟩)] W fun en w' => en = .returned (.bool false) ∧ Ec PN w W0 s x nb F w') := fun {W0 W s nb F x k l n} g hk h => by
    have := h.safe face.toFace
    rw [g.1.done (by omega)] at this
    exact this
  have HL : Hid (∀ {W0 W s nb F x} {k l : Nat}, Al k l x → k ≤ 30 → Ec PN w W0 s x nb F W → Calls Tryz.prog 27 #[.pointer (some ⟨nb, 0, none⟩)] W fun en w' => ∃ la lc, en = .returned (.slice la k lc) ∧ Ec PN w W0 s x nb F w') := fun {W0 W s nb F x k l} g hk h => by
    have := h.log face.toFace (by rw [g.lg]; omega)
    rw [g.lg] at this
    exact this.mono fun en w' ⟨la, lc, he, _, hp⟩ => ⟨la, lc, he, hp⟩
  have HWT : Hid (∀ {W0 W s nb F x} {k l : Nat}, Al k l x → Ec PN w W0 s x nb F W → Calls Tryz.prog 24 #[.pointer (some ⟨nb, 0, none⟩)] W fun en w' => ∃ la lc, en = .returned (.slice la l lc) ∧ Below w.heap.size w w') := fun {W0 W s nb F x k l} g h => by
    have := face.waiting h.pn
    rw [g.len] at this
    exact this.mono fun en w' ⟨la, lc, he, _, _, hb⟩ => ⟨la, lc, he, (h.bel face.toFace).trans (hb.mono (h.bel face.toFace).size)⟩
  have HO : Hid (∀ {W0 W s nb F} {x : Nd}, Ec PN w W0 s x nb F W → ∀ W2, Below W.heap.size W W2 → Ec PN w W0 s x nb F W2) := fun h W2 hb => h.on face.toFace hb
  have HBL : Hid (∀ {W0 W s nb F} {x : Nd}, Ec PN w W0 s x nb F W → Below w.heap.size w W) := fun h => h.bel face.toFace
  clear hz hlong face
  go_enter Tryz.func4, Tryz.ntmps4
  go_wp2_with (first
    | (go_at_call 8; refine SH.mono ?_; rintro e w1 ⟨rfl, hb⟩; have HB : Hid _ := hb; clear hb SH)
    | (go_at_call 29; refine (Hid.out HEC _ (Hid.out HB)).mono ?_; rintro e w2 ⟨s, rfl, hw, hb⟩; have HW2 : Hid _ := And.intro hw hb; clear hw hb HEC)
    | (go_at_call 9; refine (Hid.out HN _ _ (Hid.out HW2).1 (Hid.out HW2).2).mono ?_; rintro e w3 ⟨nb, F, x0, rfl, g2, h2⟩; have HE : Hid _ := And.intro g2 h2; clear h2 g2 HN))
  go_loopw [5, 6] (fun s5 s6 wr => ∃ (i n : Nat) (x : Nd) (F : Nat → Prop), s5 = .int .i64 n ∧ s6 = .int .i64 i ∧ i ≤ z.length ∧ n ≤ i ∧ Hid ((Al 0 i x ∧ x.c = C.noC ∧ lowN x.q = n ∧ ∀ m ∈ x.q, m.1.2.2 < (i : Int)) ∧ Ec PN w w2 s x nb F wr)) (fun _ s6 _ => z.length - (intOf s6).toNat)
  case atStart => exact ⟨0, 0, x0, F, rfl, rfl, Nat.zero_le _, Nat.le_refl _, HE.out⟩
  case round =>
    obtain ⟨i, n, x, FX, rfl, rfl, hi, hni, HX⟩ := hrel
    by_cases hlt : i < z.length
    · have hlt' : (i : Int) < (z.length : Int) := by omega
      obtain ⟨v, xb, off, v0, v1, rfl, hcs⟩ := HZ.out i hlt
      have hcv := hcs _ (HBL.out HX.out.2)
      have HCV : Hid _ := hcs
      have h30 : i < 30 := by omega
      clear hcs
      by_cases c2 : v < 100
      · go_wp2_with (first
          | (go_at_call 11; refine (Hid.out H1 (Hid.out HX).1 v0 v1 h30 (Hid.out HO (Hid.out HX).2 _ (al _ _))).mono ?_; rintro e w5 ⟨F2, x2, rfl, g5, h5⟩; have HE5 : Hid _ := And.intro g5 h5; clear g5 h5 H1)
          | (go_at_call 18; refine (Hid.out HF (Hid.out HE5).1.1 (Hid.out HE5).1.2.1 (Hid.out HE5).2).mono ?_; rintro e w6 ⟨rfl, h6⟩; have hcv6 := Hid.out HCV _ (Hid.out HBL h6); have HE6 : Hid _ := h6; clear h6 HF))
        go_roundw
        case rel => exact ⟨i + 1, n + 1, x2, F2, by go_num, by go_num, by omega, by omega, And.intro (by have := HE5.out.1; rw [if_pos c2] at this; exact this) HE6.out⟩
        case measure => simp [intOf]; omega
      · go_wp2_with (first
          | (go_at_call 11; refine (Hid.out H1 (Hid.out HX).1 v0 v1 h30 (Hid.out HO (Hid.out HX).2 _ (al _ _))).mono ?_; rintro e w5 ⟨F2, x2, rfl, g5, h5⟩; have HE5 : Hid _ := And.intro g5 h5; clear g5 h5 H1)
          | (go_at_call 18; refine (Hid.out HF (Hid.out HE5).1.1 (Hid.out HE5).1.2.1 (Hid.out HE5).2).mono ?_; rintro e w6 ⟨rfl, h6⟩; have hcv6 := Hid.out HCV _ (Hid.out HBL h6); have HE6 : Hid _ := h6; clear h6 HF))
        go_roundw
        case rel => exact ⟨i + 1, n, x2, F2, rfl, by go_num, by omega, by omega, And.intro (by have := HE5.out.1; rw [if_neg (by omega)] at this; exact this) HE6.out⟩
        case measure => simp [intOf]; omega
    · obtain rfl : i = z.length := by omega
      have hn30 : n ≤ 30 := by omega
      go_wp2_with (go_at_call 11; first
        | (refine (Hid.out H2 (Hid.out HX).1.1 (Hid.out HX).1.2.1 (Hid.out HX).1.2.2.1 (Hid.out HX).2).mono ?_; rintro e w5 ⟨F2, x2, rfl, g5, h5⟩; have HE5 : Hid _ := And.intro g5 h5; clear g5 h5 H2)
        | (refine (Hid.out H3 (Hid.out HE5).1 (Hid.out HE5).2).mono ?_; rintro e w6 ⟨F3, x3, rfl, g6, h6⟩; have HE6 : Hid _ := And.intro g6 h6; clear g6 h6 H3))
      clear HX HE HE5 HZ H1 HF
      go_loopw [8] (fun s8 wr => ∃ (k l : Nat) (x : Nd) (F : Nat → Prop), s8 = .int .i64 k ∧ k ≤ n ∧ l + k = z.length ∧ Hid ((Al k l x ∧ C.bnd 3 0 x.c = 1125899906842624 ∧ lowN x.q + k = n) ∧ Ec PN w w2 s x nb F wr)) (fun s8 _ => n - (intOf s8).toNat)
      case atStart => exact ⟨0, z.length, x3, F3, rfl, Nat.zero_le _, rfl, HE6.out⟩
      case round =>
        obtain ⟨k, l, x, FX, rfl, hk, hkl, HX⟩ := hrel
        by_cases hlt : k < n
        · have hlt' : (k : Int) < (n : Int) := by omega
          have hk30 : k < 30 := by omega
          go_wp2_with (go_at_call 13; refine (Hid.out HT (Hid.out HX).1 hlt hk30 (Hid.out HX).2).mono ?_; rintro e w8 ⟨t, i, st, b, vc, F2, x2, rfl, ⟨t0, t1, i1⟩, hks, g8, h8⟩; have HE8 : Hid _ := And.intro g8 h8; clear g8 h8 HT)
          obtain ⟨W9, hW9⟩ : ∃ W9, W9 = w8.alloc (.cells #[.int .i64 t, .int .i64 1, .int .i64 i, .int .i64 0, .int .i64 0, .int .i64 i, .int .i64 st] 46) := ⟨_, rfl⟩
          rw [← hW9]
          have b9 : Below w8.heap.size w8 W9 := by rw [hW9]; exact al _ _
          have x9 : W9.heap[w8.heap.size]? = some (.cells #[.int .i64 t, .int .i64 1, .int .i64 i, .int .i64 0, .int .i64 0, .int .i64 i, .int .i64 st] 46 (0, 0)) := by rw [hW9]; exact (MapKept.heap_alloc _ _).1
          obtain ⟨hbl, hcc⟩ := Hid.out hks
          have kk : ∀ c, c < 6 → W9.cell? ⟨b, c, none⟩ = (flatM [⟨t + 2, 0, (k : Int), 1, 0, (i : Int) + 1⟩])[c]? := fun c hc => (b9.cell (p := ⟨b, c, none⟩) hbl).trans (hcc c hc)
          have k0 : W9.cell? ⟨b, 0, none⟩ = some (.int .i64 (t + 2)) := kk 0 (by omega)
          have k1 : W9.cell? ⟨b, 1, none⟩ = some (.int .i64 0) := kk 1 (by omega)
          have k2 : W9.cell? ⟨b, 2, none⟩ = some (.int .i64 k) := kk 2 (by omega)
          have k3 : W9.cell? ⟨b, 3, none⟩ = some (.int .i64 1) := kk 3 (by omega)
          have k5 : W9.cell? ⟨b, 5, none⟩ = some (.int .i64 ((i : Int) + 1)) := kk 5 (by omega)
          have y0 : W9.cell? ⟨w8.heap.size, 0, none⟩ = some (.int .i64 t) := cellN x9 0
          have y5 : W9.cell? ⟨w8.heap.size, 5, none⟩ = some (.int .i64 i) := cellN x9 5
          have HE9 : Hid (Ec PN w w2 s x2 nb F2 W9) := HO.out HE8.out.2 _ b9
          have i1' : (i : Int) < 30 := by omega
          obtain ⟨A, hA⟩ : ∃ A, w8.heap.size = A := ⟨_, rfl⟩
          rw [hA] at y0 y5
          simp only [hA]
          clear kk hcc hks hW9 b9 x9 hA
          go_quiet (fail)
          go_wp2
          go_roundw
          case rel => exact ⟨k + 1, l - 1, x2, F2, by go_num, by omega, by have := HE8.out.1.2.2.2; omega, And.intro ⟨HE8.out.1.1, HE8.out.1.2.1, HE8.out.1.2.2.1⟩ (HO.out HE9.out _ ⟨rfl, rfl, rfl, Nat.le_refl _, fun _ _ => rfl⟩)⟩
          case measure => simp [intOf]; omega
        · obtain rfl : k = n := by omega
          have dq : ((l : Int) == (z.length : Int) - (k : Int)) = true := by simp; omega
          go_wp2_with (first
            | (go_at_call 18; refine (Hid.out HD (Hid.out HX).1 rfl (Hid.out HX).2).mono ?_; rintro e w9 ⟨rfl, h9⟩; have HE9 : Hid _ := h9; clear h9 HD)
            | (go_at_call 27; refine (Hid.out HL (Hid.out HX).1.1 hn30 (Hid.out HE9)).mono ?_; rintro e w10 ⟨la, lc, rfl, h10⟩; have HE10 : Hid _ := h10; clear h10 HL)
            | (go_at_call 24; refine (Hid.out HWT (Hid.out HX).1.1 (Hid.out HE10)).mono ?_; rintro e w11 ⟨lb, ld, rfl, h11⟩; have HE11 : Hid _ := h11; clear h11 HWT))
          go_ret
          exact ⟨rfl, HE11.out⟩
end Go.Proofs.YtadmojehemdoaaaGreat
