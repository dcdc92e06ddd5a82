/- Proved: the walk of CmbPromise. -/
import Derived.Test.YtkodjioofkdepaaShw
namespace Go.Proofs.Ytkodjioofkdepaa
open Go.RowKit Go.Shelf
set_option linter.unusedVariables false
set_option maxRecDepth 100000

/-- The small federation's node, behind i calls. -/
structure Po (PN : World → Wd → Nat → Nd → Nat → (Nat → Prop) → World → Prop) (w w0 : World) (s i : Nat) (x : Nd) (nb : Nat) (F : Nat → Prop) (W : World) : Prop where
  ec : Ec PN w w0 s x nb F W
  st : x.st = 0
  sn : x.sn ≤ i
  lg : x.lg.length ≤ i
  od : Ord 3 0 x
  td : Tld (ecD s) 0 x
theorem Po.start {PN : World → Wd → Nat → Nd → Nat → (Nat → Prop) → World → Prop} {w w0 : World} {s : Nat} {nb : Nat} {F : Nat → Prop} {W : World} (h : Ec PN w w0 s (nd0 (ecD s) 0) nb F W) : Po PN w w0 s 0 (nd0 (ecD s) 0) nb F W :=
  ⟨h, rfl, Int.le_refl _, Nat.le_refl _, Ord.start (ecD s) 0, Tld.start (ecD s) 0⟩
theorem Po.more {PN : World → Wd → Nat → Nd → Nat → (Nat → Prop) → World → Prop} {w w0 : World} {s i : Nat} {x : Nd} {nb : Nat} {F : Nat → Prop} {W : World} (h : Po PN w w0 s i x nb F W) : Po PN w w0 s (i + 1) x nb F W := ⟨h.ec, h.st, by have := h.sn; omega, by have := h.lg; omega, h.od, h.td⟩
theorem Po.on {PN : World → Wd → Nat → Nd → Nat → (Nat → Prop) → World → Prop} (face : Face PN) {w w0 : World} {s i : Nat} {x : Nd} {nb : Nat} {F : Nat → Prop} {W W2 : World} (h : Po PN w w0 s i x nb F W) (hb : Below W.heap.size W W2) : Po PN w w0 s i x nb F W2 := ⟨h.ec.on face hb, h.st, h.sn, h.lg, h.od, h.td⟩
theorem Po.heard {PN : World → Wd → Nat → Nd → Nat → (Nat → Prop) → World → Prop} {w w0 : World} {s i : Nat} {x : Nd} {nb : Nat} {F F2 : Nat → Prop} {W W2 : World} (h : Po PN w w0 s i x nb F W) {fr k : Int} {m : Q.M} (ht : Ec PN w w0 s (heN 3 0 x fr k m) nb F2 W2) : Po PN w w0 s (i + 1) (heN 3 0 x fr k m) nb F2 W2 := by
  obtain ⟨q1, q2, q3, q4⟩ := he_st 3 0 x fr k m
  exact ⟨ht, by rw [q1]; exact h.st, by rw [q2]; have := h.sn; omega, by rw [q3]; have := h.lg; omega, h.od.hear fr k m, h.td.hear (D := ecD s) fr k m⟩
theorem Po.stepped {PN : World → Wd → Nat → Nd → Nat → (Nat → Prop) → World → Prop} {w w0 : World} {s i : Nat} {x : Nd} {nb : Nat} {F F2 : Nat → Prop} {W W2 : World} (h : Po PN w w0 s i x nb F W) (hs : safe (ecD s) 0 x = true) (ht : Ec PN w w0 s (spN (ecD s) 0 x) nb F2 W2) : Po PN w w0 s (i + 1) (spN (ecD s) 0 x) nb F2 W2 := by
  refine ⟨ht, ec_st h.st, ?_, ?_, Ord.step (D := ecD s) h.od hs, h.td.step h.od.srt hs⟩
  · have := (ec_sn (s := s) h.st).1; have := h.sn; omega
  · show (x.lg ++ [spD (ecD s) 0 x]).length ≤ i + 1
    have := h.lg
    simp; omega
theorem Po.told {PN : World → Wd → Nat → Nd → Nat → (Nat → Prop) → World → Prop} {w w0 : World} {s i : Nat} {x : Nd} {nb : Nat} {F F2 : Nat → Prop} {W W2 : World} (h : Po PN w w0 s i x nb F W) (ht : Ec PN w w0 s (teN (ecD s) 0 x) nb F2 W2) : Po PN w w0 s (i + 1) (teN (ecD s) 0 x) nb F2 W2 :=
  ⟨ht, h.st, by have := h.sn; show x.sn ≤ _; omega, by have := h.lg; show x.lg.length ≤ _; omega, Ord.tell (D := ecD s) h.od, h.td.tell.1⟩
theorem Po.hear {PN : World → Wd → Nat → Nd → Nat → (Nat → Prop) → World → Prop} (face : Face PN) {w w0 : World} {s i : Nat} {x : Nd} {nb : Nat} {F : Nat → Prop} {W : World} (h : Po PN w w0 s i x nb F W) (fr k co T b c d e g : Int) (h1 : wfI fr) (h2 : Q.mwf ((T, b, c), d, e, g)) :
    Calls Try.prog 9 #[.pointer (some ⟨nb, 0, none⟩), .int .i64 fr, .agg #[.int .i64 k, .int .i64 T, .int .i64 b, .int .i64 c, .int .i64 d, .int .i64 e, .int .i64 g, .int .i64 co]] W fun en w' => ∃ F2 E x2, en = .returned (.int .i64 E) ∧ x2.t = x.t ∧ (E = 0 → k = 0 → C.bnd 3 0 x.c ≤ T) ∧ Po PN w w0 s (i + 1) x2 nb F2 w' := by
  refine (h.ec.hear face fr k co T b c d e g h1 h2).mono ?_
  rintro en w' ⟨F2, he, hp⟩
  refine ⟨F2, _, _, he, (he_st 3 0 x fr k _).2.2.2, fun e0 k0 => ?_, h.heard hp⟩
  rw [k0] at e0
  exact heN_late e0
/-- What Step answers, whether it is safe or not. -/
theorem Po.step {PN : World → Wd → Nat → Nd → Nat → (Nat → Prop) → World → Prop} (face : Face PN) {w w0 : World} {s i : Nat} {x : Nd} {nb : Nat} {F : Nat → Prop} {W : World} (h : Po PN w w0 s i x nb F W) (hi : i ≤ 200) :
    Calls Try.prog 10 #[.pointer (some ⟨nb, 0, none⟩)] W fun en w' => ∃ (t0 t1 t2 t3 t4 t5 t6 : Int) (va : Option Addr) (n vc : Nat) (E : Int) (F2 : Nat → Prop) (x2 : Nd), en = .returned (.tuple #[.agg #[.int .i64 t0, .int .i64 t1, .int .i64 t2, .int .i64 t3, .int .i64 t4, .int .i64 t5, .int .i64 t6], .slice va n vc, .int .i64 E]) ∧ n ≤ 1 ∧ (n = 1 → ∃ (b : Nat) (T : Int), va = some ⟨b, 0, none⟩ ∧ x.t ≤ T ∧ b < w'.heap.size ∧ w'.cell? ⟨b, 0, none⟩ = some (.int .i64 T)) ∧ x2.t = x.t ∧ (E = 0 ∧ t0 < C.bnd 3 0 x.c ∧ t0 < 100 ∨ E = 150) ∧ Po PN w w0 s (i + 1) x2 nb F2 w' := by
  cases hs : safe (ecD s) 0 x
  · refine (h.ec.idle face hs).mono ?_
    rintro en w' ⟨he, hp⟩
    exact ⟨0, 0, 0, 0, 0, 0, 0, none, 0, 0, 150, F, x, he, by omega, fun g => by omega, rfl, .inr rfl, (⟨hp, h.st, h.sn, h.lg, h.od, h.td⟩ : Po PN w w0 s i x nb F w').more⟩
  · refine (h.ec.step face hs (by have := h.sn; omega) (by have := h.lg; omega)).mono ?_
    rintro en w' ⟨va, vc, F2, he, hr, hp⟩
    obtain ⟨m, r, hq, g1, g2, g3⟩ := safe_parts hs
    have hM := ec_spM (s := s) h.st
    have hd0 : (spD (ecD s) 0 x).m.t = m.1.1 := by unfold spD; rw [g3]; rfl
    refine ⟨_, _, _, _, _, _, _, va, _, vc, 0, F2, spN (ecD s) 0 x, he, ?_, fun hn => ?_, rfl, .inl ⟨rfl, ?_, ?_⟩, h.stepped hs hp⟩
    · rw [hM]; split <;> simp
    · by_cases hc : (hd x).2.2.1 = 0
      · rw [if_pos hc] at hM
        rw [hM] at hr
        obtain ⟨b, e, hb, hcs⟩ := hr 0 (by simp)
        have h0 := hcs 0 (by omega)
        refine ⟨b, vadd (hd x).1.1 2, e, ?_, hb, by simpa [flatM, encM] using h0⟩
        have := h.td.sent hs (d := 2) (by show (2 : Int) ≤ 2; omega)
        exact this
      · rw [if_neg hc] at hM
        rw [hM] at hn
        simp at hn
    · rw [hd0]; exact g2
    · rw [hd0]; exact g1
theorem Po.tell {PN : World → Wd → Nat → Nd → Nat → (Nat → Prop) → World → Prop} (face : Face PN) {w w0 : World} {s i : Nat} {x : Nd} {nb : Nat} {F : Nat → Prop} {W : World} (h : Po PN w w0 s i x nb F W) :
    Calls Try.prog 13 #[.pointer (some ⟨nb, 0, none⟩)] W fun en w' => ∃ F2 t B x2, en = .returned (.tuple #[.int .i64 t, .bool B]) ∧ x2.t = t ∧ x.t ≤ t ∧ Po PN w w0 s (i + 1) x2 nb F2 w' := by
  refine (h.ec.tell face).mono ?_
  rintro en w' ⟨F2, he, hp⟩
  exact ⟨F2, _, _, _, he, rfl, h.td.tell.2.2, h.told hp⟩
theorem rdQ_cells {w : World} {a : Option Addr} {l : List Oq} (h : RdQ w a l) {i : Nat} (hi : i < l.length) : ∃ k fr ik T b c d e g co xb off, a = some ⟨xb, off, none⟩ ∧ wfI fr ∧ Q.mwf ((T, b, c), d, e, g) ∧ ∀ W, Below w.heap.size w W →
    W.cell? ⟨xb, off + i * 10, none⟩ = some (.int .i64 k) ∧ W.cell? ⟨xb, off + i * 10 + 1, none⟩ = some (.int .i64 fr) ∧ W.cell? ⟨xb, off + i * 10 + 2, none⟩ = some (.int .i64 ik) ∧ W.cell? ⟨xb, off + i * 10 + 3, none⟩ = some (.int .i64 T) ∧ W.cell? ⟨xb, off + i * 10 + 4, none⟩ = some (.int .i64 b) ∧ W.cell? ⟨xb, off + i * 10 + 5, none⟩ = some (.int .i64 c) ∧ W.cell? ⟨xb, off + i * 10 + 6, none⟩ = some (.int .i64 d) ∧ W.cell? ⟨xb, off + i * 10 + 7, none⟩ = some (.int .i64 e) ∧ W.cell? ⟨xb, off + i * 10 + 8, none⟩ = some (.int .i64 g) ∧ W.cell? ⟨xb, off + i * 10 + 9, none⟩ = some (.int .i64 co) := by
  obtain ⟨xb, off, rfl, hb, hc⟩ := h.2 (by intro e; rw [e] at hi; simp at hi)
  have hw := h.1 i hi
  obtain ⟨o, ho⟩ : ∃ o, nthQ l i = o := ⟨_, rfl⟩
  obtain ⟨k, fr, ik, ⟨⟨T, b, c⟩, d, e, g⟩, co⟩ := o
  rw [ho] at hw
  refine ⟨k, fr, ik, T, b, c, d, e, g, co, xb, off, rfl, hw.1, hw.2, fun W hW => ?_⟩
  have q : ∀ j, j < 10 → W.cell? ⟨xb, off + i * 10 + j, none⟩ = (encQ (nthQ l i))[j]? := fun j hj => (hW.cell (p := ⟨xb, off + i * 10 + j, none⟩) hb).trans (hc i hi j hj)
  rw [ho] at q
  exact ⟨q 0 (by omega), q 1 (by omega), q 2 (by omega), q 3 (by omega), q 4 (by omega), q 5 (by omega), q 6 (by omega), q 7 (by omega), q 8 (by omega), q 9 (by omega)⟩

set_option maxHeartbeats 8000000 in
theorem promise_walk {PN : World → Wd → Nat → Nd → Nat → (Nat → Prop) → World → Prop} (face : Face PN) (w : World) (sa : Option Addr) (sc : Nat) (z : List Oq) (hn : z.length ≤ maxLen) (hz : RdQ w sa z) :
    Calls Try.prog 4 #[.slice sa z.length sc] w fun e w' => e = .returned (.bool true) ∧ Below w.heap.size w w' := by
  have SH := shown_any face w
  unfold maxLen at hn
  by_cases hlong : 100 < z.length
  · have hl' : (100 : Int) < (z.length : Int) := by omega
    clear hz
    go_enter Try.func4, Try.ntmps4
    go_wp2_with (go_at_call 5; refine SH.mono ?_; rintro e w1 ⟨rfl, hb⟩; have HB : Hid _ := hb; clear hb SH)
    go_ret
    exact ⟨rfl, HB.out⟩
  have hz2 : z.length ≤ 100 := by omega
  have hl' : ¬ (100 : Int) < (z.length : Int) := by omega
  have HZ : Hid (RdQ w sa z) := hz
  have HEC : Hid (∀ w1, Below w.heap.size w w1 → Calls Try.prog 7 #[] w1 fun e w' => ∃ s, e = .returned (wv (ecD s)) ∧ Ww w' (ecD s) ∧ Below w.heap.size w w') := fun w1 b1 => (echo_any w1).mono fun e w' ⟨he, hw, hb⟩ => ⟨_, he, hw, b1.trans (hb.mono b1.size)⟩
  have HN : Hid (∀ W s, Ww W (ecD s) → Below w.heap.size w W → Calls Try.prog 6 #[wv (ecD s), .int .i64 0] W fun en w' => ∃ nb F, en = .returned (.tuple #[.pointer (some ⟨nb, 0, none⟩), .int .i64 0]) ∧ Po PN w W s 0 (nd0 (ecD s) 0) nb F w') := fun W s hw hb => (Ec.new face hw hb).mono fun en w' ⟨nb, F, he, hp⟩ => ⟨nb, F, he, Po.start hp⟩
  have HO : Hid (∀ {W0 W s i nb F} {x : Nd}, Po PN w W0 s i x nb F W → ∀ W2, Below W.heap.size W W2 → Po PN w W0 s i x nb F W2) := fun h W2 hb => h.on face hb
  have HBL : Hid (∀ {W0 W s i nb F} {x : Nd}, Po PN w W0 s i x nb F W → Below w.heap.size w W) := fun h => h.ec.bel face
  have HFC : Hid (Face PN) := face
  clear hz hlong face
  go_enter Try.func4, Try.ntmps4
  go_wp2_with (first
    | (go_at_call 5; refine SH.mono ?_; rintro e w1 ⟨rfl, hb⟩; have HB : Hid _ := hb; clear hb SH)
    | (go_at_call 7; refine (Hid.out HEC _ (Hid.out HB)).mono ?_; rintro e w2 ⟨s, rfl, hw, hb⟩; have HW2 : Hid _ := And.intro hw hb; clear hw hb HEC)
    | (go_at_call 6; refine (Hid.out HN _ _ (Hid.out HW2).1 (Hid.out HW2).2).mono ?_; rintro e w3 ⟨nb, F, rfl, h2⟩; have HE : Hid _ := h2; clear h2 HN))
  go_loopw [5, 6] (fun s5 s6 wr => ∃ (i : Nat) (t : Int) (x : Nd) (F : Nat → Prop), s5 = .int .i64 t ∧ s6 = .int .i64 i ∧ i ≤ z.length ∧ Hid (x.t = t ∧ Po PN w w2 s i x nb F wr)) (fun _ s6 _ => z.length - (intOf s6).toNat)
  case atStart => exact ⟨0, 0, _, F, rfl, rfl, Nat.zero_le _, rfl, HE.out⟩
  case round =>
    clear HE
    obtain ⟨i, t, x, FX, rfl, rfl, hi, HT⟩ := hrel
    by_cases hlt : i < z.length
    · have hlt' : (i : Int) < (z.length : Int) := by omega
      obtain ⟨k, fr, ik, T, b, c, d, e, g, co, xb, off, rfl, hwf, hmw, hcs⟩ := rdQ_cells HZ.out hlt
      obtain ⟨c0, c1, c2, c3, c4, c5, c6, c7, c8, c9⟩ := hcs _ (HBL.out HT.out.2)
      clear hcs
      obtain ⟨W1, hW1⟩ : ∃ W1, wr.alloc (.cells #[.int .i64 k, .int .i64 fr, .int .i64 ik, .int .i64 T, .int .i64 b, .int .i64 c, .int .i64 d, .int .i64 e, .int .i64 g, .int .i64 co] 40) = W1 := ⟨_, rfl⟩
      obtain ⟨A, hA⟩ : ∃ A, wr.heap.size = A := ⟨_, rfl⟩
      have hb1 : Below wr.heap.size wr W1 := by rw [← hW1]; exact al _ _
      have bx1 : W1.heap[A]? = some (.cells #[.int .i64 k, .int .i64 fr, .int .i64 ik, .int .i64 T, .int .i64 b, .int .i64 c, .int .i64 d, .int .i64 e, .int .i64 g, .int .i64 co] 40 (0, 0)) := by rw [← hW1, ← hA]; exact (MapKept.heap_alloc _ _).1
      have u0 : W1.cell? ⟨A, 0, none⟩ = some (.int .i64 k) := cellN bx1 0
      have u1 : W1.cell? ⟨A, 1, none⟩ = some (.int .i64 fr) := cellN bx1 1
      have u2 : W1.cell? ⟨A, 2, none⟩ = some (.int .i64 ik) := cellN bx1 2
      have u3 : W1.cell? ⟨A, 3, none⟩ = some (.int .i64 T) := cellN bx1 3
      have u4 : W1.cell? ⟨A, 4, none⟩ = some (.int .i64 b) := cellN bx1 4
      have u5 : W1.cell? ⟨A, 5, none⟩ = some (.int .i64 c) := cellN bx1 5
      have u6 : W1.cell? ⟨A, 6, none⟩ = some (.int .i64 d) := cellN bx1 6
      have u7 : W1.cell? ⟨A, 7, none⟩ = some (.int .i64 e) := cellN bx1 7
      have u8 : W1.cell? ⟨A, 8, none⟩ = some (.int .i64 g) := cellN bx1 8
      have u9 : W1.cell? ⟨A, 9, none⟩ = some (.int .i64 co) := cellN bx1 9
      have HT1 : Hid (Po PN w w2 s i x nb FX W1) := HO.out HT.out.2 W1 hb1
      have HXT : Hid (x.t = t) := HT.out.1
      clear hb1 bx1 HT
      by_cases k0 : k = 0
      · have dk0 : (k == 0) = true := by simpa using k0
        clear k0
        have HH := (HT1.out.hear HFC.out fr ik co T b c d e g hwf hmw)
        go_wp2_with (go_at_call 9; refine HH.mono ?_; rintro en w5 ⟨F2, E, x2, rfl, q1, _, h5⟩; have HE5 : Hid _ := And.intro q1 h5; clear h5 q1 HH)
        go_roundw
        case rel => exact ⟨i + 1, t, x2, F2, rfl, by go_num, by omega, HE5.out.1.trans HXT.out, HE5.out.2⟩
        case measure => simp [intOf]; omega
      · have dk0 : (k == 0) = false := by simpa using k0
        by_cases k1 : k = 1
        · have dk1 : (k == 1) = true := by simpa using k1
          clear k0 k1
          have HH := HT1.out.step HFC.out (by omega)
          go_wp2_with (go_at_call 10; refine HH.mono ?_; rintro en w5 ⟨t0, t1, t2, t3, t4, t5, t6, va, n, vc, E, F2, x2, rfl, hn1, hms, q1, _, h5⟩; have HE5 : Hid _ := And.intro q1 h5; have HMS : Hid _ := hms; clear h5 q1 hms HH)
          obtain ⟨W6, hW6⟩ : ∃ W6, W6 = w5.alloc (.cells #[.int .i64 t0, .int .i64 t1, .int .i64 t2, .int .i64 t3, .int .i64 t4, .int .i64 t5, .int .i64 t6] 49) := ⟨_, rfl⟩
          have HB6 : Hid (Below w5.heap.size w5 W6) := by show Below _ _ _; rw [hW6]; exact al _ _
          rw [← hW6]
          clear hW6 u0 u1 u2 u3 u4 u5 u6 u7 u8 u9 c0 c1 c2 c3 c4 c5 c6 c7 c8 c9
          go_loopw [11] (fun s11 wq => ∃ j : Nat, j ≤ n ∧ s11 = .int .i64 j ∧ Hid (wq = W6)) (fun s11 _ => n - (intOf s11).toNat)
          case atStart => exact ⟨0, Nat.zero_le _, rfl, rfl⟩
          case round =>
            obtain ⟨j, hj, rfl, HQ⟩ := hrel
            by_cases hjn : j < n
            · have hj' : (j : Int) < (n : Int) := by omega
              obtain rfl : j = 0 := by omega
              obtain ⟨bb, TT, rfl, hle, hbb, hcc⟩ := HMS.out (by omega)
              have hcw : wr.cell? ⟨bb, 0, none⟩ = some (.int .i64 TT) := by rw [HQ.out]; exact (HB6.out.cell (p := ⟨bb, 0, none⟩) hbb).trans hcc
              have hnt : ¬ TT < t := by have := HXT.out; omega
              clear hcc hbb hle
              go_wp2_with fail
              go_roundw
              case rel => exact ⟨1, by omega, by go_num, HQ⟩
              case measure => simp [intOf]; omega
            · obtain rfl : j = n := by omega
              go_wp2_with fail
              go_roundw
              case rel => exact ⟨i + 1, t, x2, F2, rfl, by go_num, by omega, HE5.out.1.trans HXT.out, by rw [HQ.out]; exact HO.out HE5.out.2 _ HB6.out⟩
              case measure => simp [intOf]; omega
        · have dk1 : (k == 1) = false := by simpa using k1
          by_cases k2 : k = 2
          · have dk2 : (k == 2) = true := by simpa using k2
            clear k0 k1 k2
            have HH := HT1.out.tell HFC.out
            have HXT2 : Hid (∀ t2, x.t ≤ t2 → ¬ t2 < t) := fun t2 q => by have := HXT.out; omega
            go_wp2_with (go_at_call 13; refine HH.mono ?_; rintro en w5 ⟨F2, t2, B, x2, rfl, q1, q2, h5⟩; have HE5 : Hid _ := And.intro q1 h5; have hnt := Hid.out HXT2 t2 q2; clear h5 q1 q2 HH)
            go_roundw
            case rel => exact ⟨i + 1, t2, x2, F2, rfl, by go_num, by omega, HE5.out.1, HE5.out.2⟩
            case measure => simp [intOf]; omega
          · have dk2 : (k == 2) = false := by simpa using k2
            clear k0 k1 k2
            go_wp2_with fail
            go_roundw
            case rel => exact ⟨i + 1, t, x, FX, rfl, by go_num, by omega, HXT.out, HT1.out.more⟩
            case measure => simp [intOf]; omega
    · obtain rfl : i = z.length := by omega
      go_wp2_with fail
      go_ret
      exact ⟨rfl, HBL.out HT.out.2⟩
end Go.Proofs.Ytkodjioofkdepaa
