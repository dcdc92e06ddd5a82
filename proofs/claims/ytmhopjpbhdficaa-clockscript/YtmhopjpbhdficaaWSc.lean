/- Proved: the walk of ClockScript. -/
import Derived.Test.YtmhopjpbhdficaaDc1
namespace Go.Proofs.Ytmhopjpbhdficaa
open Go.RowKit Go.Shelf
set_option linter.unusedVariables false

set_option maxRecDepth 100000 in
set_option maxHeartbeats 4000000 in
theorem script_walk (w : World) (n0 m0 : Int) (sa : Option Addr) (sc : Nat) (z : List St) (hz : RdS w sa z) (hn : z.length ≤ maxLen) (hwn : wfI n0) (hwm : wfI m0) :
    Calls Try.prog 3 #[.int .i64 n0, .int .i64 m0, .slice sa z.length sc] w fun e w' => e = .returned (.bool true) ∧ Below w.heap.size w w' := by
  by_cases hlong : 200 < z.length
  · have hl' : (200 : Int) < (z.length : Int) := by omega
    unfold maxLen at hn
    clear hz
    go_enter Try.func3, Try.ntmps3
    go_wp2
    go_ret
    exact ⟨rfl, Below.refl _ _⟩
  have hz2 : z.length ≤ 200 := by omega
  have hl' : ¬ (200 : Int) < (z.length : Int) := by omega
  by_cases hok : 1 ≤ n0 ∧ n0 ≤ 8 ∧ 0 ≤ m0 ∧ m0 < n0
  · obtain ⟨n, rfl⟩ := Int.eq_ofNat_of_zero_le (show 0 ≤ n0 by omega)
    obtain ⟨me, rfl⟩ := Int.eq_ofNat_of_zero_le (show 0 ≤ m0 by omega)
    obtain ⟨b, hb⟩ : ∃ b, w.heap.size + 1 = b := ⟨_, rfl⟩
    obtain ⟨mb, hmb⟩ : ∃ mb, w.heap.size = mb := ⟨_, rfl⟩
    have NW : Calls Try.prog 8 #[.int .i64 (n : Int), .int .i64 (me : Int)] w fun e w' => e = .returned (.tuple #[.pointer (some ⟨b, 0, none⟩), .int .i64 0]) ∧ P1 w w' n me noC 0 b mb := by
      rw [← hb, ← hmb]; exact P1.new w n me (by omega) (by omega) (by omega)
    have NX : ∀ w1, P1 w w1 n me noC 0 b mb → Calls Try.prog 9 #[.int .i64 (n : Int), .int .i64 (me : Int)] w1 fun e w' => e = .returned (.tuple #[.pointer (some ⟨w1.heap.size + 1, 0, none⟩), .int .i64 0]) ∧ P2 w w' n me noC 0 noC 0 b mb (w1.heap.size + 1) w1.heap.size := fun w1 h1 =>
      (dnew_ok w1 n me (by omega) (by omega) (by omega)).mono fun e w' ⟨he, h2, h3⟩ => by
        have g1 := h1.pc.lt
        have g2 := h1.pc.mlt
        have g3 := h1.bel.size
        exact ⟨he, h1.on h3, h2, by omega, by omega, by omega, by omega, by omega, by omega⟩
    have HNX : Hid _ := NX
    have HZ : Hid _ := hz
    have hn8 : n ≤ 8 := by omega
    have hmn : me < n := by omega
    clear hb hmb NX hz hn hlong hok
    go_enter Try.func3, Try.ntmps3
    go_wp2_with (first | (go_at_call 8; refine NW.mono ?_; rintro e w1 ⟨rfl, h1⟩; have H1 : Hid _ := h1; clear h1 NW) | (go_at_call 9; refine (Hid.out HNX _ (Hid.out H1)).mono ?_; rintro e w2 ⟨rfl, h2⟩; have H2 : Hid _ := h2; clear h2 HNX))
    obtain ⟨rb, hrb⟩ : ∃ rb, w1.heap.size = rb := ⟨_, rfl⟩
    simp only [hrb] at H2 ⊢
    obtain ⟨db, hdb⟩ : ∃ db, rb + 1 = db := ⟨_, rfl⟩
    simp only [hdb] at H2 ⊢
    clear hrb hdb
    go_loopw [11] (fun s11 wr => ∃ (i : Nat) (c : Int → Int) (t : Int), s11 = .int .i64 i ∧ i ≤ z.length ∧ Hid (P2 w wr n me c t c t b mb db rb)) (fun s11 _ => z.length - (intOf s11).toNat)
    case atStart => exact ⟨0, noC, 0, rfl, Nat.zero_le _, H2.out⟩
    case round =>
      obtain ⟨i, c, t, rfl, hi, HN⟩ := hrel
      by_cases hlt : i < z.length
      · have hlt' : (i : Int) < (z.length : Int) := by omega
        obtain ⟨hwa, xb, off, rfl, hxb, hcs⟩ := RdS.cells HZ.out hlt
        obtain ⟨c0, c1, c2⟩ := hcs _ HN.out.x.bel
        obtain ⟨s, hs⟩ : ∃ s, nthS z i = s := ⟨_, rfl⟩
        rw [hs] at hwa
        simp only [hs] at c0 c1 c2
        have g1 := HN.out.x.pc.lt
        have g2 := HN.out.x.pc.mlt
        have g3 := HN.out.y.lt
        have g4 := HN.out.y.rlt
        have HM : Hid (P3 w (wr.alloc (.cells (scs s) 31)) n me c t c t b mb db rb wr.heap.size s) := ⟨HN.out.on (al wr _), BoxS.new wr s, by omega, by omega, by omega, by omega⟩
        clear hcs hs
        obtain ⟨W0, hW0⟩ : ∃ W0, W0 = wr.alloc (.cells (scs s) 31) := ⟨_, rfl⟩
        rw [← hW0] at HM
        simp only [scs] at hW0
        obtain ⟨ob, hob⟩ : ∃ ob, wr.heap.size = ob := ⟨_, rfl⟩
        rw [hob] at HM
        by_cases hk0 : s.k = 0
        · have dk0 : (s.k == 0) = true := by simpa using hk0
          clear hk0
          have SX : ∀ W, P3 w W n me c t c t b mb db rb ob s → _ := fun W h => P3.hearx h s.a s.b hwa
          have SY : ∀ W, P3 w W n me (hrC n me c s.a s.b) t c t b mb db rb ob s → _ := fun W h => P3.heary h s.a s.b
          obtain ⟨g, hg⟩ : ∃ g, hrE n me c s.a s.b = g := ⟨_, rfl⟩
          obtain ⟨c', hc'⟩ : ∃ c', hrC n me c s.a s.b = c' := ⟨_, rfl⟩
          simp only [hg, hc'] at SX SY
          have HSX : Hid _ := SX
          have HSY : Hid _ := SY
          clear SX SY hg hc'
          obtain ⟨e0, e1, e2⟩ := HM.out.bx.cells
          rw [hW0] at e0 e1 e2
          rw [← hob] at e0 e1 e2
          go_wp2
          rw [← hW0] at e0 e1 e2 ⊢
          try simp only [hob] at e0 e1 e2 ⊢
          clear hW0 hob HN g1 g2 g3 g4 c0 c1 c2
          go_region_held3 (fun w' => w'.cell? ⟨ob, 1, none⟩ = some (.int .i64 s.a) ∧ w'.cell? ⟨ob, 2, none⟩ = some (.int .i64 s.b)) (first | (go_keep; done) | exact Hid.out KEEP) (first
            | (go_at_call 10; refine (Hid.out HSX _ ((Hid.out HM).on ((Below.refl _ _).drew))).mono ?_; rintro e w3 ⟨rfl, h3⟩; have H3 : Hid _ := h3; have KEEP : Hid _ := h3.bx.cells.2; clear h3 HSX)
            | (go_at_call 11; refine (Hid.out HSY _ (Hid.out H3)).mono ?_; rintro e w4 ⟨rfl, h4⟩; have HV : Hid _ := h4; have KEEP : Hid _ := h4.bx.cells.2; clear h4 HSY))
          clear KEEP e0 e1 e2
          go_wp2_with fail
          have G0 : Hid (∀ W, P3 w W n me c' t c' t b mb db rb ob s → Calls Try.prog 14 #[.pointer (some ⟨b, 0, none⟩), .int .i64 s.a] W fun e w' => e = .returned (.int .i64 (atC n me c' s.a)) ∧ P3 w w' n me c' t c' t b mb db rb ob s) := fun W h => h.atx s.a hwa
          have G1 : Hid (∀ W, P3 w W n me c' t c' t b mb db rb ob s → Calls Try.prog 15 #[.pointer (some ⟨db, 0, none⟩), .int .i64 s.a] W fun e w' => e = .returned (.int .i64 (atC n me c' s.a)) ∧ P3 w w' n me c' t c' t b mb db rb ob s) := fun W h => h.aty s.a
          have G2 : Hid (∀ W, P3 w W n me c' t c' t b mb db rb ob s → Calls Try.prog 16 #[.pointer (some ⟨b, 0, none⟩)] W fun e w' => e = .returned (.int .i64 (bnd n me c')) ∧ P3 w w' n me c' t c' t b mb db rb ob s) := fun W h => h.boundx
          have G3 : Hid (∀ W, P3 w W n me c' t c' t b mb db rb ob s → Calls Try.prog 17 #[.pointer (some ⟨db, 0, none⟩)] W fun e w' => e = .returned (.int .i64 (bnd n me c')) ∧ P3 w w' n me c' t c' t b mb db rb ob s) := fun W h => h.boundy
          have G4 : Hid (∀ W, P3 w W n me c' t c' t b mb db rb ob s → Calls Try.prog 18 #[.pointer (some ⟨b, 0, none⟩)] W fun e w' => e = .returned (.int .i64 t) ∧ P3 w w' n me c' t c' t b mb db rb ob s) := fun W h => h.toldx
          have G5 : Hid (∀ W, P3 w W n me c' t c' t b mb db rb ob s → Calls Try.prog 19 #[.pointer (some ⟨db, 0, none⟩)] W fun e w' => e = .returned (.int .i64 t) ∧ P3 w w' n me c' t c' t b mb db rb ob s) := fun W h => h.toldy
          obtain ⟨av, hav⟩ : ∃ av, atC n me c' s.a = av := ⟨_, rfl⟩
          obtain ⟨bv, hbv⟩ : ∃ bv, bnd n me c' = bv := ⟨_, rfl⟩
          simp only [hav] at G0 G1
          simp only [hbv] at G2 G3
          clear hav hbv
          obtain ⟨y0, y1, y2⟩ := HV.out.bx.cells
          go_region_held3 (fun w' => w'.cell? ⟨ob, 1, none⟩ = some (.int .i64 s.a)) (first | (go_keep; done) | exact Hid.out KEEP) (first
            | (go_at_call 14; refine (Hid.out G0 _ ((Hid.out HV).on ((Below.refl _ _).drew))).mono ?_; rintro e w10 ⟨rfl, h10⟩; have H10 : Hid _ := h10; have KEEP : Hid _ := h10.bx.cells.2.1; clear h10 G0)
            | (go_at_call 15; refine (Hid.out G1 _ (Hid.out H10)).mono ?_; rintro e w11 ⟨rfl, h11⟩; have H11 : Hid _ := h11; have KEEP : Hid _ := h11.bx.cells.2.1; clear h11 G1)
            | (go_at_call 16; refine (Hid.out G2 _ (Hid.out H11)).mono ?_; rintro e w12 ⟨rfl, h12⟩; have H12 : Hid _ := h12; have KEEP : Hid _ := h12.bx.cells.2.1; clear h12 G2)
            | (go_at_call 17; refine (Hid.out G3 _ (Hid.out H12)).mono ?_; rintro e w13 ⟨rfl, h13⟩; have H13 : Hid _ := h13; have KEEP : Hid _ := h13.bx.cells.2.1; clear h13 G3)
            | (go_at_call 18; refine (Hid.out G4 _ (Hid.out H13)).mono ?_; rintro e w14 ⟨rfl, h14⟩; have H14 : Hid _ := h14; have KEEP : Hid _ := h14.bx.cells.2.1; clear h14 G4)
            | (go_at_call 19; refine (Hid.out G5 _ (Hid.out H14)).mono ?_; rintro e w15 ⟨rfl, h15⟩; have H15 : Hid _ := h15; have KEEP : Hid _ := h15.bx.cells.2.1; clear h15 G5))
          clear y0 y1 y2 KEEP
          go_wp2
          go_roundw
          case rel => exact ⟨i + 1, c', t, by go_num, by omega, H15.out.p⟩
          case measure => simp [intOf]; omega
        · have dk0 : (s.k == 0) = false := by simpa using hk0
          by_cases hk1 : s.k = 1
          · have dk1 : (s.k == 1) = true := by simpa using hk1
            clear hk0 hk1
            have SX : ∀ W, P3 w W n me c t c t b mb db rb ob s → _ := fun W h => P3.tellx h s.a s.b
            have SY : ∀ W, P3 w W n me c (tlT n me c t s.a s.b) c t b mb db rb ob s → _ := fun W h => P3.telly h s.a s.b
            obtain ⟨g, hg⟩ : ∃ g, tlB n me c t s.a s.b = g := ⟨_, rfl⟩
            obtain ⟨t', ht'⟩ : ∃ t', tlT n me c t s.a s.b = t' := ⟨_, rfl⟩
            simp only [hg, ht'] at SX SY
            have HSX : Hid _ := SX
            have HSY : Hid _ := SY
            clear SX SY hg ht'
            obtain ⟨e0, e1, e2⟩ := HM.out.bx.cells
            rw [hW0] at e0 e1 e2 HM
            rw [← hob] at e0 e1 e2
            have hgg : (g != g) = false := by cases g <;> rfl
            go_wp2_with (first
              | (go_at_call 12; refine (Hid.out HSX _ (Hid.out HM)).mono ?_; rintro e w3 ⟨rfl, h3⟩; have H3 : Hid _ := h3; clear e0 e1 e2; obtain ⟨e0, e1, e2⟩ := h3.bx.cells; clear h3 HSX)
              | (go_at_call 13; refine (Hid.out HSY _ (Hid.out H3)).mono ?_; rintro e w4 ⟨rfl, h4⟩; have HV : Hid _ := h4; clear e0 e1 e2; obtain ⟨e0, e1, e2⟩ := h4.bx.cells; clear h4 HSY))
            try simp only [hob] at e0 e1 e2 ⊢
            clear hW0 hob HN HM g1 g2 g3 g4 c0 c1 c2
            clear e0 e1 e2
            have G0 : Hid (∀ W, P3 w W n me c t' c t' b mb db rb ob s → Calls Try.prog 14 #[.pointer (some ⟨b, 0, none⟩), .int .i64 s.a] W fun e w' => e = .returned (.int .i64 (atC n me c s.a)) ∧ P3 w w' n me c t' c t' b mb db rb ob s) := fun W h => h.atx s.a hwa
            have G1 : Hid (∀ W, P3 w W n me c t' c t' b mb db rb ob s → Calls Try.prog 15 #[.pointer (some ⟨db, 0, none⟩), .int .i64 s.a] W fun e w' => e = .returned (.int .i64 (atC n me c s.a)) ∧ P3 w w' n me c t' c t' b mb db rb ob s) := fun W h => h.aty s.a
            have G2 : Hid (∀ W, P3 w W n me c t' c t' b mb db rb ob s → Calls Try.prog 16 #[.pointer (some ⟨b, 0, none⟩)] W fun e w' => e = .returned (.int .i64 (bnd n me c)) ∧ P3 w w' n me c t' c t' b mb db rb ob s) := fun W h => h.boundx
            have G3 : Hid (∀ W, P3 w W n me c t' c t' b mb db rb ob s → Calls Try.prog 17 #[.pointer (some ⟨db, 0, none⟩)] W fun e w' => e = .returned (.int .i64 (bnd n me c)) ∧ P3 w w' n me c t' c t' b mb db rb ob s) := fun W h => h.boundy
            have G4 : Hid (∀ W, P3 w W n me c t' c t' b mb db rb ob s → Calls Try.prog 18 #[.pointer (some ⟨b, 0, none⟩)] W fun e w' => e = .returned (.int .i64 t') ∧ P3 w w' n me c t' c t' b mb db rb ob s) := fun W h => h.toldx
            have G5 : Hid (∀ W, P3 w W n me c t' c t' b mb db rb ob s → Calls Try.prog 19 #[.pointer (some ⟨db, 0, none⟩)] W fun e w' => e = .returned (.int .i64 t') ∧ P3 w w' n me c t' c t' b mb db rb ob s) := fun W h => h.toldy
            obtain ⟨av, hav⟩ : ∃ av, atC n me c s.a = av := ⟨_, rfl⟩
            obtain ⟨bv, hbv⟩ : ∃ bv, bnd n me c = bv := ⟨_, rfl⟩
            simp only [hav] at G0 G1
            simp only [hbv] at G2 G3
            clear hav hbv
            obtain ⟨y0, y1, y2⟩ := HV.out.bx.cells
            go_region_held3 (fun w' => w'.cell? ⟨ob, 1, none⟩ = some (.int .i64 s.a)) (first | (go_keep; done) | exact Hid.out KEEP) (first
              | (go_at_call 14; refine (Hid.out G0 _ ((Hid.out HV).on ((Below.refl _ _).drew))).mono ?_; rintro e w10 ⟨rfl, h10⟩; have H10 : Hid _ := h10; have KEEP : Hid _ := h10.bx.cells.2.1; clear h10 G0)
              | (go_at_call 15; refine (Hid.out G1 _ (Hid.out H10)).mono ?_; rintro e w11 ⟨rfl, h11⟩; have H11 : Hid _ := h11; have KEEP : Hid _ := h11.bx.cells.2.1; clear h11 G1)
              | (go_at_call 16; refine (Hid.out G2 _ (Hid.out H11)).mono ?_; rintro e w12 ⟨rfl, h12⟩; have H12 : Hid _ := h12; have KEEP : Hid _ := h12.bx.cells.2.1; clear h12 G2)
              | (go_at_call 17; refine (Hid.out G3 _ (Hid.out H12)).mono ?_; rintro e w13 ⟨rfl, h13⟩; have H13 : Hid _ := h13; have KEEP : Hid _ := h13.bx.cells.2.1; clear h13 G3)
              | (go_at_call 18; refine (Hid.out G4 _ (Hid.out H13)).mono ?_; rintro e w14 ⟨rfl, h14⟩; have H14 : Hid _ := h14; have KEEP : Hid _ := h14.bx.cells.2.1; clear h14 G4)
              | (go_at_call 19; refine (Hid.out G5 _ (Hid.out H14)).mono ?_; rintro e w15 ⟨rfl, h15⟩; have H15 : Hid _ := h15; have KEEP : Hid _ := h15.bx.cells.2.1; clear h15 G5))
            clear y0 y1 y2 KEEP
            go_wp2
            go_roundw
            case rel => exact ⟨i + 1, c, t', by go_num, by omega, H15.out.p⟩
            case measure => simp [intOf]; omega
          · have dk1 : (s.k == 1) = false := by simpa using hk1
            clear hk0 hk1
            obtain ⟨e0, e1, e2⟩ := HM.out.bx.cells
            rw [hW0] at e0 e1 e2
            rw [← hob] at e0 e1 e2
            go_wp2
            rw [← hW0] at e0 e1 e2 ⊢
            try simp only [hob] at e0 e1 e2 ⊢
            clear hW0 hob HN g1 g2 g3 g4 c0 c1 c2
            clear e0 e1 e2
            have G0 : Hid (∀ W, P3 w W n me c t c t b mb db rb ob s → Calls Try.prog 14 #[.pointer (some ⟨b, 0, none⟩), .int .i64 s.a] W fun e w' => e = .returned (.int .i64 (atC n me c s.a)) ∧ P3 w w' n me c t c t b mb db rb ob s) := fun W h => h.atx s.a hwa
            have G1 : Hid (∀ W, P3 w W n me c t c t b mb db rb ob s → Calls Try.prog 15 #[.pointer (some ⟨db, 0, none⟩), .int .i64 s.a] W fun e w' => e = .returned (.int .i64 (atC n me c s.a)) ∧ P3 w w' n me c t c t b mb db rb ob s) := fun W h => h.aty s.a
            have G2 : Hid (∀ W, P3 w W n me c t c t b mb db rb ob s → Calls Try.prog 16 #[.pointer (some ⟨b, 0, none⟩)] W fun e w' => e = .returned (.int .i64 (bnd n me c)) ∧ P3 w w' n me c t c t b mb db rb ob s) := fun W h => h.boundx
            have G3 : Hid (∀ W, P3 w W n me c t c t b mb db rb ob s → Calls Try.prog 17 #[.pointer (some ⟨db, 0, none⟩)] W fun e w' => e = .returned (.int .i64 (bnd n me c)) ∧ P3 w w' n me c t c t b mb db rb ob s) := fun W h => h.boundy
            have G4 : Hid (∀ W, P3 w W n me c t c t b mb db rb ob s → Calls Try.prog 18 #[.pointer (some ⟨b, 0, none⟩)] W fun e w' => e = .returned (.int .i64 t) ∧ P3 w w' n me c t c t b mb db rb ob s) := fun W h => h.toldx
            have G5 : Hid (∀ W, P3 w W n me c t c t b mb db rb ob s → Calls Try.prog 19 #[.pointer (some ⟨db, 0, none⟩)] W fun e w' => e = .returned (.int .i64 t) ∧ P3 w w' n me c t c t b mb db rb ob s) := fun W h => h.toldy
            obtain ⟨av, hav⟩ : ∃ av, atC n me c s.a = av := ⟨_, rfl⟩
            obtain ⟨bv, hbv⟩ : ∃ bv, bnd n me c = bv := ⟨_, rfl⟩
            simp only [hav] at G0 G1
            simp only [hbv] at G2 G3
            clear hav hbv
            obtain ⟨y0, y1, y2⟩ := HM.out.bx.cells
            go_region_held3 (fun w' => w'.cell? ⟨ob, 1, none⟩ = some (.int .i64 s.a)) (first | (go_keep; done) | exact Hid.out KEEP) (first
              | (go_at_call 14; refine (Hid.out G0 _ ((Hid.out HM).on ((Below.refl _ _).drew))).mono ?_; rintro e w10 ⟨rfl, h10⟩; have H10 : Hid _ := h10; have KEEP : Hid _ := h10.bx.cells.2.1; clear h10 G0)
              | (go_at_call 15; refine (Hid.out G1 _ (Hid.out H10)).mono ?_; rintro e w11 ⟨rfl, h11⟩; have H11 : Hid _ := h11; have KEEP : Hid _ := h11.bx.cells.2.1; clear h11 G1)
              | (go_at_call 16; refine (Hid.out G2 _ (Hid.out H11)).mono ?_; rintro e w12 ⟨rfl, h12⟩; have H12 : Hid _ := h12; have KEEP : Hid _ := h12.bx.cells.2.1; clear h12 G2)
              | (go_at_call 17; refine (Hid.out G3 _ (Hid.out H12)).mono ?_; rintro e w13 ⟨rfl, h13⟩; have H13 : Hid _ := h13; have KEEP : Hid _ := h13.bx.cells.2.1; clear h13 G3)
              | (go_at_call 18; refine (Hid.out G4 _ (Hid.out H13)).mono ?_; rintro e w14 ⟨rfl, h14⟩; have H14 : Hid _ := h14; have KEEP : Hid _ := h14.bx.cells.2.1; clear h14 G4)
              | (go_at_call 19; refine (Hid.out G5 _ (Hid.out H14)).mono ?_; rintro e w15 ⟨rfl, h15⟩; have H15 : Hid _ := h15; have KEEP : Hid _ := h15.bx.cells.2.1; clear h15 G5))
            clear y0 y1 y2 KEEP
            go_wp2
            go_roundw
            case rel => exact ⟨i + 1, c, t, by go_num, by omega, H15.out.p⟩
            case measure => simp [intOf]; omega
      · obtain rfl : i = z.length := by omega
        have A1 := P1.at HN.out.x me hwm
        have A2 := P1.at HN.out.x (-1) (by decide)
        have A3 := P1.at HN.out.x n hwn
        have e1 : atC n me c me = -1 := by unfold atC; rw [isCl_me, if_neg (by simp)]
        have e2 : atC n me c (-1) = -1 := by unfold atC; rw [isCl_no.2 (by omega), if_neg (by simp)]
        have e3 : atC n me c n = -1 := by unfold atC; rw [isCl_no.2 (by omega), if_neg (by simp)]
        rw [e1] at A1
        rw [e2] at A2
        rw [e3] at A3
        have B1 := bound_any HN.out.x.pc
        have B2 : ∀ W, P2 w W n me c t c t b mb db rb → _ := fun W h => dbound_any h.y
        obtain ⟨bv, hbv⟩ : ∃ bv, bnd n me c = bv := ⟨_, rfl⟩
        rw [hbv] at B1
        simp only [hbv] at B2
        have HB2 : Hid _ := B2
        clear B2 hbv e1 e2 e3
        go_wp2_with (first | (go_at_call 14; first | (refine A1.mono ?_; rintro e w3 ⟨rfl, rfl⟩; clear A1) | (refine A2.mono ?_; rintro e w3 ⟨rfl, rfl⟩; clear A2) | (refine A3.mono ?_; rintro e w3 ⟨rfl, rfl⟩; clear A3)) | (go_at_call 16; refine B1.mono ?_; rintro e w4 ⟨rfl, h4⟩; have H4 : Hid _ := HN.out.on h4; clear h4 B1) | (go_at_call 17; refine (Hid.out HB2 _ (Hid.out H4)).mono ?_; rintro e w5 ⟨rfl, rfl⟩))
        go_ret
        exact ⟨rfl, H4.out.x.bel⟩
  · have NW := new_no w n0 m0 hok
    have NX := dnew_no w n0 m0 hok
    clear hz hok hn
    go_enter Try.func3, Try.ntmps3
    go_wp2_with (first | (go_at_call 8; refine NW.mono ?_; rintro e w1 ⟨rfl, rfl⟩; clear NW) | (go_at_call 9; refine NX.mono ?_; rintro e w2 ⟨rfl, rfl⟩; clear NX))
    go_ret
    exact ⟨rfl, Below.refl _ _⟩
end Go.Proofs.Ytmhopjpbhdficaa
