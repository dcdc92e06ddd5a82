/- Proved: the walk of CutScript. -/
import Derived.Test.YtdfjmnckgcpmgaaSbb
namespace Go.Proofs.Ytdfjmnckgcpmgaa
open Go.RowKit Go.Shelf
open K (Cu begC begE senC senE senK gotC gotE turC turE repC repE okT)
set_option linter.unusedVariables false

set_option maxRecDepth 100000 in
set_option maxHeartbeats 8000000 in
theorem script_walk (w : World) (n0 : Int) (sa : Option Addr) (sc : Nat) (z : List St) (hz : RdS w sa z) (hl : z.length ≤ maxLen) :
    Calls Try.prog 3 #[.int .i64 n0, .slice sa z.length sc] w fun e w' => e = .returned (.bool true) ∧ Below w.heap.size w w' := by
  unfold maxLen at hl
  have HZ : Hid (RdS w sa z) := hz
  obtain ⟨L, hL⟩ : ∃ L, z.length = L := ⟨_, rfl⟩
  rw [hL] at hl ⊢
  have HLZ : Hid (z.length = L) := hL
  clear hz hL
  by_cases hlong : 300 < L
  · have hl' : (300 : Int) < (L : Int) := by omega
    go_enter Try.func3, Try.ntmps3
    go_wp2
    go_ret
    exact ⟨rfl, Below.refl _ _⟩
  have hl' : ¬ (300 : Int) < (L : Int) := by omega
  have hL3 : L ≤ 300 := by omega
  by_cases hok : 1 ≤ n0 ∧ n0 ≤ 8
  · obtain ⟨n, rfl⟩ := Int.eq_ofNat_of_zero_le (show 0 ≤ n0 by omega)
    have hn1 : 1 ≤ n := by omega
    have hn8 : n ≤ 8 := by omega
    have NW := C1.new w n hn1 hn8
    obtain ⟨b, hb⟩ : ∃ b, w.heap.size = b := ⟨_, rfl⟩
    rw [hb] at NW
    have NX : Hid (∀ w1, C1 w 0 (K.new n) b w1 → Calls Try.prog 9 #[.int .i64 (n : Int)] w1 fun e w' => e = .returned (.tuple #[pp (w1.heap.size + 1 + 1 + 1), .int .i64 0]) ∧ D2 w 0 (K.new n) b (w1.heap.size + 1 + 1 + 1) w') := fun w1 h1 => D2.new hn1 hn8 h1
    clear hb hlong hok
    go_enter Try.func3, Try.ntmps3
    go_wp2_with (first | (go_at_call 8; refine NW.mono ?_; rintro e w1 ⟨rfl, h1⟩; have H1 : Hid _ := h1; clear h1 NW) | (go_at_call 9; refine (Hid.out NX _ (Hid.out H1)).mono ?_; rintro e w2 ⟨rfl, h2⟩; have H2 : Hid _ := h2; clear h2 NX))
    obtain ⟨db, hdb⟩ : ∃ db, w1.heap.size + 1 + 1 + 1 = db := ⟨_, rfl⟩
    simp only [hdb] at H2 ⊢
    clear hdb
    go_loopw [9] (fun s9 wr => ∃ (i : Nat) (c : Cu), s9 = .int .i64 i ∧ i ≤ L ∧ Hid (D2 w i c b db wr) ∧ Hid (c.co.length = n)) (fun s9 _ => L - (intOf s9).toNat)
    case atStart => exact ⟨0, K.new n, rfl, Nat.zero_le _, H2.out, (by simp [K.new] : (K.new n).co.length = n)⟩
    case round =>
      obtain ⟨i, c, rfl, hi, H0, HN⟩ := hrel
      by_cases hlt : i < L
      · have hlt' : (i : Int) < (L : Int) := by omega
        have hiL : i < z.length := by rw [HLZ.out]; exact hlt
        obtain ⟨s, hs⟩ : ∃ s, nthS z i = s := ⟨_, rfl⟩
        obtain ⟨xb, off, rfl, hxb, hcs⟩ := RdS.cells HZ.out hiL hs
        obtain ⟨c0, c1, c2⟩ := hcs _ H0.out.bel
        have HD : Hid _ := H0.out.box s
        obtain ⟨e0, e1, e2⟩ := HD.out.cells
        obtain ⟨W0, hW0⟩ : ∃ W0, wr.alloc (.cells #[.int .i64 s.k, .int .i64 s.a, .int .i64 s.b] 31) = W0 := ⟨_, rfl⟩
        obtain ⟨ob, hob⟩ : ∃ ob, wr.heap.size = ob := ⟨_, rfl⟩
        rw [hW0, hob] at HD e0 e1 e2
        clear hcs hs hxb
        by_cases hk0 : s.k = 0
        · have dk0 : (s.k == 0) = true := by simpa using hk0
          clear hk0
          as_aux_lemma =>
            have SX := HD.out.beginx
            have SY : Hid _ := fun (W : World) (h : D3 w i (begC c) i c b db ob s W) => h.beginy
            obtain ⟨c', hc'⟩ : ∃ c', begC c = c' := ⟨_, rfl⟩
            have hnl : c'.co.length = n := by rw [← hc', len_beg]; exact HN.out
            rw [hc'] at SX SY
            generalize begE c = g0 at SX SY
            clear hc'
            go_wp2_with (first
              | (go_at_call 10; refine SX.mono ?_; rintro e w3 ⟨rfl, h3⟩; clear e0 e1 e2; obtain ⟨e0, e1, e2⟩ := h3.cells; have H3 : Hid _ := h3; clear h3)
              | (go_at_call 11; refine (Hid.out SY _ (Hid.out H3)).mono ?_; rintro e w4 ⟨rfl, h4⟩; have H4 : Hid (D3 w i c' i c' b db ob s w4) := h4; clear h4))

            obtain ⟨t8, t9, t5⟩ := H4.out.tells
            obtain ⟨f0, f1, f2⟩ := H4.out.cells
            have HQ : Hid (∀ q, D3 w (i + 1) c' (i + 1) c' b db ob s (w4.drewN q)) := fun q => (H4.out.wide (by omega) (by omega)).on ⟨rfl, rfl, rfl, Nat.le_refl _, fun _ _ => rfl⟩
            have Q1 := fun q => (HQ.out q).value
            have Q2 := fun q => (HQ.out q).rounds
            have Q3 := fun q => (HQ.out q).under
            have Q4 := fun q => (HQ.out q).colourx s.a
            have Q5 := fun q => (HQ.out q).coloury s.a
            have HNL : Hid (c'.co.length = n) := hnl
            clear hnl
            generalize c'.v = v' at t8 Q1
            generalize c'.r = r' at t9 Q2
            generalize c'.is = i' at t5 Q3
            generalize K.colE c' s.a = k' at Q4 Q5
            have hbb : (i' != i') = false := by cases i' <;> rfl
            go_wp2_with fail
            go_quiet (first
              | (go_at_call 20; refine Calls.quiet_of_same (Q1 _))
              | (go_at_call 21; refine Calls.quiet_of_same (Q2 _))
              | (go_at_call 22; refine Calls.quiet_of_same (Q3 _))
              | (go_at_call 23; refine Calls.quiet_of_same (Q4 _))
              | (go_at_call 24; refine Calls.quiet_of_same (Q5 _)))
            go_wp2_with fail
            go_roundw
            case rel => exact ⟨i + 1, c', by go_num, by omega, (HQ.out _).out, HNL.out⟩
            case measure => simp [intOf]; omega
        have dk0 : (s.k == 0) = false := by simpa using hk0
        by_cases hk1 : s.k = 1
        · have dk1 : (s.k == 1) = true := by simpa using hk1
          clear hk0 hk1
          as_aux_lemma =>
            have SX := HD.out.sentx (by omega) s.a s.b
            have SY : Hid _ := fun (W : World) (h : D3 w (i + 1) (senC c s.a s.b) i c b db ob s W) => h.senty (by omega) s.a s.b
            obtain ⟨c', hc'⟩ : ∃ c', senC c s.a s.b = c' := ⟨_, rfl⟩
            have hnl : c'.co.length = n := by rw [← hc', len_sen]; exact HN.out
            rw [hc'] at SX SY
            generalize senE c s.a s.b = g0 at SX SY
            generalize senK c s.a s.b = q0 at SX SY
            clear hc'
            go_wp2_with (first
              | (go_at_call 12; refine SX.mono ?_; rintro e w3 ⟨rfl, h3⟩; clear e0 e1 e2; obtain ⟨e0, e1, e2⟩ := h3.cells; have H3 : Hid _ := h3; clear h3)
              | (go_at_call 13; refine (Hid.out SY _ (Hid.out H3)).mono ?_; rintro e w4 ⟨rfl, h4⟩; have H4 : Hid (D3 w (i + 1) c' (i + 1) c' b db ob s w4) := h4; clear h4))

            obtain ⟨t8, t9, t5⟩ := H4.out.tells
            obtain ⟨f0, f1, f2⟩ := H4.out.cells
            have HQ : Hid (∀ q, D3 w (i + 1) c' (i + 1) c' b db ob s (w4.drewN q)) := fun q => (H4.out.wide (by omega) (by omega)).on ⟨rfl, rfl, rfl, Nat.le_refl _, fun _ _ => rfl⟩
            have Q1 := fun q => (HQ.out q).value
            have Q2 := fun q => (HQ.out q).rounds
            have Q3 := fun q => (HQ.out q).under
            have Q4 := fun q => (HQ.out q).colourx s.a
            have Q5 := fun q => (HQ.out q).coloury s.a
            have HNL : Hid (c'.co.length = n) := hnl
            clear hnl
            generalize c'.v = v' at t8 Q1
            generalize c'.r = r' at t9 Q2
            generalize c'.is = i' at t5 Q3
            generalize K.colE c' s.a = k' at Q4 Q5
            have hbb : (i' != i') = false := by cases i' <;> rfl
            go_wp2_with fail
            go_quiet (first
              | (go_at_call 20; refine Calls.quiet_of_same (Q1 _))
              | (go_at_call 21; refine Calls.quiet_of_same (Q2 _))
              | (go_at_call 22; refine Calls.quiet_of_same (Q3 _))
              | (go_at_call 23; refine Calls.quiet_of_same (Q4 _))
              | (go_at_call 24; refine Calls.quiet_of_same (Q5 _)))
            go_wp2_with fail
            go_roundw
            case rel => exact ⟨i + 1, c', by go_num, by omega, (HQ.out _).out, HNL.out⟩
            case measure => simp [intOf]; omega
        have dk1 : (s.k == 1) = false := by simpa using hk1
        by_cases hk2 : s.k = 2
        · have dk2 : (s.k == 2) = true := by simpa using hk2
          clear hk0 hk1 hk2
          as_aux_lemma =>
            have SX := HD.out.gotx (by omega) s.a s.b
            have SY : Hid _ := fun (W : World) (h : D3 w i (gotC c s.a s.b) i c b db ob s W) => h.goty (by omega) s.a s.b
            obtain ⟨c', hc'⟩ : ∃ c', gotC c s.a s.b = c' := ⟨_, rfl⟩
            have hnl : c'.co.length = n := by rw [← hc', len_got]; exact HN.out
            rw [hc'] at SX SY
            generalize gotE c s.a s.b = g0 at SX SY
            clear hc'
            go_wp2_with (first
              | (go_at_call 14; refine SX.mono ?_; rintro e w3 ⟨rfl, h3⟩; clear e0 e1 e2; obtain ⟨e0, e1, e2⟩ := h3.cells; have H3 : Hid _ := h3; clear h3)
              | (go_at_call 15; refine (Hid.out SY _ (Hid.out H3)).mono ?_; rintro e w4 ⟨rfl, h4⟩; have H4 : Hid (D3 w i c' i c' b db ob s w4) := h4; clear h4))

            obtain ⟨t8, t9, t5⟩ := H4.out.tells
            obtain ⟨f0, f1, f2⟩ := H4.out.cells
            have HQ : Hid (∀ q, D3 w (i + 1) c' (i + 1) c' b db ob s (w4.drewN q)) := fun q => (H4.out.wide (by omega) (by omega)).on ⟨rfl, rfl, rfl, Nat.le_refl _, fun _ _ => rfl⟩
            have Q1 := fun q => (HQ.out q).value
            have Q2 := fun q => (HQ.out q).rounds
            have Q3 := fun q => (HQ.out q).under
            have Q4 := fun q => (HQ.out q).colourx s.a
            have Q5 := fun q => (HQ.out q).coloury s.a
            have HNL : Hid (c'.co.length = n) := hnl
            clear hnl
            generalize c'.v = v' at t8 Q1
            generalize c'.r = r' at t9 Q2
            generalize c'.is = i' at t5 Q3
            generalize K.colE c' s.a = k' at Q4 Q5
            have hbb : (i' != i') = false := by cases i' <;> rfl
            go_wp2_with fail
            go_quiet (first
              | (go_at_call 20; refine Calls.quiet_of_same (Q1 _))
              | (go_at_call 21; refine Calls.quiet_of_same (Q2 _))
              | (go_at_call 22; refine Calls.quiet_of_same (Q3 _))
              | (go_at_call 23; refine Calls.quiet_of_same (Q4 _))
              | (go_at_call 24; refine Calls.quiet_of_same (Q5 _)))
            go_wp2_with fail
            go_roundw
            case rel => exact ⟨i + 1, c', by go_num, by omega, (HQ.out _).out, HNL.out⟩
            case measure => simp [intOf]; omega
        have dk2 : (s.k == 2) = false := by simpa using hk2
        by_cases hk3 : s.k = 3
        · have dk3 : (s.k == 3) = true := by simpa using hk3
          clear hk0 hk1 hk2 hk3
          as_aux_lemma =>
            have SX := HD.out.turnx s.a
            have SY : Hid _ := fun (W : World) (h : D3 w i (turC c s.a) i c b db ob s W) => h.turny s.a
            obtain ⟨c', hc'⟩ : ∃ c', turC c s.a = c' := ⟨_, rfl⟩
            have hnl : c'.co.length = n := by rw [← hc', len_tur]; exact HN.out
            rw [hc'] at SX SY
            generalize turE c s.a = g0 at SX SY
            clear hc'
            go_wp2_with (first
              | (go_at_call 16; refine SX.mono ?_; rintro e w3 ⟨rfl, h3⟩; clear e0 e1 e2; obtain ⟨e0, e1, e2⟩ := h3.cells; have H3 : Hid _ := h3; clear h3)
              | (go_at_call 17; refine (Hid.out SY _ (Hid.out H3)).mono ?_; rintro e w4 ⟨rfl, h4⟩; have H4 : Hid (D3 w i c' i c' b db ob s w4) := h4; clear h4))

            obtain ⟨t8, t9, t5⟩ := H4.out.tells
            obtain ⟨f0, f1, f2⟩ := H4.out.cells
            have HQ : Hid (∀ q, D3 w (i + 1) c' (i + 1) c' b db ob s (w4.drewN q)) := fun q => (H4.out.wide (by omega) (by omega)).on ⟨rfl, rfl, rfl, Nat.le_refl _, fun _ _ => rfl⟩
            have Q1 := fun q => (HQ.out q).value
            have Q2 := fun q => (HQ.out q).rounds
            have Q3 := fun q => (HQ.out q).under
            have Q4 := fun q => (HQ.out q).colourx s.a
            have Q5 := fun q => (HQ.out q).coloury s.a
            have HNL : Hid (c'.co.length = n) := hnl
            clear hnl
            generalize c'.v = v' at t8 Q1
            generalize c'.r = r' at t9 Q2
            generalize c'.is = i' at t5 Q3
            generalize K.colE c' s.a = k' at Q4 Q5
            have hbb : (i' != i') = false := by cases i' <;> rfl
            go_wp2_with fail
            go_quiet (first
              | (go_at_call 20; refine Calls.quiet_of_same (Q1 _))
              | (go_at_call 21; refine Calls.quiet_of_same (Q2 _))
              | (go_at_call 22; refine Calls.quiet_of_same (Q3 _))
              | (go_at_call 23; refine Calls.quiet_of_same (Q4 _))
              | (go_at_call 24; refine Calls.quiet_of_same (Q5 _)))
            go_wp2_with fail
            go_roundw
            case rel => exact ⟨i + 1, c', by go_num, by omega, (HQ.out _).out, HNL.out⟩
            case measure => simp [intOf]; omega
        have dk3 : (s.k == 3) = false := by simpa using hk3
        by_cases hk4 : s.k = 4
        · have dk4 : (s.k == 4) = true := by simpa using hk4
          clear hk0 hk1 hk2 hk3 hk4
          as_aux_lemma =>
            have SX := HD.out.reportx (by omega) s.a s.b
            have SY : Hid _ := fun (W : World) (h : D3 w (i + 1) (repC c s.a s.b) i c b db ob s W) => h.reporty (by omega) s.a s.b
            obtain ⟨c', hc'⟩ : ∃ c', repC c s.a s.b = c' := ⟨_, rfl⟩
            have hnl : c'.co.length = n := by rw [← hc', len_rep]; exact HN.out
            rw [hc'] at SX SY
            generalize repE c s.a s.b = g0 at SX SY
            clear hc'
            go_wp2_with (first
              | (go_at_call 18; refine SX.mono ?_; rintro e w3 ⟨rfl, h3⟩; clear e0 e1 e2; obtain ⟨e0, e1, e2⟩ := h3.cells; have H3 : Hid _ := h3; clear h3)
              | (go_at_call 19; refine (Hid.out SY _ (Hid.out H3)).mono ?_; rintro e w4 ⟨rfl, h4⟩; have H4 : Hid (D3 w (i + 1) c' (i + 1) c' b db ob s w4) := h4; clear h4))

            obtain ⟨t8, t9, t5⟩ := H4.out.tells
            obtain ⟨f0, f1, f2⟩ := H4.out.cells
            have HQ : Hid (∀ q, D3 w (i + 1) c' (i + 1) c' b db ob s (w4.drewN q)) := fun q => (H4.out.wide (by omega) (by omega)).on ⟨rfl, rfl, rfl, Nat.le_refl _, fun _ _ => rfl⟩
            have Q1 := fun q => (HQ.out q).value
            have Q2 := fun q => (HQ.out q).rounds
            have Q3 := fun q => (HQ.out q).under
            have Q4 := fun q => (HQ.out q).colourx s.a
            have Q5 := fun q => (HQ.out q).coloury s.a
            have HNL : Hid (c'.co.length = n) := hnl
            clear hnl
            generalize c'.v = v' at t8 Q1
            generalize c'.r = r' at t9 Q2
            generalize c'.is = i' at t5 Q3
            generalize K.colE c' s.a = k' at Q4 Q5
            have hbb : (i' != i') = false := by cases i' <;> rfl
            go_wp2_with fail
            go_quiet (first
              | (go_at_call 20; refine Calls.quiet_of_same (Q1 _))
              | (go_at_call 21; refine Calls.quiet_of_same (Q2 _))
              | (go_at_call 22; refine Calls.quiet_of_same (Q3 _))
              | (go_at_call 23; refine Calls.quiet_of_same (Q4 _))
              | (go_at_call 24; refine Calls.quiet_of_same (Q5 _)))
            go_wp2_with fail
            go_roundw
            case rel => exact ⟨i + 1, c', by go_num, by omega, (HQ.out _).out, HNL.out⟩
            case measure => simp [intOf]; omega
        have dk4 : (s.k == 4) = false := by simpa using hk4
        clear hk0 hk1 hk2 hk3 hk4
        as_aux_lemma =>
          have hnl := HN.out

          obtain ⟨t8, t9, t5⟩ := HD.out.tells
          obtain ⟨f0, f1, f2⟩ := HD.out.cells
          have HQ : Hid (∀ q, D3 w (i + 1) c (i + 1) c b db ob s (W0.drewN q)) := fun q => (HD.out.wide (by omega) (by omega)).on ⟨rfl, rfl, rfl, Nat.le_refl _, fun _ _ => rfl⟩
          have Q1 := fun q => (HQ.out q).value
          have Q2 := fun q => (HQ.out q).rounds
          have Q3 := fun q => (HQ.out q).under
          have Q4 := fun q => (HQ.out q).colourx s.a
          have Q5 := fun q => (HQ.out q).coloury s.a
          have HNL : Hid (c.co.length = n) := hnl
          clear hnl
          generalize c.v = v' at t8 Q1
          generalize c.r = r' at t9 Q2
          generalize c.is = i' at t5 Q3
          generalize K.colE c s.a = k' at Q4 Q5
          have hbb : (i' != i') = false := by cases i' <;> rfl
          go_wp2_with fail
          go_quiet (first
            | (go_at_call 20; refine Calls.quiet_of_same (Q1 _))
            | (go_at_call 21; refine Calls.quiet_of_same (Q2 _))
            | (go_at_call 22; refine Calls.quiet_of_same (Q3 _))
            | (go_at_call 23; refine Calls.quiet_of_same (Q4 _))
            | (go_at_call 24; refine Calls.quiet_of_same (Q5 _)))
          go_wp2_with fail
          go_roundw
          case rel => exact ⟨i + 1, c, by go_num, by omega, (HQ.out _).out, HNL.out⟩
          case measure => simp [intOf]; omega
      · obtain rfl : i = L := by omega
        have hnl := HN.out
        obtain ⟨rb, tb, eb, h1, _⟩ := H0.out
        have T1 := h1.turn (-1)
        have hp : K.isP c (-1) = false := by unfold K.isP; simp
        rw [(turE_no hp).1, (turE_no hp).2] at T1
        have CO : Hid (∀ W, C1 w i c b W → Calls Try.prog 23 #[pp b, .int .i64 (n : Int)] W fun e w' => e = .returned (.int .i64 (-1)) ∧ W = w') := fun W h => by
          have := h.colour n
          rwa [show K.colE c n = -1 by unfold K.colE K.isP; rw [hnl]; simp] at this
        clear h1 hp hnl
        go_wp2_with (first | (go_at_call 16; refine T1.mono ?_; rintro e w3 ⟨rfl, h3⟩; have H3 : Hid _ := h3; clear h3 T1) | (go_at_call 23; refine (Hid.out CO _ (Hid.out H3)).mono ?_; rintro e w' ⟨rfl, rfl⟩))
        go_ret
        exact ⟨rfl, H3.out.bel⟩
  · have N1 := new_no w n0 hok
    have N2 := dnew_no w n0 hok
    clear hok
    go_enter Try.func3, Try.ntmps3
    go_wp2_with (first | (go_at_call 8; refine N1.mono ?_; rintro e w1 ⟨rfl, rfl⟩) | (go_at_call 9; refine N2.mono ?_; rintro e w2 ⟨rfl, rfl⟩))
    go_ret
    exact ⟨rfl, Below.refl _ _⟩
end Go.Proofs.Ytdfjmnckgcpmgaa
