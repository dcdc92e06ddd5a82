/- Proved: the walk of LinkApart. -/
import Derived.Test.YtkngokpildoljaaStp
namespace Go.Proofs.Ytkngokpildoljaa
open Go.RowKit Go.Shelf
set_option linter.unusedVariables false

theorem snd_one {n r : Nat} {L M : Ln} {a b : Int} (x : It) (h : L a b = M a b) : sndE n r L a b x = sndE n r M a b x ∧ sndL n r L a b x a b = sndL n r M a b x a b := by
  have e : sndE n r L a b x = sndE n r M a b x := by unfold sndE; rw [h]
  refine ⟨e, ?_⟩
  unfold sndL
  rw [e]
  split
  · rw [updL_at, updL_at, h]
  · exact h
theorem snd_other {n r : Nat} {L : Ln} {a b c d : Int} (x : It) (h : ¬ (c = a ∧ d = b)) : sndL n r L a b x c d = L c d := by
  unfold sndL
  split
  · rw [updL_out _ _ _ _ h]
  · rfl
theorem rcv_at (L : Ln) (a b : Int) : rcvL L a b a b = (L a b).tail := updL_at _ _ _ _
theorem rcv_other {L : Ln} {a b c d : Int} (h : ¬ (c = a ∧ d = b)) : rcvL L a b c d = L c d := updL_out _ _ _ _ h
theorem no_link (n : Nat) (a : Int) : isL n a a = false := by simp [isL]
theorem snd_no (n r : Nat) (L : Ln) (a : Int) (x : It) : sndE n r L a a x = 1 := by
  unfold sndE
  rw [no_link, if_neg (by simp)]

set_option maxRecDepth 100000 in
set_option maxHeartbeats 4000000 in
theorem apart_walk (w : World) (sa : Option Addr) (sc : Nat) (z : List St) (p q : Int) (hz : RdS w sa z) (hn : z.length ≤ maxLen) (hp : 0 ≤ p ∧ p ≤ 255) (hq : 0 ≤ q ∧ q ≤ 255) :
    Calls Try.prog 7 #[.slice sa z.length sc, .int .u8 p, .int .u8 q] w fun e w' => e = .returned (.bool true) ∧ Below w.heap.size w w' := by
  by_cases hlong : 200 < z.length
  · have hl' : (200 : Int) < (z.length : Int) := by omega
    unfold maxLen at hn
    clear hz
    go_enter Try.func7, Try.ntmps7
    go_wp2
    go_ret
    exact ⟨rfl, Below.refl _ _⟩
  have hz2 : z.length ≤ 200 := by omega
  have hl' : ¬ (200 : Int) < (z.length : Int) := by omega
  obtain ⟨kp, rfl⟩ := Int.eq_ofNat_of_zero_le hp.1
  obtain ⟨kq, rfl⟩ := Int.eq_ofNat_of_zero_le hq.1
  have hp2 : (kp : Int) ≤ 255 := hp.2
  have hq2 : (kq : Int) ≤ 255 := hq.2
  obtain ⟨f, hf⟩ : ∃ f, (kp : Int) % 4 = f := ⟨_, rfl⟩
  obtain ⟨t, ht⟩ : ∃ t, (kq : Int) % 4 = t := ⟨_, rfl⟩
  obtain ⟨B, hB⟩ : ∃ B, w.heap.size = B := ⟨_, rfl⟩
  have NW : Calls Try.prog 8 #[.int .i64 4, .int .i64 5] w fun e w' => e = .returned (.tuple #[.pointer (some ⟨B, 0, none⟩), .int .i64 0]) ∧ N1 w w' 4 5 noL B := by
    rw [← hB]
    exact (new_ok w 4 5 (by omega) (by omega) (by omega) (by omega)).mono fun e w' ⟨he, h1, h2⟩ => ⟨he, h1, Nat.le_refl _, h2⟩
  have NX : ∀ w1, N1 w w1 4 5 noL B → Calls Try.prog 8 #[.int .i64 4, .int .i64 5] w1 fun e w' => e = .returned (.tuple #[.pointer (some ⟨w1.heap.size, 0, none⟩), .int .i64 0]) ∧ N2 w w' 4 5 noL noL B w1.heap.size := fun w1 h1 =>
    (new_ok w1 4 5 (by omega) (by omega) (by omega) (by omega)).mono fun e w' ⟨he, h2, h3⟩ => ⟨he, h1.on h3, ⟨h2, h1.bel.size, (h1.on h3).bel⟩, by have := h1.net.lt; omega⟩
  have HNX : Hid _ := NX
  have HZ : Hid _ := hz
  clear hp hq hB NX hz hn hlong
  go_enter Try.func7, Try.ntmps7
  go_wp2_with (go_at_call 8; first | (refine NW.mono ?_; rintro e w1 ⟨rfl, h1⟩; have H1 : Hid _ := h1; clear h1 NW) | (refine (Hid.out HNX _ (Hid.out H1)).mono ?_; rintro e w2 ⟨rfl, h2⟩; have H2 : Hid _ := h2; clear h2 HNX))
  obtain ⟨C, hC⟩ : ∃ C, w1.heap.size = C := ⟨_, rfl⟩
  simp only [hC, hf, ht] at H2 ⊢
  clear hC hf ht
  go_loopw [13] (fun s13 wr => ∃ (i : Nat) (L M : Ln), s13 = .int .i64 i ∧ i ≤ z.length ∧ Hid (L f t = M f t) ∧ Hid (N2 w wr 4 5 L M B C)) (fun s13 _ => z.length - (intOf s13).toNat)
  case atStart => exact ⟨0, noL, noL, rfl, Nat.zero_le _, rfl, H2.out⟩
  case round =>
    obtain ⟨i, L, M, rfl, hi, HE, HN⟩ := hrel
    by_cases hlt : i < z.length
    · have hlt' : (i : Int) < (z.length : Int) := by omega
      obtain ⟨b, off, rfl, hb, hcs⟩ := RdS.cells HZ.out hlt
      obtain ⟨c0, c1, c2, c3, c4, c5, c6, c7, c8, c9, c10⟩ := hcs _ HN.out.x.bel
      obtain ⟨s, hs⟩ : ∃ s, nthS z i = s := ⟨_, rfl⟩
      simp only [hs] at c0 c1 c2 c3 c4 c5 c6 c7 c8 c9 c10
      have hBl := HN.out.x.net.lt
      have hCl := HN.out.y.net.lt
      have HX : Hid _ := BoxS.new wr s
      have HM : Hid _ := HN.out.on (al wr (.cells (scs s) 37))
      obtain ⟨e0, e1, e2, e3, e4, e5, e6, e7, e8, e9, e10⟩ := HX.out.cells
      clear hcs hs
      have hdec : (s.a = f ∧ s.b = t) ∨ ((s.a == f) = false ∧ ¬ (f = s.a ∧ t = s.b)) ∨ ((s.a == f) = true ∧ (s.b == t) = false ∧ ¬ (f = s.a ∧ t = s.b)) := by
        by_cases h1 : s.a = f
        · by_cases h2 : s.b = t
          · exact .inl ⟨h1, h2⟩
          · exact .inr (.inr ⟨by simpa using h1, by simpa using h2, fun g => h2 g.2.symm⟩)
        · exact .inr (.inl ⟨by simpa using h1, fun g => h1 g.1.symm⟩)
      by_cases hk0 : s.k = 0
      · have dk0 : (s.k == 0) = true := by simpa using hk0
        clear hk0
        rcases hdec with hm | hno
        · have d1 : (s.a == f) = true := by simpa using hm.1
          have d2 : (s.b == t) = true := by simpa using hm.2
          have HE2 : Hid (L s.a s.b = M s.a s.b) := by rw [hm.1, hm.2]; exact HE.out
          obtain ⟨g, hg⟩ : ∃ g, sndE 4 5 L s.a s.b s.x = g := ⟨_, rfl⟩
          have hg2 : sndE 4 5 M s.a s.b s.x = g := by rw [← hg]; exact (snd_one s.x HE2.out).1.symm
          have HEE : Hid (sndL 4 5 L s.a s.b s.x f t = sndL 4 5 M s.a s.b s.x f t) := by
            have := (snd_one (n := 4) (r := 5) s.x HE2.out).2
            rw [← hm.1, ← hm.2]; exact this
          have SX := N2.sendx HM.out s.a s.b s.x
          have SY : ∀ W, N2 w W 4 5 (sndL 4 5 L s.a s.b s.x) M B C → _ := fun W h => N2.sendy h s.a s.b s.x
          rw [hg] at SX
          simp only [hg2] at SY
          have HSY : Hid _ := SY
          obtain ⟨L', hL'⟩ : ∃ L', sndL 4 5 L s.a s.b s.x = L' := ⟨_, rfl⟩
          obtain ⟨M', hM'⟩ : ∃ M', sndL 4 5 M s.a s.b s.x = M' := ⟨_, rfl⟩
          simp only [hL', hM'] at SX HSY HEE
          clear SY hg hg2 hm hL' hM' HE HE2
          go_wp2_with (go_at_call 10; first | (refine (Hid.out HSY _ (Hid.out H3)).mono ?_; rintro e w4 ⟨rfl, h4, f4⟩; have H4 : Hid _ := h4; clear h4 f4 HSY) | (refine SX.mono ?_; rintro e w3 ⟨rfl, h3, f3⟩; have H3 : Hid _ := h3; have bx := HX.out.keep f3 (by omega); clear e0 e1 e2 e3 e4 e5 e6 e7 e8 e9 e10; obtain ⟨e0, e1, e2, e3, e4, e5, e6, e7, e8, e9, e10⟩ := bx.cells; clear h3 f3 SX bx))
          go_roundw
          case rel => exact ⟨i + 1, L', M', by go_num, by omega, HEE.out, H4.out⟩
          case measure => simp [intOf]; omega
        · have hoo : ¬ (f = s.a ∧ t = s.b) := by rcases hno with h | h; exact h.2; exact h.2.2
          have HEE : Hid (sndL 4 5 L s.a s.b s.x f t = M f t) := by
            show _ = _
            rw [snd_other s.x hoo]; exact HE.out
          have SX := N2.sendx HM.out s.a s.b s.x
          obtain ⟨g, hg⟩ : ∃ g, sndE 4 5 L s.a s.b s.x = g := ⟨_, rfl⟩
          obtain ⟨L', hL'⟩ : ∃ L', sndL 4 5 L s.a s.b s.x = L' := ⟨_, rfl⟩
          simp only [hg, hL'] at SX HEE
          clear hg hL' HE hoo
          rcases hno with ⟨d1, _⟩ | ⟨d1, d2, _⟩
          · go_wp2_with (go_at_call 10; refine SX.mono ?_; rintro e w3 ⟨rfl, h3, f3⟩; have H3 : Hid _ := h3; clear h3 f3 SX)
            go_roundw
            case rel => exact ⟨i + 1, L', M, by go_num, by omega, HEE.out, H3.out⟩
            case measure => simp [intOf]; omega
          · go_wp2_with (go_at_call 10; refine SX.mono ?_; rintro e w3 ⟨rfl, h3, f3⟩; have H3 : Hid _ := h3; clear h3 f3 SX)
            go_roundw
            case rel => exact ⟨i + 1, L', M, by go_num, by omega, HEE.out, H3.out⟩
            case measure => simp [intOf]; omega
      · have dk0 : (s.k == 0) = false := by simpa using hk0
        by_cases hk1 : s.k = 1
        · have dk1 : (s.k == 1) = true := by simpa using hk1
          clear hk0 hk1
          rcases hdec with hm | hno
          · have d1 : (s.a == f) = true := by simpa using hm.1
            have d2 : (s.b == t) = true := by simpa using hm.2
            have HE2 : Hid (L s.a s.b = M s.a s.b) := by rw [hm.1, hm.2]; exact HE.out
            have HEE : Hid (rcvL L s.a s.b f t = rcvL M s.a s.b f t) := by
              show _ = _
              rw [← hm.1, ← hm.2, rcv_at, rcv_at, HE2.out]
            have SX := N2.recvx HM.out s.a s.b
            have SY : ∀ W, N2 w W 4 5 (rcvL L s.a s.b) M B C → _ := fun W h => N2.recvy h s.a s.b
            rw [HE2.out] at SX
            obtain ⟨u, hu⟩ : ∃ u, nthT (M s.a s.b) 0 = u := ⟨_, rfl⟩
            obtain ⟨v, hv⟩ : ∃ v, fstB (M s.a s.b) = v := ⟨_, rfl⟩
            obtain ⟨L', hL'⟩ : ∃ L', rcvL L s.a s.b = L' := ⟨_, rfl⟩
            obtain ⟨M', hM'⟩ : ∃ M', rcvL M s.a s.b = M' := ⟨_, rfl⟩
            simp only [hu, hv, hL', hM'] at SX SY HEE
            have HSY : Hid _ := SY
            have hne : ∀ W, (binOp .neq 35 (iv u) (iv u)).run Try.prog W = .ok (.bool false) W := fun W => by rw [neqI, sameI_self]; rfl
            clear SY hu hv hm hL' hM' HE HE2
            cases v
            · go_wp2_with (go_at_call 14; first | (refine (Hid.out HSY _ (Hid.out H3)).mono ?_; rintro e w4 ⟨rfl, h4, f4⟩; have H4 : Hid _ := h4.on (al w4 (.cells (ics u) 35)); have bu := (HU.out.keep f4 (by omega)).below (al w4 (.cells (ics u) 35)); obtain ⟨u0, u1, u2, u3, u4, u5, u6, u7⟩ := bu.cells; have bv := BoxT.new w4 u; obtain ⟨v0, v1, v2, v3, v4, v5, v6, v7⟩ := bv.cells; clear h4 f4 HSY bu bv) | (refine SX.mono ?_; rintro e w3 ⟨rfl, h3, f3⟩; have H3 : Hid _ := h3.on (al w3 (.cells (ics u) 35)); have HU : Hid _ := BoxT.new w3 u; have hC3 := h3.y.net.lt; have bx := (HX.out.keep f3 (by omega)).below (al w3 (.cells (ics u) 35)); clear e0 e1 e2 e3 e4 e5 e6 e7 e8 e9 e10; obtain ⟨e0, e1, e2, e3, e4, e5, e6, e7, e8, e9, e10⟩ := bx.cells; clear h3 f3 SX bx))
              go_roundw
              case rel => exact ⟨i + 1, L', M', by go_num, by omega, HEE.out, H4.out⟩
              case measure => simp [intOf]; omega
            · go_wp2_with (go_at_call 14; first | (refine (Hid.out HSY _ (Hid.out H3)).mono ?_; rintro e w4 ⟨rfl, h4, f4⟩; have H4 : Hid _ := h4.on (al w4 (.cells (ics u) 35)); have bu := (HU.out.keep f4 (by omega)).below (al w4 (.cells (ics u) 35)); obtain ⟨u0, u1, u2, u3, u4, u5, u6, u7⟩ := bu.cells; have bv := BoxT.new w4 u; obtain ⟨v0, v1, v2, v3, v4, v5, v6, v7⟩ := bv.cells; clear h4 f4 HSY bu bv) | (refine SX.mono ?_; rintro e w3 ⟨rfl, h3, f3⟩; have H3 : Hid _ := h3.on (al w3 (.cells (ics u) 35)); have HU : Hid _ := BoxT.new w3 u; have hC3 := h3.y.net.lt; have bx := (HX.out.keep f3 (by omega)).below (al w3 (.cells (ics u) 35)); clear e0 e1 e2 e3 e4 e5 e6 e7 e8 e9 e10; obtain ⟨e0, e1, e2, e3, e4, e5, e6, e7, e8, e9, e10⟩ := bx.cells; clear h3 f3 SX bx))
              go_roundw
              case rel => exact ⟨i + 1, L', M', by go_num, by omega, HEE.out, H4.out⟩
              case measure => simp [intOf]; omega
          · have hoo : ¬ (f = s.a ∧ t = s.b) := by rcases hno with h | h; exact h.2; exact h.2.2
            have HEE : Hid (rcvL L s.a s.b f t = M f t) := by
              show _ = _
              rw [rcv_other hoo]; exact HE.out
            have SX := N2.recvx HM.out s.a s.b
            obtain ⟨u, hu⟩ : ∃ u, nthT (L s.a s.b) 0 = u := ⟨_, rfl⟩
            obtain ⟨v, hv⟩ : ∃ v, fstB (L s.a s.b) = v := ⟨_, rfl⟩
            obtain ⟨L', hL'⟩ : ∃ L', rcvL L s.a s.b = L' := ⟨_, rfl⟩
            simp only [hu, hv, hL'] at SX HEE
            clear hu hv hL' HE hoo
            rcases hno with ⟨d1, _⟩ | ⟨d1, d2, _⟩
            · go_wp2_with (go_at_call 14; refine SX.mono ?_; rintro e w3 ⟨rfl, h3, f3⟩; have H3 : Hid _ := h3.on (al w3 (.cells (ics u) 35)); clear h3 f3 SX)
              go_roundw
              case rel => exact ⟨i + 1, L', M, by go_num, by omega, HEE.out, H3.out⟩
              case measure => simp [intOf]; omega
            · go_wp2_with (go_at_call 14; refine SX.mono ?_; rintro e w3 ⟨rfl, h3, f3⟩; have H3 : Hid _ := h3.on (al w3 (.cells (ics u) 35)); clear h3 f3 SX)
              go_roundw
              case rel => exact ⟨i + 1, L', M, by go_num, by omega, HEE.out, H3.out⟩
              case measure => simp [intOf]; omega
        · have dk1 : (s.k == 1) = false := by simpa using hk1
          clear hk0 hk1
          rcases hdec with hm | hno
          · have d1 : (s.a == f) = true := by simpa using hm.1
            have d2 : (s.b == t) = true := by simpa using hm.2
            clear hm
            go_wp2
            go_roundw
            case rel => exact ⟨i + 1, L, M, by go_num, by omega, HE.out, HM.out⟩
            case measure => simp [intOf]; omega
          · rcases hno with ⟨d1, _⟩ | ⟨d1, d2, _⟩
            · go_wp2
              go_roundw
              case rel => exact ⟨i + 1, L, M, by go_num, by omega, HE.out, HM.out⟩
              case measure => simp [intOf]; omega
            · go_wp2
              go_roundw
              case rel => exact ⟨i + 1, L, M, by go_num, by omega, HE.out, HM.out⟩
              case measure => simp [intOf]; omega
    · obtain rfl : i = z.length := by omega
      have LX := len_any HN.out.x.net f t
      have LY := len_any HN.out.y.net f t
      have RX := room_any HN.out.x.net f t
      have RY : ∀ W, N2 w W 4 5 L M B C → Calls Try.prog 18 #[.pointer (some ⟨C, 0, none⟩), .int .i64 f, .int .i64 t] W fun e w' => e = .returned (.int .i64 (roomN 4 5 L f t)) ∧ N2 w w' 4 5 L M B C := fun W h => by
        have := room_any h.y.net f t
        have e : roomN 4 5 L f t = roomN 4 5 M f t := by unfold roomN; rw [HE.out]
        rw [e]
        exact this.mono fun e w' ⟨he, hb⟩ => ⟨he, h.on hb⟩
      have SX : ∀ W, N2 w W 4 5 L M B C → Calls Try.prog 10 #[.pointer (some ⟨B, 0, none⟩), .int .i64 0, .int .i64 0, .agg #[.int .i64 0, .int .i64 0, .int .i64 0, .int .i64 0, .int .i64 0, .int .i64 0, .int .i64 0, .int .i64 0]] W fun e w' => e = .returned (.int .i64 1) ∧ Below w.heap.size w w' := fun W h =>
        (N2.sendx h 0 0 it0).mono fun e w' ⟨he, hn, _⟩ => ⟨by rw [he, snd_no], hn.x.bel⟩
      rw [← HE.out] at LY
      obtain ⟨l, hl⟩ : ∃ l, (L f t).length = l := ⟨_, rfl⟩
      obtain ⟨r, hr⟩ : ∃ r, roomN 4 5 L f t = r := ⟨_, rfl⟩
      rw [hl] at LX LY
      rw [hr] at RX
      simp only [hr] at RY
      have HRY : Hid _ := RY
      have HSX : Hid _ := SX
      clear hl hr RY SX
      go_wp2_with (first | (go_at_call 16; first | (refine LX.mono ?_; rintro e w3 ⟨rfl, rfl⟩; clear LX) | (refine LY.mono ?_; rintro e w3 ⟨rfl, rfl⟩; clear LY)) | (go_at_call 18; first | (refine (Hid.out HRY _ (Hid.out H5)).mono ?_; rintro e w6 ⟨rfl, h6⟩; have H6 : Hid _ := h6; clear h6 HRY) | (refine RX.mono ?_; rintro e w5 ⟨rfl, h5⟩; have H5 : Hid _ := HN.out.on h5; clear h5 RX)) | (go_at_call 10; refine (Hid.out HSX _ (Hid.out H6)).mono ?_; rintro e w7 ⟨rfl, h7⟩; have H7 : Hid _ := h7; clear h7 HSX))
      go_ret
      exact ⟨rfl, H7.out⟩
end Go.Proofs.Ytkngokpildoljaa
