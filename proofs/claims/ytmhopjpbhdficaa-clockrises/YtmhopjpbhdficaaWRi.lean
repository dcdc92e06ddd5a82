/- Proved: the walk of ClockRises. -/
import Derived.Test.YtmhopjpbhdficaaStp
namespace Go.Proofs.Ytmhopjpbhdficaa
open Go.RowKit Go.Shelf
set_option linter.unusedVariables false

theorem bnd_mono {n me : Nat} {c d : Int → Int} (h : ∀ j, isCl n me j = true → c j ≤ d j) : bnd n me c ≤ bnd n me d := by
  have hb := bnd_hi n me c
  rcases bndK_is me d n with e | ⟨j, g1, g2, g3⟩
  · change bnd n me d = _ at e
    omega
  · change bnd n me d = _ at g3
    have hj : isCl n me j = true := isCl_iff.2 ⟨by omega, by omega, by omega⟩
    have h1 := bnd_le (c := c) hj
    have h2 := h j hj
    omega
theorem hrC_up {n me : Nat} {c : Int → Int} (a x : Int) (j : Int) : c j ≤ hrC n me c a x j := by
  unfold hrC
  split
  · rename_i g
    by_cases e : j = a
    · subst e; rw [upC_at]; exact (hr0 g).2.2
    · rw [upC_out _ _ e]; exact Int.le_refl _
  · exact Int.le_refl _
theorem bnd_hear (n me : Nat) (c : Int → Int) (a x : Int) : bnd n me c ≤ bnd n me (hrC n me c a x) := bnd_mono fun j _ => hrC_up a x j
theorem at_heard {n me : Nat} {c : Int → Int} {a x : Int} (h : hrE n me c a x = 0) : atC n me (hrC n me c a x) a = x := by
  unfold atC hrC
  rw [if_pos (hr0 h).1, if_pos h, upC_at]
theorem at_not {n me : Nat} {c : Int → Int} {a x : Int} (h : hrE n me c a x ≠ 0) : hrC n me c a x = c := by
  unfold hrC
  rw [if_neg h]
theorem tl_is {n me : Nat} {c : Int → Int} {t f l : Int} : tlB n me c t f l = decide (t < tlT n me c t f l) := by
  unfold tlB tlT
  split
  · rw [decide_eq_decide]; omega
  · rfl

set_option maxRecDepth 100000 in
set_option maxHeartbeats 4000000 in
theorem rises_walk (w : World) (sa : Option Addr) (sc : Nat) (z : List St) (hz : RdS w sa z) (hn : z.length ≤ maxLen) :
    Calls Try.prog 4 #[.slice sa z.length sc] w fun e w' => e = .returned (.bool true) ∧ Below w.heap.size w w' := by
  by_cases hlong : 200 < z.length
  · have hl' : (200 : Int) < (z.length : Int) := by omega
    unfold maxLen at hn
    clear hz
    go_enter Try.func4, Try.ntmps4
    go_wp2
    go_ret
    exact ⟨rfl, Below.refl _ _⟩
  have hz2 : z.length ≤ 200 := by omega
  have hl' : ¬ (200 : Int) < (z.length : Int) := by omega
  obtain ⟨b, hb⟩ : ∃ b, w.heap.size + 1 = b := ⟨_, rfl⟩
  obtain ⟨mb, hmb⟩ : ∃ mb, w.heap.size = mb := ⟨_, rfl⟩
  have NW : Calls Try.prog 8 #[.int .i64 4, .int .i64 1] w fun e w' => e = .returned (.tuple #[.pointer (some ⟨b, 0, none⟩), .int .i64 0]) ∧ P1 w w' 4 1 noC 0 b mb := by
    rw [← hb, ← hmb]; exact P1.new w 4 1 (by omega) (by omega) (by omega)
  have b0 : bnd 4 1 noC = 0 := by decide
  have HZ : Hid _ := hz
  clear hz hn hlong hb hmb
  go_enter Try.func4, Try.ntmps4
  go_wp2_with (first | (go_at_call 8; refine NW.mono ?_; rintro e w1 ⟨rfl, h1⟩; have H1 : Hid _ := h1; clear h1 NW) | (go_at_call 16; refine (P1.bound (Hid.out H1)).mono ?_; rw [b0]; rintro e w2 ⟨rfl, h2⟩; have H2 : Hid _ := h2; clear h2) | (go_at_call 18; refine (P1.told (Hid.out H2)).mono ?_; rintro e w3 ⟨rfl, rfl⟩))
  clear b0
  go_loopw [5] (fun s5 wr => ∃ (i : Nat) (c : Int → Int) (t : Int), s5 = .int .i64 i ∧ i ≤ z.length ∧ Hid (P1 w wr 4 1 c t b mb)) (fun s5 _ => z.length - (intOf s5).toNat)
  case atStart => exact ⟨0, noC, 0, rfl, Nat.zero_le _, H2.out⟩
  case round =>
    obtain ⟨i, c, t, rfl, hi, HN⟩ := hrel
    by_cases hlt : i < z.length
    · have hlt' : (i : Int) < (z.length : Int) := by omega
      obtain ⟨hwa, xb, off, rfl, hxb, hcs⟩ := RdS.cells HZ.out hlt
      obtain ⟨s, hs⟩ : ∃ s, nthS z i = s := ⟨_, rfl⟩
      rw [hs] at hwa
      simp only [hs] at hcs
      have HCS : Hid _ := hcs
      clear hcs hs
      obtain ⟨B, hB⟩ : ∃ B, bnd 4 1 c = B := ⟨_, rfl⟩
      have BD := HN.out.bound
      rw [hB] at BD
      by_cases hk0 : s.k = 0
      · have dk0 : (s.k == 0) = true := by simpa using hk0
        have AT : ∀ W, P1 w W 4 1 c t b mb → _ := fun W h => P1.at h s.a hwa
        have SX : ∀ W, P1 w W 4 1 c t b mb → _ := fun W h => P1.hear h s.a s.b hwa
        have AT2 : ∀ W, P1 w W 4 1 (hrC 4 1 c s.a s.b) t b mb → _ := fun W h => P1.at h s.a hwa
        have BD2 : ∀ W, P1 w W 4 1 (hrC 4 1 c s.a s.b) t b mb → _ := fun W h => P1.bound h
        have hBB := bnd_hear 4 1 c s.a s.b
        obtain ⟨B2, hB2⟩ : ∃ B2, bnd 4 1 (hrC 4 1 c s.a s.b) = B2 := ⟨_, rfl⟩
        rw [hB, hB2] at hBB
        have hnB : ¬ B2 < B := by omega
        obtain ⟨a, ha⟩ : ∃ a, atC 4 1 c s.a = a := ⟨_, rfl⟩
        obtain ⟨g, hg⟩ : ∃ g, hrE 4 1 c s.a s.b = g := ⟨_, rfl⟩
        obtain ⟨a2, ha2⟩ : ∃ a2, atC 4 1 (hrC 4 1 c s.a s.b) s.a = a2 := ⟨_, rfl⟩
        have hcase : (g = 0 ∧ a2 = s.b) ∨ (g ≠ 0 ∧ a2 = a) := by
          by_cases e : g = 0
          · left; refine ⟨e, ?_⟩; rw [← ha2]; exact at_heard (by rw [hg]; exact e)
          · right; refine ⟨e, ?_⟩; rw [← ha2, at_not (by rw [hg]; exact e)]; exact ha
        obtain ⟨c', hc'⟩ : ∃ c', hrC 4 1 c s.a s.b = c' := ⟨_, rfl⟩
        simp only [ha] at AT
        simp only [hg, hc'] at SX
        simp only [hc'] at ha2 hB2
        simp only [hc', ha2] at AT2
        simp only [hc', hB2] at BD2
        have HAT : Hid _ := AT
        have HSX : Hid _ := SX
        have HAT2 : Hid _ := AT2
        have HBD2 : Hid _ := BD2
        clear hk0 AT SX AT2 BD2 hBB hB hB2 ha hg ha2 hc'
        go_wp2_with (first | (go_at_call 16; refine BD.mono ?_; rintro e w4 ⟨rfl, h4⟩; have H4 : Hid _ := h4; obtain ⟨c0, c1, c2⟩ := Hid.out HCS _ h4.bel; clear h4 BD) | (go_at_call 18; refine (P1.told (Hid.out H4)).mono ?_; rintro e w5 ⟨rfl, rfl⟩) | (go_at_call 14; refine (Hid.out HAT _ (Hid.out H4)).mono ?_; rintro e w5 ⟨rfl, rfl⟩; clear HAT))
        go_region_held3 (fun w' => w'.cell? ⟨xb, off + i * 3 + 1, none⟩ = some (.int .i64 s.a) ∧ w'.cell? ⟨xb, off + i * 3 + 2, none⟩ = some (.int .i64 s.b)) (first | (go_keep; done) | exact Hid.out KEEP) (first | (go_at_call 10; refine (Hid.out HSX _ ((Hid.out H4).on ((Below.refl _ _).drew))).mono ?_; rintro e w6 ⟨rfl, h6⟩; have H6 : Hid _ := h6; have KEEP : Hid _ := (Hid.out HCS _ h6.bel).2; clear h6 HSX))
        clear KEEP c0 c1 c2
        obtain ⟨c0, c1, c2⟩ := HCS.out _ H6.out.bel
        have HC : ∀ n, Calls Try.prog 14 #[.pointer (some ⟨b, 0, none⟩), .int .i64 s.a] (w6.drewN n) fun e w' => e = .returned (.int .i64 a2) ∧ w' = w6.drewN n := fun n =>
          (HAT2.out (w6.drewN n) (H6.out.on ⟨rfl, rfl, rfl, Nat.le_refl _, fun _ _ => rfl⟩)).mono fun e w' ⟨he, hw⟩ => ⟨he, hw.symm⟩
        have HTL : Hid (∀ n, P1 w (w6.drewN n) 4 1 c' t b mb) := fun n => H6.out.on ⟨rfl, rfl, rfl, Nat.le_refl _, fun _ _ => rfl⟩
        rcases hcase with ⟨rfl, rfl⟩ | ⟨hg0, rfl⟩
        · go_wp2_with fail
          go_quiet (first | (go_at_call 14; refine Calls.quiet_of_same (HC _)))
          go_wp2_with (first | (go_at_call 16; refine (Hid.out HBD2 _ (Hid.out HTL _)).mono ?_; rintro e w7 ⟨rfl, h7⟩; have H7 : Hid _ := h7; clear h7 HBD2) | (go_at_call 18; refine (P1.told (Hid.out H7)).mono ?_; rintro e w8 ⟨rfl, rfl⟩))
          go_roundw
          case rel => exact ⟨i + 1, c', t, by go_num, by omega, H7.out⟩
          case measure => simp [intOf]; omega
        · have d1 : (g == 0) = false := by simpa using hg0
          have d2 : (g != 0) = true := by simpa using hg0
          go_wp2_with fail
          go_quiet (first | (go_at_call 14; refine Calls.quiet_of_same (HC _)))
          go_wp2_with (first | (go_at_call 16; refine (Hid.out HBD2 _ (Hid.out HTL _)).mono ?_; rintro e w7 ⟨rfl, h7⟩; have H7 : Hid _ := h7; clear h7 HBD2) | (go_at_call 18; refine (P1.told (Hid.out H7)).mono ?_; rintro e w8 ⟨rfl, rfl⟩))
          go_roundw
          case rel => exact ⟨i + 1, c', t, by go_num, by omega, H7.out⟩
          case measure => simp [intOf]; omega
      · have dk0 : (s.k == 0) = false := by simpa using hk0
        have SX : ∀ W, P1 w W 4 1 c t b mb → _ := fun W h => P1.tell h s.a s.b
        obtain ⟨t2, ht2⟩ : ∃ t2, tlT 4 1 c t s.a s.b = t2 := ⟨_, rfl⟩
        have hup := tlT_up 4 1 c t s.a s.b
        rw [ht2] at hup
        simp only [tl_is, ht2] at SX
        have HSX : Hid _ := SX
        have BD2 : ∀ W, P1 w W 4 1 c t2 b mb → _ := fun W h => P1.bound h
        simp only [hB] at BD2
        have HBD2 : Hid _ := BD2
        have hnt : ¬ t2 < t := by omega
        clear hk0 SX hB ht2 BD2
        obtain ⟨d, hd⟩ : ∃ d, decide (t < t2) = d := ⟨_, rfl⟩
        rw [hd] at HSX
        have hdec : (d = true ∧ t < t2) ∨ (d = false ∧ ¬ t < t2) := by
          cases d
          · right; exact ⟨rfl, by simpa using hd⟩
          · left; exact ⟨rfl, by simpa using hd⟩
        clear hd hup
        go_wp2_with (first | (go_at_call 16; refine BD.mono ?_; rintro e w4 ⟨rfl, h4⟩; have H4 : Hid _ := h4; obtain ⟨c0, c1, c2⟩ := Hid.out HCS _ h4.bel; clear h4 BD) | (go_at_call 18; refine (P1.told (Hid.out H4)).mono ?_; rintro e w5 ⟨rfl, rfl⟩))
        go_region_held3 (fun w' => w'.cell? ⟨xb, off + i * 3 + 1, none⟩ = some (.int .i64 s.a) ∧ w'.cell? ⟨xb, off + i * 3 + 2, none⟩ = some (.int .i64 s.b)) (first | (go_keep; done) | exact Hid.out KEEP) (first | (go_at_call 12; refine (Hid.out HSX _ ((Hid.out H4).on ((Below.refl _ _).drew))).mono ?_; rintro e w6 ⟨rfl, h6⟩; have H6 : Hid _ := h6; have KEEP : Hid _ := (Hid.out HCS _ h6.bel).2; clear h6 HSX))
        clear KEEP c0 c1 c2
        rcases hdec with ⟨rfl, htt⟩ | ⟨rfl, htt⟩
        · go_wp2_with (first | (go_at_call 16; refine (Hid.out HBD2 _ (Hid.out H6)).mono ?_; rintro e w7 ⟨rfl, h7⟩; have H7 : Hid _ := h7; clear h7 HBD2) | (go_at_call 18; first | (refine (P1.told (Hid.out H7)).mono ?_; rintro e w8 ⟨rfl, rfl⟩) | (refine (P1.told (Hid.out H6)).mono ?_; rintro e w8 ⟨rfl, rfl⟩)))
          go_roundw
          case rel => exact ⟨i + 1, c, t2, by go_num, by omega, H7.out⟩
          case measure => simp [intOf]; omega
        · go_wp2_with (first | (go_at_call 16; refine (Hid.out HBD2 _ (Hid.out H6)).mono ?_; rintro e w7 ⟨rfl, h7⟩; have H7 : Hid _ := h7; clear h7 HBD2) | (go_at_call 18; first | (refine (P1.told (Hid.out H7)).mono ?_; rintro e w8 ⟨rfl, rfl⟩) | (refine (P1.told (Hid.out H6)).mono ?_; rintro e w8 ⟨rfl, rfl⟩)))
          go_roundw
          case rel => exact ⟨i + 1, c, t2, by go_num, by omega, H7.out⟩
          case measure => simp [intOf]; omega
    · obtain rfl : i = z.length := by omega
      go_wp2
      go_ret
      exact ⟨rfl, HN.out.bel⟩
end Go.Proofs.Ytmhopjpbhdficaa
