/- Proved: the walk of ClockAlone. -/
import Derived.Test.YtmhopjpbhdficaaStp
namespace Go.Proofs.Ytmhopjpbhdficaa
open Go.RowKit Go.Shelf
set_option linter.unusedVariables false

theorem alone_no (j : Int) : isCl 1 0 j = false := by rw [isCl_no]; omega
theorem alone_bnd (c : Int → Int) : bnd 1 0 c = 1125899906842624 := bnd_none alone_no
theorem alone_prm (c : Int → Int) {f l : Int} (h0 : 0 ≤ f) (h1 : f ≤ 65535) (h2 : 0 ≤ l) (h3 : l ≤ 255) : prm 1 0 c f l = f + l := by
  unfold prm vadd
  rw [alone_bnd]
  have e1 : lstI [f, 1125899906842624] = f := by
    have e2 : cnt f = f := cnt_mid h0 (by omega)
    have e3 : cnt 1125899906842624 = 1125899906842624 := cnt_big (by omega)
    simp [lstI, e2, e3]
    omega
  rw [e1, cnt_mid (t := f) h0 (by omega), cnt_mid (t := l) h2 (by omega), cnt_mid (by omega) (by omega)]
theorem alone_T (c : Int → Int) {t f l : Int} (h0 : 0 ≤ f) (h1 : f ≤ 65535) (h2 : 0 ≤ l) (h3 : l ≤ 255) : tlT 1 0 c t f l = max t (f + l) ∧ tlB 1 0 c t f l = decide (t < f + l) := by
  unfold tlT tlB
  rw [alone_prm c h0 h1 h2 h3]
  refine ⟨?_, rfl⟩
  split <;> omega

set_option maxRecDepth 100000 in
set_option maxHeartbeats 2000000 in
theorem alone_walk (w : World) (sa : Option Addr) (sc : Nat) (z : List Int) (p : Int) (hz : InN .u16 65535 w sa z) (hn : z.length ≤ maxLen) (hp : 0 ≤ p ∧ p ≤ 255) :
    Calls Try.prog 7 #[.slice sa z.length sc, .int .u8 p] w fun e w' => e = .returned (.bool true) ∧ Below w.heap.size w w' := by
  by_cases hlong : 200 < z.length
  · have hl' : (200 : Int) < (z.length : Int) := by omega
    unfold maxLen at hn
    clear hz
    go_enter Try.func7, Try.ntmps7
    go_wp2
    go_ret
    exact ⟨rfl, Below.refl _ _⟩
  have hz2 : z.length ≤ 200 := by omega
  have hl' : ¬ (200 : Int) < (z.length : Int) := by omega
  obtain ⟨hp0, hp2⟩ := hp
  obtain ⟨b, hb⟩ : ∃ b, w.heap.size + 1 = b := ⟨_, rfl⟩
  obtain ⟨mb, hmb⟩ : ∃ mb, w.heap.size = mb := ⟨_, rfl⟩
  have NW := P1.new w 1 0 (by omega) (by omega) (by omega)
  rw [hb] at NW
  rw [show P1 w = P1 w from rfl] at NW
  have NW2 : Calls Try.prog 8 #[.int .i64 1, .int .i64 0] w fun e w' => e = .returned (.tuple #[.pointer (some ⟨b, 0, none⟩), .int .i64 0]) ∧ P1 w w' 1 0 noC 0 b mb := by rw [← hmb]; exact NW
  have HZ : Hid _ := hz
  clear hz hn hlong NW hb hmb
  go_enter Try.func7, Try.ntmps7
  go_wp2_with (first | (go_at_call 8; refine NW2.mono ?_; rintro e w1 ⟨rfl, h1⟩; have H1 : Hid _ := h1; clear h1 NW2) | (go_at_call 16; refine (P1.bound (Hid.out H1)).mono ?_; rw [alone_bnd]; rintro e w2 ⟨rfl, h2⟩; have H2 : Hid _ := h2; clear h2))
  go_loopw [7, 8] (fun s7 s8 wr => ∃ (i : Nat) (m : Int), s8 = .int .i64 i ∧ i ≤ z.length ∧ s7 = .int .i64 m ∧ Hid (P1 w wr 1 0 noC m b mb)) (fun _ s8 _ => z.length - (intOf s8).toNat)
  case atStart => exact ⟨0, 0, rfl, Nat.zero_le _, rfl, H2.out⟩
  case round =>
    obtain ⟨i, m, rfl, hi, rfl, HN⟩ := hrel
    by_cases hlt : i < z.length
    · have hlt' : (i : Int) < (z.length : Int) := by omega
      obtain ⟨x0, x1, xb, off, rfl, hxb, hcs⟩ := InN.cell HZ.out hlt
      have cx := hcs _ HN.out.bel
      obtain ⟨x, hx⟩ : ∃ x, nthI z i = x := ⟨_, rfl⟩
      rw [hx] at x0 x1 cx
      have HCS : Hid _ := hcs
      obtain ⟨y, hy⟩ : ∃ y, max m (x + p) = y := ⟨_, rfl⟩
      obtain ⟨d, hd⟩ : ∃ d, decide (m < x + p) = d := ⟨_, rfl⟩
      have TL := HN.out.tell x p
      rw [(alone_T noC x0 x1 hp0 hp2).1, (alone_T noC x0 x1 hp0 hp2).2, hy, hd] at TL
      obtain ⟨s, hs⟩ : ∃ s, x + p = s := ⟨_, rfl⟩
      rw [hs] at hy hd
      have hgt : (m < s) = (m < s) := rfl
      clear hcs
      cases hd' : decide (m < s)
      · rw [hd'] at hd
        subst hd
        have hng : ¬ m < s := by simpa using hd'
        go_wp2_with (first | (go_at_call 12; refine TL.mono ?_; rintro e w3 ⟨rfl, h3⟩; have H3 : Hid _ := h3; have cx := (HCS.out _ H3.out.bel).trans (by rw [hx]); clear h3 TL) | (go_at_call 18; refine (P1.told (Hid.out H3)).mono ?_; rintro e w4 ⟨rfl, rfl⟩))
        go_roundw
        case rel => exact ⟨i + 1, y, by go_num, by omega, rfl, H3.out⟩
        case measure => simp [intOf]; omega
      · rw [hd'] at hd
        subst hd
        have hng : m < s := by simpa using hd'
        go_wp2_with (first | (go_at_call 12; refine TL.mono ?_; rintro e w3 ⟨rfl, h3⟩; have H3 : Hid _ := h3; have cx := (HCS.out _ H3.out.bel).trans (by rw [hx]); clear h3 TL) | (go_at_call 18; refine (P1.told (Hid.out H3)).mono ?_; rintro e w4 ⟨rfl, rfl⟩))
        go_roundw
        case rel => exact ⟨i + 1, y, by go_num, by omega, rfl, H3.out⟩
        case measure => simp [intOf]; omega
    · obtain rfl : i = z.length := by omega
      have HE := HN.out.hear 0 1 (by decide)
      have e : hrE 1 0 noC 0 1 = 1 := by decide
      rw [e] at HE
      go_wp2_with (go_at_call 10; refine HE.mono ?_; rintro e w3 ⟨rfl, h3⟩; have H3 : Hid _ := h3; clear h3 HE)
      go_ret
      exact ⟨rfl, H3.out.bel⟩
end Go.Proofs.Ytmhopjpbhdficaa
