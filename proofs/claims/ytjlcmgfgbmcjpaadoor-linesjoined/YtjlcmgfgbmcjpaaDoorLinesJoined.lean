/- Proved: texts of rows, one behind the other, are the text of all these rows (LinesJoined); the listed package-level variables start as the text of the program lays them (the card ties them). -/
import Derived.Test.YtjlcmgfgbmcjpaaDoorCards
import Derived.Test.YtjlcmgfgbmcjpaaDoorTie
import Derived.WalkKit
import Derived.ProofKit
import Derived.OpenShut
import Derived.ShutString
import Derived.ChangeOld
import Derived.Below
import Derived.Test.YtjlcmgfgbmcjpaaDoorTied
import Derived.Test.YtjlcmgfgbmcjpaaDoorSame
import Derived.Test.YtjlcmgfgbmcjpaaDoorHeavy
import Derived.Test.YtjlcmgfgbmcjpaaDoorBack
import Derived.Test.YtjlcmgfgbmcjpaaDoorJoin0
namespace Go.Proofs.YtjlcmgfgbmcjpaaDoor.linesJoined
open Go.ChangeShapes Go.WideShapes Go.ChangeAt Go.RowKit
open Go.ChangeMaps (open_string shut_string)
set_option linter.unusedVariables false

set_option maxRecDepth 100000 in
set_option maxHeartbeats 4000000 in
theorem walk (w : World) (hm : MaxAt w) (hg : ErrTypeAt w) (v0 : Value) (a0 : List (List ByteArray)) (w0 : IsRows w.heap.size w v0 a0) (f0 : v0 = .slice none 0 0 ∨ ∃ ad n c, v0 = .slice (some ad) n c) (v1 : Value) (a1 : List (List ByteArray)) (w1 : IsRows w.heap.size w v1 a1) (f1 : v1 = .slice none 0 0 ∨ ∃ ad n c, v1 = .slice (some ad) n c) :
    Calls Tryd.prog 5 #[v0, v1] w fun e w' => e = .returned (.bool true) ∧ Below w.heap.size w w' := by
  rcases hb0 : bare a0 with _ | _ <;> rcases hb1' : bare a1 with _ | _
  · have HT0 := hide (encText_full hb0)
    have HT1 := hide (encText_full hb1')
    have hE0 := fun (hl : rowsW a0 ≤ 2048) => encode_any v0 a0 w (by omega) w0
    have hE1 := fun (x : World) (hl : rowsW a1 ≤ 2048) (hv : IsRows x.heap.size x v1 a1) => encode_any v1 a1 x (by omega) hv
    have hR0 := fun (x : World) (hl : rowsW a0 ≤ 2048) (hv : IsRows x.heap.size x v0 a0) => refEncode_any v0 a0 x hl hv
    have hR1 := fun (x : World) (hl : rowsW a1 ≤ 2048) (hv : IsRows x.heap.size x v1 a1) => refEncode_any v1 a1 x hl hv
    rw [HT0.out.1, HT0.out.2] at hE0
    simp only [HT0.out.1, HT0.out.2] at hR0
    simp only [HT1.out.1, HT1.out.2] at hE1 hR1
    have HJ0 := text_joined a0 a1 hb0 hb1'
    have hts0 := text_size a0
    have hts1 := text_size a1
    obtain ⟨S0, hS0⟩ : ∃ S : ByteArray, S = ⟨(encRows (lettersR a0)).toArray⟩ := ⟨_, rfl⟩
    obtain ⟨S1, hS1⟩ : ∃ S : ByteArray, S = ⟨(encRows (lettersR a1)).toArray⟩ := ⟨_, rfl⟩
    rw [← hS0] at hE0 HJ0 hts0
    simp only [← hS0] at hR0
    rw [← hS1] at HJ0 hts1
    simp only [← hS1] at hE1 hR1
    obtain ⟨L, hL⟩ : ∃ L, L = a0 ++ a1 := ⟨_, rfl⟩
    rw [← hL] at HJ0
    have HJ := hide HJ0
    have HL := hide hL
    clear HJ0 hS0 hS1 hL
    clear hb0 hb1'
    obtain ⟨us, hus⟩ := vals_of w0 f0
    obtain ⟨vs, hvs⟩ := vals_of w1 f1
    have HU := hide hus
    have HV := hide hvs
    obtain ⟨i0, hi, hz0, hz1, hz2⟩ := info_parts info42
    clear f0 f1
    go_enter Tryd.func5, Tryd.ntmps5
    go_wp2_with fail
    refine (heavy_any v0 a0 _ w0).mono ?_
    rintro e wz ⟨b, rfl, hwz, hb⟩
    rw [hwz]
    clear hwz
    rcases b with _ | _
    case true =>
      go_wp2_with fail
      go_ret
      exact ⟨rfl, Below.refl _ _⟩
    have HH0 := hide (hb rfl)
    clear hb
    go_wp2_with fail
    refine (heavy_any v1 a1 _ w1).mono ?_
    rintro e wz2 ⟨b, rfl, hwz, hb⟩
    rw [hwz]
    clear hwz
    rcases b with _ | _
    case true =>
      go_wp2_with fail
      go_ret
      exact ⟨rfl, Below.refl _ _⟩
    have HH1 := hide (hb rfl)
    clear hb
    go_wp2_with fail
    refine (hE0 HH0.out).mono ?_
    rintro e x1 ⟨rfl, hb1⟩
    have HB1 := hide hb1
    clear hb1
    go_wp2_with fail
    refine (hE1 _ HH1.out ((w1.keep HB1.out).mono HB1.out.size)).mono ?_
    rintro e x2 ⟨rfl, hb2⟩
    have HB2 := hide (HB1.out.trans (hb2.mono HB1.out.size))
    clear hb2
    go_wp2_with fail
    refine (hR0 _ HH0.out ((w0.keep HB2.out).mono HB2.out.size)).mono ?_
    rintro e x3 ⟨rfl, hb3⟩
    have HB3 := hide (HB2.out.trans (hb3.mono HB2.out.size))
    clear hb3
    go_wp2_with fail
    refine (hR1 _ HH1.out ((w1.keep HB3.out).mono HB3.out.size)).mono ?_
    rintro e x4 ⟨rfl, hb4⟩
    have HB4 := hide (HB3.out.trans (hb4.mono HB3.out.size))
    clear hb4
    have hLW : rowsW L ≤ 4096 := by have := rowsW_append a0 a1; rw [← HL.out] at this; have := HH0.out; have := HH1.out; omega
    have h0l := length_le_rowsW a0
    have h1l := length_le_rowsW a1
    have hh0 := HH0.out
    have hh1 := HH1.out
    have hts0' : S0.size ≤ 6144 := by omega
    have hts1' : S1.size ≤ 6144 := by omega
    have HMK := hide (World.ownsRow_made (base := w.heap.size) (e := 42) (size := 1) x4 #[] 0 HB4.out.size (by unfold maxLen; omega) rfl)
    have HBm := hide (HB4.out.alloc HB4.out.size (.cells #[] 42))
    clear hE0 hE1 hR0 hR1
    rcases HU.out.2.2 with ⟨hv0, hra⟩ | ⟨ad, cap, hv0, hnu⟩
    · subst hv0
      have hu0 : us = [] := List.length_eq_zero_iff.1 (by rw [HU.out.1, hra]; rfl)
      go_wp2_with (at_builtin; refine wpList_append_own_none rfl _ _ 22 rfl w.heap.size 42 i0 1 Tryd.underlying22 hi _ _ _ rfl HMK.out rfl ?_; refine Hid.out ?_)
      refine hide ?_
      have HO1 := HMK
      have HB1c := HBm
      rcases HV.out.2.2 with ⟨hv1, hrb⟩ | ⟨ad2, cap2, hv1, hnv⟩
      · subst hv1
        go_wp2_with (at_builtin; refine wpList_append_own_none rfl _ _ 22 rfl w.heap.size 42 i0 1 Tryd.underlying22 hi _ _ _ rfl HO1.out rfl ?_; refine Hid.out ?_)
        refine hide ?_
        have HBf := HB1c
        have HOf : Hid ((x4.alloc (.cells #[] 42)).ownsRow w.heap.size 42 1 (.slice (some ⟨x4.heap.size, 0, none⟩) 0 0) (a0.length + a1.length) (us ++ vs)) := by subst hra hrb; have hv00 : vs = [] := List.length_eq_zero_iff.1 (by rw [HV.out.1]; rfl); subst hv00; subst hu0; exact HO1.out
        have HR0 := all_rows HU.out HV.out HBf.out HOf.out HBf.out.size
        rw [← HL.out] at HR0
        have HR := hide HR0
        clear HR0
        go_wp2_with fail
        refine (decode_rows _ L _ HJ.out (by rw [ByteArray.size_append]; omega) (hm.keep hm.lt HBf.out) (hg.keep hg.lt HBf.out)).mono ?_
        rintro e x5 ⟨da, dc, rfl, hb5, ho5⟩
        have HB5 := hide (HBf.out.trans (hb5.mono HBf.out.size))
        have HK5 := hide (HR.out.keep (hb5.mono (Nat.le_refl _)))
        have HO5 := hide ho5
        have HS5 := hide hb5.size
        clear hb5 ho5
        go_wp2_with fail
        refine (same_true _ _ L _ (by omega) HO5.out (HK5.out.mono HS5.out)).mono ?_
        rintro e x6 ⟨rfl, hb6⟩
        have HB6 := hide (HB5.out.trans (hb6.mono HB5.out.size))
        clear hb6
        go_wp2
        go_ret
        exact ⟨rfl, HB6.out⟩
      · subst hv1
        go_wp2_with (at_builtin; refine wpList_append_own _ rfl _ _ 22 rfl w.heap.size 42 i0 (.slice none 0 0) 1 24 Tryd.underlying22 hi hz0 hz1 hz2 rfl (by decide) _ _ _ rfl HO1.out ad2 a1.length cap2 vs rfl ?c1 ?c2 ?c3 ?c4 ?c5 ?c6 ?_)
        case c1 => rw [Nat.mul_one]; exact HV.out.1
        case c2 => exact fun j u hu => (HB1c.out.cell (p := ad2.add j) (by rw [block_add]; exact (hnv j u hu).2)).trans (hnv j u hu).1
        case c3 => exact vals_one HV.out
        case c4 => unfold maxLen; omega
        case c5 => omega
        case c6 => have := HB1c.out.size; omega
        intro y2 z2 ho2 hg2 hn2
        have HBf := hide (HB1c.out.grown hg2 (by have := HB1c.out.size; omega) (fun k hk => (HO1.out.lt k hk).1))
        have HOf : Hid (z2.ownsRow w.heap.size 42 1 y2 (a0.length + a1.length) (us ++ vs)) := by subst hra; subst hu0; (apply hide; simpa using ho2)
        clear ho2 hg2 hn2
        have HR0 := all_rows HU.out HV.out HBf.out HOf.out HBf.out.size
        rw [← HL.out] at HR0
        have HR := hide HR0
        clear HR0
        go_wp2_with fail
        refine (decode_rows _ L _ HJ.out (by rw [ByteArray.size_append]; omega) (hm.keep hm.lt HBf.out) (hg.keep hg.lt HBf.out)).mono ?_
        rintro e x5 ⟨da, dc, rfl, hb5, ho5⟩
        have HB5 := hide (HBf.out.trans (hb5.mono HBf.out.size))
        have HK5 := hide (HR.out.keep (hb5.mono (Nat.le_refl _)))
        have HO5 := hide ho5
        have HS5 := hide hb5.size
        clear hb5 ho5
        go_wp2_with fail
        refine (same_true _ _ L _ (by omega) HO5.out (HK5.out.mono HS5.out)).mono ?_
        rintro e x6 ⟨rfl, hb6⟩
        have HB6 := hide (HB5.out.trans (hb6.mono HB5.out.size))
        clear hb6
        go_wp2
        go_ret
        exact ⟨rfl, HB6.out⟩
    · subst hv0
      go_wp2_with (at_builtin; refine wpList_append_own _ rfl _ _ 22 rfl w.heap.size 42 i0 (.slice none 0 0) 1 24 Tryd.underlying22 hi hz0 hz1 hz2 rfl (by decide) _ _ _ rfl HMK.out ad a0.length cap us rfl ?c1 ?c2 ?c3 ?c4 ?c5 ?c6 ?_)
      case c1 => rw [Nat.mul_one]; exact HU.out.1
      case c2 => exact fun j u hu => (HBm.out.cell (p := ad.add j) (by rw [block_add]; exact (hnu j u hu).2)).trans (hnu j u hu).1
      case c3 => exact vals_one HU.out
      case c4 => unfold maxLen; omega
      case c5 => omega
      case c6 => have := HBm.out.size; omega
      intro y1 z1 ho1 hg1 hn1
      have HO1 := hide ho1
      have HB1c := hide (HBm.out.grown hg1 (by have := HBm.out.size; omega) (fun k hk => (HMK.out.lt k hk).1))
      clear ho1 hg1 hn1
      rcases HV.out.2.2 with ⟨hv1, hrb⟩ | ⟨ad2, cap2, hv1, hnv⟩
      · subst hv1
        go_wp2_with (at_builtin; refine wpList_append_own_none rfl _ _ 22 rfl w.heap.size 42 i0 1 Tryd.underlying22 hi _ _ _ rfl HO1.out rfl ?_; refine Hid.out ?_)
        refine hide ?_
        have HBf := HB1c
        have HOf : Hid (z1.ownsRow w.heap.size 42 1 y1 (a0.length + a1.length) (us ++ vs)) := by subst hrb; have hv00 : vs = [] := List.length_eq_zero_iff.1 (by rw [HV.out.1]; rfl); subst hv00; (apply hide; simpa using HO1.out)
        have HR0 := all_rows HU.out HV.out HBf.out HOf.out HBf.out.size
        rw [← HL.out] at HR0
        have HR := hide HR0
        clear HR0
        go_wp2_with fail
        refine (decode_rows _ L _ HJ.out (by rw [ByteArray.size_append]; omega) (hm.keep hm.lt HBf.out) (hg.keep hg.lt HBf.out)).mono ?_
        rintro e x5 ⟨da, dc, rfl, hb5, ho5⟩
        have HB5 := hide (HBf.out.trans (hb5.mono HBf.out.size))
        have HK5 := hide (HR.out.keep (hb5.mono (Nat.le_refl _)))
        have HO5 := hide ho5
        have HS5 := hide hb5.size
        clear hb5 ho5
        go_wp2_with fail
        refine (same_true _ _ L _ (by omega) HO5.out (HK5.out.mono HS5.out)).mono ?_
        rintro e x6 ⟨rfl, hb6⟩
        have HB6 := hide (HB5.out.trans (hb6.mono HB5.out.size))
        clear hb6
        go_wp2
        go_ret
        exact ⟨rfl, HB6.out⟩
      · subst hv1
        go_wp2_with (at_builtin; refine wpList_append_own _ rfl _ _ 22 rfl w.heap.size 42 i0 (.slice none 0 0) 1 24 Tryd.underlying22 hi hz0 hz1 hz2 rfl (by decide) _ _ _ rfl HO1.out ad2 a1.length cap2 vs rfl ?c1 ?c2 ?c3 ?c4 ?c5 ?c6 ?_)
        case c1 => rw [Nat.mul_one]; exact HV.out.1
        case c2 => exact fun j u hu => (HB1c.out.cell (p := ad2.add j) (by rw [block_add]; exact (hnv j u hu).2)).trans (hnv j u hu).1
        case c3 => exact vals_one HV.out
        case c4 => unfold maxLen; omega
        case c5 => omega
        case c6 => have := HB1c.out.size; omega
        intro y2 z2 ho2 hg2 hn2
        have HBf := hide (HB1c.out.grown hg2 (by have := HB1c.out.size; omega) (fun k hk => (HO1.out.lt k hk).1))
        have HOf : Hid (z2.ownsRow w.heap.size 42 1 y2 (a0.length + a1.length) (us ++ vs)) := by (apply hide; simpa using ho2)
        clear ho2 hg2 hn2
        have HR0 := all_rows HU.out HV.out HBf.out HOf.out HBf.out.size
        rw [← HL.out] at HR0
        have HR := hide HR0
        clear HR0
        go_wp2_with fail
        refine (decode_rows _ L _ HJ.out (by rw [ByteArray.size_append]; omega) (hm.keep hm.lt HBf.out) (hg.keep hg.lt HBf.out)).mono ?_
        rintro e x5 ⟨da, dc, rfl, hb5, ho5⟩
        have HB5 := hide (HBf.out.trans (hb5.mono HBf.out.size))
        have HK5 := hide (HR.out.keep (hb5.mono (Nat.le_refl _)))
        have HO5 := hide ho5
        have HS5 := hide hb5.size
        clear hb5 ho5
        go_wp2_with fail
        refine (same_true _ _ L _ (by omega) HO5.out (HK5.out.mono HS5.out)).mono ?_
        rintro e x6 ⟨rfl, hb6⟩
        have HB6 := hide (HB5.out.trans (hb6.mono HB5.out.size))
        clear hb6
        go_wp2
        go_ret
        exact ⟨rfl, HB6.out⟩
  · have HT0 := hide (encText_full hb0)
    have HT1 := hide (encText_bare hb1')
    have hE0 := fun (hl : rowsW a0 ≤ 2048) => encode_any v0 a0 w (by omega) w0
    have hE1 := fun (x : World) (hl : rowsW a1 ≤ 2048) (hv : IsRows x.heap.size x v1 a1) => encode_any v1 a1 x (by omega) hv
    have hR0 := fun (x : World) (hl : rowsW a0 ≤ 2048) (hv : IsRows x.heap.size x v0 a0) => refEncode_any v0 a0 x hl hv
    have hR1 := fun (x : World) (hl : rowsW a1 ≤ 2048) (hv : IsRows x.heap.size x v1 a1) => refEncode_any v1 a1 x hl hv
    rw [HT0.out.1, HT0.out.2] at hE0
    simp only [HT0.out.1, HT0.out.2] at hR0
    simp only [HT1.out.1, HT1.out.2] at hE1 hR1
    clear hb0 hb1'
    go_enter Tryd.func5, Tryd.ntmps5
    go_wp2_with fail
    refine (heavy_any v0 a0 _ w0).mono ?_
    rintro e wz ⟨b, rfl, hwz, hb⟩
    rw [hwz]
    clear hwz
    rcases b with _ | _
    case true =>
      go_wp2_with fail
      go_ret
      exact ⟨rfl, Below.refl _ _⟩
    have HH0 := hide (hb rfl)
    clear hb
    go_wp2_with fail
    refine (heavy_any v1 a1 _ w1).mono ?_
    rintro e wz2 ⟨b, rfl, hwz, hb⟩
    rw [hwz]
    clear hwz
    rcases b with _ | _
    case true =>
      go_wp2_with fail
      go_ret
      exact ⟨rfl, Below.refl _ _⟩
    have HH1 := hide (hb rfl)
    clear hb
    go_wp2_with fail
    refine (hE0 HH0.out).mono ?_
    rintro e x1 ⟨rfl, hb1⟩
    have HB1 := hide hb1
    clear hb1
    go_wp2_with fail
    refine (hE1 _ HH1.out ((w1.keep HB1.out).mono HB1.out.size)).mono ?_
    rintro e x2 ⟨rfl, hb2⟩
    have HB2 := hide (HB1.out.trans (hb2.mono HB1.out.size))
    clear hb2
    go_wp2_with fail
    refine (hR0 _ HH0.out ((w0.keep HB2.out).mono HB2.out.size)).mono ?_
    rintro e x3 ⟨rfl, hb3⟩
    have HB3 := hide (HB2.out.trans (hb3.mono HB2.out.size))
    clear hb3
    go_wp2_with fail
    refine (hR1 _ HH1.out ((w1.keep HB3.out).mono HB3.out.size)).mono ?_
    rintro e x4 ⟨rfl, hb4⟩
    have HB4 := hide (HB3.out.trans (hb4.mono HB3.out.size))
    clear hb4
    go_wp2
    all_goals go_ret
    all_goals exact ⟨rfl, HB4.out⟩
  · have HT0 := hide (encText_bare hb0)
    have HT1 := hide (encText_full hb1')
    have hE0 := fun (hl : rowsW a0 ≤ 2048) => encode_any v0 a0 w (by omega) w0
    have hE1 := fun (x : World) (hl : rowsW a1 ≤ 2048) (hv : IsRows x.heap.size x v1 a1) => encode_any v1 a1 x (by omega) hv
    have hR0 := fun (x : World) (hl : rowsW a0 ≤ 2048) (hv : IsRows x.heap.size x v0 a0) => refEncode_any v0 a0 x hl hv
    have hR1 := fun (x : World) (hl : rowsW a1 ≤ 2048) (hv : IsRows x.heap.size x v1 a1) => refEncode_any v1 a1 x hl hv
    rw [HT0.out.1, HT0.out.2] at hE0
    simp only [HT0.out.1, HT0.out.2] at hR0
    simp only [HT1.out.1, HT1.out.2] at hE1 hR1
    clear hb0 hb1'
    go_enter Tryd.func5, Tryd.ntmps5
    go_wp2_with fail
    refine (heavy_any v0 a0 _ w0).mono ?_
    rintro e wz ⟨b, rfl, hwz, hb⟩
    rw [hwz]
    clear hwz
    rcases b with _ | _
    case true =>
      go_wp2_with fail
      go_ret
      exact ⟨rfl, Below.refl _ _⟩
    have HH0 := hide (hb rfl)
    clear hb
    go_wp2_with fail
    refine (heavy_any v1 a1 _ w1).mono ?_
    rintro e wz2 ⟨b, rfl, hwz, hb⟩
    rw [hwz]
    clear hwz
    rcases b with _ | _
    case true =>
      go_wp2_with fail
      go_ret
      exact ⟨rfl, Below.refl _ _⟩
    have HH1 := hide (hb rfl)
    clear hb
    go_wp2_with fail
    refine (hE0 HH0.out).mono ?_
    rintro e x1 ⟨rfl, hb1⟩
    have HB1 := hide hb1
    clear hb1
    go_wp2_with fail
    refine (hE1 _ HH1.out ((w1.keep HB1.out).mono HB1.out.size)).mono ?_
    rintro e x2 ⟨rfl, hb2⟩
    have HB2 := hide (HB1.out.trans (hb2.mono HB1.out.size))
    clear hb2
    go_wp2_with fail
    refine (hR0 _ HH0.out ((w0.keep HB2.out).mono HB2.out.size)).mono ?_
    rintro e x3 ⟨rfl, hb3⟩
    have HB3 := hide (HB2.out.trans (hb3.mono HB2.out.size))
    clear hb3
    go_wp2_with fail
    refine (hR1 _ HH1.out ((w1.keep HB3.out).mono HB3.out.size)).mono ?_
    rintro e x4 ⟨rfl, hb4⟩
    have HB4 := hide (HB3.out.trans (hb4.mono HB3.out.size))
    clear hb4
    go_wp2
    all_goals go_ret
    all_goals exact ⟨rfl, HB4.out⟩
  · have HT0 := hide (encText_bare hb0)
    have HT1 := hide (encText_bare hb1')
    have hE0 := fun (hl : rowsW a0 ≤ 2048) => encode_any v0 a0 w (by omega) w0
    have hE1 := fun (x : World) (hl : rowsW a1 ≤ 2048) (hv : IsRows x.heap.size x v1 a1) => encode_any v1 a1 x (by omega) hv
    have hR0 := fun (x : World) (hl : rowsW a0 ≤ 2048) (hv : IsRows x.heap.size x v0 a0) => refEncode_any v0 a0 x hl hv
    have hR1 := fun (x : World) (hl : rowsW a1 ≤ 2048) (hv : IsRows x.heap.size x v1 a1) => refEncode_any v1 a1 x hl hv
    rw [HT0.out.1, HT0.out.2] at hE0
    simp only [HT0.out.1, HT0.out.2] at hR0
    simp only [HT1.out.1, HT1.out.2] at hE1 hR1
    clear hb0 hb1'
    go_enter Tryd.func5, Tryd.ntmps5
    go_wp2_with fail
    refine (heavy_any v0 a0 _ w0).mono ?_
    rintro e wz ⟨b, rfl, hwz, hb⟩
    rw [hwz]
    clear hwz
    rcases b with _ | _
    case true =>
      go_wp2_with fail
      go_ret
      exact ⟨rfl, Below.refl _ _⟩
    have HH0 := hide (hb rfl)
    clear hb
    go_wp2_with fail
    refine (heavy_any v1 a1 _ w1).mono ?_
    rintro e wz2 ⟨b, rfl, hwz, hb⟩
    rw [hwz]
    clear hwz
    rcases b with _ | _
    case true =>
      go_wp2_with fail
      go_ret
      exact ⟨rfl, Below.refl _ _⟩
    have HH1 := hide (hb rfl)
    clear hb
    go_wp2_with fail
    refine (hE0 HH0.out).mono ?_
    rintro e x1 ⟨rfl, hb1⟩
    have HB1 := hide hb1
    clear hb1
    go_wp2_with fail
    refine (hE1 _ HH1.out ((w1.keep HB1.out).mono HB1.out.size)).mono ?_
    rintro e x2 ⟨rfl, hb2⟩
    have HB2 := hide (HB1.out.trans (hb2.mono HB1.out.size))
    clear hb2
    go_wp2_with fail
    refine (hR0 _ HH0.out ((w0.keep HB2.out).mono HB2.out.size)).mono ?_
    rintro e x3 ⟨rfl, hb3⟩
    have HB3 := hide (HB2.out.trans (hb3.mono HB2.out.size))
    clear hb3
    go_wp2_with fail
    refine (hR1 _ HH1.out ((w1.keep HB3.out).mono HB3.out.size)).mono ?_
    rintro e x4 ⟨rfl, hb4⟩
    have HB4 := hide (HB3.out.trans (hb4.mono HB3.out.size))
    clear hb4
    go_wp2
    all_goals go_ret
    all_goals exact ⟨rfl, HB4.out⟩

theorem reads (os : Os) {H : Type} (enc : TypeId × Value → H) : ∃ places, DataW.whole enc Tryd.prog ((errLaid (World.laidAll Tryd.prog os (laid3.filter fun x => x.2.handleName?.isNone))).forCall (fun _ _ => 0) ⟨#[], #[.slice none 0 0, .slice none 0 0], []⟩).memory Tryd.f5.params.toList Rows.linesJoinedSpec.vars false #[(.slice none 0 0 : Value), (.slice none 0 0 : Value)].toList 8 = some ([.nil, .nil], [], places) :=
  ⟨[], by kernel_rfl⟩

set_option maxRecDepth 100000 in
theorem lifted (os : Os) (started : os.Started) (H : Type) (enc : TypeId × Value → H) (F : Stop.Interp) :
    ReturnsInHanded {} Tryd.checked os 5 .any ((OpenSpec.ofChange Rows.linesJoinedSpec).preRow enc Tryd.prog Tryd.f5 Rows.linesJoinedRow.domain false Rows.linesJoinedRow.laid) (((OpenSpec.ofChange Rows.linesJoinedSpec).at F).post enc Tryd.prog Tryd.f5 false true false false) := by
  obtain ⟨places, hx⟩ := reads os enc
  refine returnsInHanded_of_row (C := Tryd.checked) (s := OpenSpec.ofChange Rows.linesJoinedSpec) own started (by kernel_rfl) Tryd.func5
    (witness_row_at (enc := enc) (C := Tryd.checked) false (errLaid (World.laidAll Tryd.prog os (laid3.filter fun x => x.2.handleName?.isNone))) #[.slice none 0 0, .slice none 0 0] rfl (by kernel_rfl) (by kernel_rfl) (by kernel_rfl)
      (OpenSpec.preRow_of_cond 8 hx (by kernel_rfl) (fun k hk => by cases hk) (by kernel_rfl) (laidWorld_met os _))) ?_
  intro W base args ds gs before hval0 hW _ _ _ hL hsh _
  have hval : ∀ (j : Nat) t v, Tryd.f5.params[j]? = some t → args[j]? = some v → Value.okWide Tryd.prog W .any base t v := hval0
  have hW' := hW
  obtain ⟨p, q, hA0, hV, rfl, hfz, hnd⟩ := hW
  have hA : DataW.TrodAll enc Tryd.prog W 0 (fun _ => true) true Tryd.f5.params.toList args.toList ds p := hA0
  rw [Tryd.params5] at hA hval
  obtain ⟨v0, vs0, d0, ds0, p0, q0, hargs, rfl, rfl, h0, r0⟩ := trodAll_cons hA
  obtain ⟨v1, vs1, d1, ds1, p1, q1, rfl, rfl, rfl, h1, r1⟩ := trodAll_cons r0
  obtain ⟨rfl, rfl, rfl⟩ := trodAll_nil r1
  obtain rfl : args = #[v0, v1] := by cases args; simp_all
  obtain ⟨rfl, rfl⟩ := trodVars_none hV
  have k0 := h0
  have lt0 : ∀ x ∈ p0, x.block < W.heap.size := by obtain ⟨m, hm⟩ := k0; exact DataW.trod_lt m _ _ _ hm
  have k1 := h1
  have lt1 : ∀ x ∈ p1, x.block < W.heap.size := by obtain ⟨m, hm⟩ := k1; exact DataW.trod_lt m _ _ _ hm
  obtain ⟨sa0, sl0, sc0, rfl⟩ := okWide_slice Tryd.underlying22 (hval 0 22 v0 rfl rfl)
  obtain ⟨a0, w0, f0⟩ : ∃ rs, IsRows W.heap.size W (.slice sa0 sl0 sc0) rs ∧ ((Value.slice sa0 sl0 sc0) = .slice none 0 0 ∨ ∃ ad n c, (Value.slice sa0 sl0 sc0) = .slice (some ad) n c) := by
    obtain ⟨fuel, hf⟩ := h0
    obtain ⟨rs, hr⟩ := open_rows hf
    exact ⟨rs, hr, open_form hf⟩
  obtain ⟨sa1, sl1, sc1, rfl⟩ := okWide_slice Tryd.underlying22 (hval 1 22 v1 rfl rfl)
  obtain ⟨a1, w1, f1⟩ : ∃ rs, IsRows W.heap.size W (.slice sa1 sl1 sc1) rs ∧ ((Value.slice sa1 sl1 sc1) = .slice none 0 0 ∨ ∃ ad n c, (Value.slice sa1 sl1 sc1) = .slice (some ad) n c) := by
    obtain ⟨fuel, hf⟩ := h1
    obtain ⟨rs, hr⟩ := open_rows hf
    exact ⟨rs, hr, open_form hf⟩
  clear hA0 hval0
  refine (walk W (max_of hsh) (errType_of hL) _ a0 w0 f0 _ a1 w1 f1).mono fun e W' ⟨he, bel⟩ => ?_
  subst he
  exact ⟨_, rfl, _, _, _, [], _, [], hW', trodAll_mk1 (shut_bool Tryd.underlying4 _), (trodAll_cons_mk (Below.trod laidOut (by kernel_rfl) (of_decide_eq_true (by kernel_rfl)) k0 bel lt0) (trodAll_cons_mk (Below.trod laidOut (by kernel_rfl) (of_decide_eq_true (by kernel_rfl)) k1 bel lt1) trodAll_mk0)), rfl, bel.frame _, fun h => by cases h⟩

theorem said : Rows.LinesJoinedSaid :=
  OpenClaim.holds_of_cond 5 Tryd.f5 rfl rfl rfl rfl rfl rfl rfl ⟨rfl, rfl, rfl, rfl, rfl⟩ rfl rfl rfl rfl rfl (by kernel_rfl) Tryd.func5 (by kernel_rfl)
    (of_decide_eq_true (by kernel_rfl)) (by unfold Func.isWrapper; first | (rw [if_pos (by decide +kernel)]; kernel_rfl) | (rw [if_neg (by decide +kernel)]; exact ⟨rfl, rfl⟩))
    (fun os started H enc _ F => by rw [OpenClaim.pre_eq_preRow]; exact lifted os started H enc F)

theorem plain (f : FuncId) (fn : Func) (hf : Tryd.pinned.checked.prog.funcNamed "paceline/pacelinelaw02.LinesJoined" = some f) (hfn : Tryd.pinned.checked.prog.funcs[f]? = some fn) :
    true = Tryd.pinned.checked.prog.looks [] ∧ ∀ (j : Nat) t, fn.params[j]? = some t → Tryd.pinned.checked.prog.wantsStandIn t = false := by
  obtain rfl : f = 5 := Option.some.inj ((show Tryd.prog.funcNamed "paceline/pacelinelaw02.LinesJoined" = some 5 by kernel_rfl).symm.trans hf) |>.symm
  obtain rfl : fn = Tryd.f5 := (Option.some.inj (Tryd.func5.symm.trans hfn)).symm
  refine ⟨by kernel_rfl, fun j t ht => ?_⟩
  rw [Tryd.params5] at ht
  have hm : t ∈ [22] := by
    have := Array.mem_of_getElem? ht
    simp at this ⊢
    first | omega | (rcases this with h | h <;> simp [h]) | (rcases this with h | h | h <;> simp [h])
  have hall : ([22].all fun u => !Tryd.prog.wantsStandIn u) = true := by kernel_rfl
  exact (show Tryd.prog.wantsStandIn t = false by simpa using List.all_eq_true.1 hall t hm)
end Go.Proofs.YtjlcmgfgbmcjpaaDoor.linesJoined
namespace Go.Proofs.YtjlcmgfgbmcjpaaDoor
theorem linesJoined_holds : Rows.LinesJoinedCardSaid :=
  Claim7.holds_tied_plain_at .later [] _ _ _ _ linesJoined.said (fun _ h => by cases h) (by kernel_rfl) (fun _ h => by cases h) linesJoined_row_tie rfl ⟨rfl, rfl⟩ (by kernel_rfl) rfl linesJoined.plain (by kernel_rfl)
#print axioms linesJoined_holds
end Go.Proofs.YtjlcmgfgbmcjpaaDoor
