/- Proved: the contract of Starts. -/
import Derived.Test.YtpifkoblcbjiiaaSp1
namespace Go.Proofs.Ytpifkoblcbjiiaa
open Go.RowKit Go.Shelf
set_option linter.unusedVariables false

set_option maxRecDepth 100000 in
set_option maxHeartbeats 4000000 in
theorem starts_any (w : World) (d : Wd) (h : Ww w d) :
    Calls Try.prog 18 #[wv d] w fun e w' => ∃ v, e = .returned v ∧ RowM w w' v (sts d) := by
  obtain ⟨W0, hW0⟩ : ∃ W0, W0 = w.alloc (.cells (wcs d) 25) := ⟨_, rfl⟩
  have hb0 : Below w.heap.size w W0 := by rw [hW0]; exact (Below.refl _ w).alloc (Nat.le_refl _) _
  have HX : Hid (BoxW W0 w.heap.size d) := by rw [hW0]; exact BoxW.new h
  obtain ⟨B, hB⟩ : ∃ B, w.heap.size = B := ⟨_, rfl⟩
  rw [hB] at HX
  have HBE : Hid _ := hB
  have HW0 : Hid _ := hW0
  have hfl := h.fl
  have HLT : Hid _ := h.lt
  obtain ⟨fa, hfa⟩ : ∃ fa, d.fa = fa := ⟨_, rfl⟩
  have HFA : Hid _ := hfa
  have x1 := (HX.out).c1
  rw [hW0] at x1
  dsimp only [wcs] at HW0 x1
  dsimp only [wv]
  simp only [hfa] at HW0 x1 ⊢
  clear h hW0 hfa
  go_enter Try.func18, Try.ntmps18
  go_wp2_with fail
  rw [← HW0.out]
  clear hB x1
  go_loopw [9, 3] (fun s9 s3 wr => ∃ k : Nat, k ≤ d.fs.length ∧ s9 = .int .i64 k ∧ Hid (RowM W0 wr s3 (stsF d k))) (fun s9 _ _ => d.fs.length - (intOf s9).toNat)
  case atStart => exact ⟨0, Nat.zero_le _, rfl, (RowM.nil W0 : RowM W0 _ _ [])⟩
  case round =>
    obtain ⟨k, hk, rfl, HW⟩ := hrel
    have hbw : Below W0.heap.size W0 wr := HW.out.2
    by_cases hkl : k < d.fs.length
    · have hk' : (k : Int) < (d.fs.length : Int) := by omega
      obtain ⟨g, hg⟩ : ∃ g, nthF d.fs k = g := ⟨_, rfl⟩
      have BXr := (HX.out).below hbw
      have hRF := BXr.ok.f
      rw [HFA.out] at hRF
      obtain ⟨b, off, rfl, hbb, z0, z1, z2, z3, z4, z5, z6⟩ := hRF.cells hkl hg
      have hok := hRF.at hkl hg
      have hlt := HLT.out g (hg ▸ nthF_mem hkl)
      have hb1 : Below wr.heap.size wr (wr.alloc (.cells (fcs g) 42)) := (Below.refl _ wr).alloc (Nat.le_refl _) _
      have C := spread_any _ d (k : Int) 0 0 0 g.ia g.ic g.is (BXr.ok.below hb1) (hok.below hb1).i hlt.i (by omega) (by omega)
      have BX1 := BXr.below hb1
      obtain ⟨y0, y1, y2, _⟩ := BX1
      rw [HFA.out] at y1
      dsimp only [wv] at C
      rw [HFA.out] at C
      have hl2 : (spr d (k : Int) 0 0 0 g.is).length ≤ 400 := Nat.le_trans (sprF_len hfl _ _ _ _ _ _) (by have := hlt.i; omega)
      have hl1 : (stsF d k).length ≤ 8000 := Nat.le_trans (stsF_len hfl HLT.out k (by omega)) (by omega)
      have HSU : Hid (stsF d (k + 1) = stsF d k ++ spr d (k : Int) 0 0 0 g.is) := by
        show stsF d (k + 1) = _
        rw [stsF_succ, hg]
      obtain ⟨L, hL⟩ : ∃ L, spr d (k : Int) 0 0 0 g.is = L := ⟨_, rfl⟩
      obtain ⟨P, hP⟩ : ∃ P, stsF d k = P := ⟨_, rfl⟩
      rw [hL] at C hl2
      simp only [hL, hP] at HSU
      simp only [hP] at hl1 HW
      have HB1 : Hid _ := hb1
      dsimp only [fcs] at C y0 y1 y2
      clear hg hRF hok hlt BXr hb1 hL hP
      go_wp2_with fail
      refine C.mono ?_
      rintro e w2 ⟨v2, rfl, hr2⟩
      obtain ⟨a2, c2, rfl, hrd⟩ := hr2.rd
      have hb2 : Below wr.heap.size wr w2 := (HB1.out).trans (hr2.2.mono (HB1.out).size)
      have HW2 : Hid _ := RowM.below HW.out hb2
      have HRD : Hid _ := hrd
      clear C hr2 hrd y0 y1 y2
      go_wp2_with (at_builtin; refine wpList_append_M _ rfl _ _ rfl W0 _ _ _ P L rfl rfl (Hid.out HW2) (Hid.out HRD) (by omega) (by omega) (P ++ L) rfl ?_)
      intro a' c' w' hr
      have HR3 : Hid _ := hr
      clear hr
      go_wp2_with fail
      go_roundw
      case rel =>
        refine ⟨k + 1, by omega, by go_num, ?_⟩
        show RowM _ _ _ (stsF d (k + 1))
        rw [HSU.out]
        exact HR3.out
      case measure => simp [intOf]; omega
    · obtain rfl : k = d.fs.length := by omega
      go_wp2_with fail
      go_ret
      exact ⟨_, rfl, RowM.since HW.out hb0⟩
end Go.Proofs.Ytpifkoblcbjiiaa
