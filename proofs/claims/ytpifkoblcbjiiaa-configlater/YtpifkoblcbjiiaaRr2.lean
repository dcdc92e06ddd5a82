/- Proved: the contract of the document's Starts. -/
import Derived.Test.YtpifkoblcbjiiaaSp2
import Derived.Test.YtpifkoblcbjiiaaRr1
namespace Go.Proofs.Ytpifkoblcbjiiaa
open Go.RowKit Go.Shelf
set_option linter.unusedVariables false

set_option maxRecDepth 100000 in
set_option maxHeartbeats 4000000 in
theorem rstarts_any (w : World) (d : Wd) (h : Ww w d) :
    Calls Try.prog 19 #[wv d] w fun e w' => ∃ v, e = .returned v ∧ RowM w w' v (sts d) := by
  have mixed : Try.prog.follows .mixedOrders = true := by kernel_rfl
  obtain ⟨W0, hW0⟩ : ∃ W0, W0 = w.alloc (.cells (wcs d) 25) := ⟨_, rfl⟩
  have hb0 : Below w.heap.size w W0 := by rw [hW0]; exact (Below.refl _ w).alloc (Nat.le_refl _) _
  have HX : Hid (BoxW W0 w.heap.size d) := by rw [hW0]; exact BoxW.new h
  obtain ⟨B, hB⟩ : ∃ B, w.heap.size = B := ⟨_, rfl⟩
  rw [hB] at HX
  have HBE : Hid _ := hB
  have HW0 : Hid _ := hW0
  have hfl := h.fl
  have HLT : Hid _ := h.lt
  obtain ⟨fa, hfa⟩ : ∃ fa, d.fa = fa := ⟨_, rfl⟩
  have HFA : Hid _ := hfa
  have x1 := (HX.out).c1
  rw [hW0] at x1
  dsimp only [wcs] at HW0 x1
  dsimp only [wv]
  simp only [hfa] at HW0 x1 ⊢
  clear h hW0 hfa
  go_enter Try.func19, Try.ntmps19
  go_wp2_with fail
  rw [← HW0.out]
  clear hB x1
  go_loopw [4, 3] (fun s4 s3 wr => ∃ k : Nat, k ≤ d.fs.length ∧ s4 = .int .i64 k ∧ Hid (RowM W0 wr s3 (stsF d k))) (fun s4 _ _ => d.fs.length - (intOf s4).toNat)
  case atStart => exact ⟨0, Nat.zero_le _, rfl, (by have e : W0.heap.size = B + 1 := (by rw [HW0.out, ← HBE.out]; simp); have := RowM.empty W0; rw [e] at this; exact this : RowM W0 _ _ [])⟩
  case round =>
    obtain ⟨k, hk, rfl, HW⟩ := hrel
    have hbw : Below W0.heap.size W0 wr := HW.out.2
    have BXr := (HX.out).below hbw
    obtain ⟨y0, y1, y2, hWw⟩ := BXr
    rw [HFA.out] at y1
    have lBr := clt y0
    dsimp only at lBr
    by_cases hkl : k < d.fs.length
    · have hk' : (k : Int) < (d.fs.length : Int) := by omega
      obtain ⟨g, hg⟩ : ∃ g, nthF d.fs k = g := ⟨_, rfl⟩
      have hRF := hWw.f
      rw [HFA.out] at hRF
      obtain ⟨b, off, rfl, hbb, _, _, _, _, _, _, z6⟩ := hRF.cells hkl hg
      have hok := hRF.at hkl hg
      have hlt := HLT.out g (hg ▸ nthF_mem hkl)
      have hbd : Below wr.heap.size wr wr.drew := (Below.refl _ wr).drew
      have C := rspread_any wr.drew d (k : Int) 0 0 0 g.ia g.ic g.is (hWw.below hbd) (hok.below hbd).i hlt.i (by omega) (by omega)
      dsimp only [wv] at C
      rw [HFA.out] at C
      have hl2 : (spr d (k : Int) 0 0 0 g.is).length ≤ 400 := Nat.le_trans (sprF_len hfl _ _ _ _ _ _) (by have := hlt.i; omega)
      have hl1 : (stsF d k).length ≤ 8000 := Nat.le_trans (stsF_len hfl HLT.out k (by omega)) (by omega)
      have HSU : Hid (stsF d (k + 1) = stsF d k ++ spr d (k : Int) 0 0 0 g.is) := by
        show stsF d (k + 1) = _
        rw [stsF_succ, hg]
      obtain ⟨L, hL⟩ : ∃ L, spr d (k : Int) 0 0 0 g.is = L := ⟨_, rfl⟩
      obtain ⟨P, hP⟩ : ∃ P, stsF d k = P := ⟨_, rfl⟩
      rw [hL] at C hl2
      simp only [hL, hP] at HSU
      simp only [hP] at hl1 HW
      have HZ : Hid (∀ W, Below W0.heap.size W0 W → W.cell? ⟨B, 0, none⟩ = some (.slice d.pa d.ps.length d.pc) ∧ W.cell? ⟨B, 1, none⟩ = some (.slice (some ⟨b, off, none⟩) d.fs.length d.fc) ∧ W.cell? ⟨B, 2, none⟩ = some (.int .i64 d.en) ∧ W.cell? ⟨b, off + k * 7 + 6, none⟩ = some (.slice g.ia g.is.length g.ic)) := fun W hW => by
        obtain ⟨v0, v1, v2, hv⟩ := (HX.out).below hW
        rw [HFA.out] at v1
        have hv2 := hv.f
        rw [HFA.out] at hv2
        obtain ⟨b', off', e, _, _, _, _, _, _, _, v6⟩ := hv2.cells hkl hg
        simp at e
        obtain ⟨rfl, rfl⟩ := e
        exact ⟨v0, v1, v2, v6⟩
      have HRN : Hid (∀ w2 v2, RowM wr.drew w2 v2 L → ∃ a2 c2 a' c' w', v2 = .slice a2 L.length c2 ∧ (Builtin.append_ #[34, 34] 34 #[u3, .slice a2 L.length c2]).run Try.prog w2 = .ok (.slice a' (P ++ L).length c') w' ∧ RowM W0 w' (.slice a' (P ++ L).length c') (P ++ L)) := fun w2 v2 hr2 => by
        obtain ⟨a2, c2, rfl, hrd⟩ := RowM.rd hr2
        have hb2 : Below wr.heap.size wr w2 := hbd.trans hr2.2
        obtain ⟨a', c', w', hrun, hro⟩ := append_M (c := c2) (RowM.below HW.out hb2) hrd (by omega) (by omega) 34 (P ++ L) rfl
        exact ⟨a2, c2, a', c', w', rfl, hrun, hro⟩
      obtain ⟨X, hX⟩ : ∃ X, P ++ L = X := ⟨_, rfl⟩
      simp only [hX] at HRN HSU
      clear hg hRF hok hlt hL hP hWw hX
      go_wp2_with fail
      go_region_held3 (fun w' => w'.cell? ⟨B, 0, none⟩ = some (.slice d.pa d.ps.length d.pc) ∧ w'.cell? ⟨B, 1, none⟩ = some (.slice (some ⟨b, off, none⟩) d.fs.length d.fc) ∧ w'.cell? ⟨B, 2, none⟩ = some (.int .i64 d.en) ∧ w'.cell? ⟨b, off + k * 7 + 6, none⟩ = some (.slice g.ia g.is.length g.ic)) (go_keep) (first | (go_at_call 17; refine C.mono ?_; rintro e w2 ⟨v2, rfl, hr2⟩; obtain ⟨a2, c2, a', c', w', rfl, hrun, hro⟩ := HRN.out w2 v2 hr2; have HRUN : Hid _ := hrun; have HRO : Hid _ := hro; obtain ⟨g0, g1, g2, g3⟩ := HZ.out w2 (hbw.trans (hbd.mono hbw.size |>.trans (hr2.2.mono hbw.size))); obtain ⟨g4, g5, g6, g7⟩ := HZ.out w' hro.2; clear hr2 hrun hro) | (refine step_append_run rfl (.tmp 13) (.tmp 22) 34 rfl (by simp [Act.eval]) (by simp [Act.eval]) HRUN.out ?_))
      all_goals go_wp2
      all_goals go_roundw
      case rel =>
        refine ⟨k + 1, by omega, by go_num, ?_⟩
        show RowM _ _ _ (stsF d (k + 1))
        rw [HSU.out]
        exact HRO.out
      case measure => simp [intOf]; omega
    · obtain rfl : k = d.fs.length := by omega
      go_wp2_with fail
      go_ret
      exact ⟨_, rfl, RowM.since HW.out hb0⟩
end Go.Proofs.Ytpifkoblcbjiiaa
