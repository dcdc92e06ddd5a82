/- Proved: the contract of the document's Spread. -/
import Derived.Test.YtpifkoblcbjiiaaSp1
import Derived.Test.YtpifkoblcbjiiaaRr0
namespace Go.Proofs.Ytpifkoblcbjiiaa
open Go.RowKit Go.Shelf
set_option linter.unusedVariables false

set_option maxRecDepth 100000 in
set_option maxHeartbeats 4000000 in
theorem rspread_any (w : World) (d : Wd) (f q n b : Int) (a : Option Addr) (cp : Nat) (os : List O) (h : Ww w d) (hs : RdO w a os) (hl : os.length ≤ 20) (hq0 : 0 ≤ q) (hq1 : q ≤ 1099511627776) :
    Calls Try.prog 17 #[wv d, .int .i64 f, .int .i64 q, .int .i64 n, .int .i64 b, .slice a os.length cp] w fun e w' => ∃ v, e = .returned v ∧ RowM w w' v (spr d f q n b os) := by
  obtain ⟨W0, hW0⟩ : ∃ W0, W0 = w.alloc (.cells (wcs d) 25) := ⟨_, rfl⟩
  have hb0 : Below w.heap.size w W0 := by rw [hW0]; exact (Below.refl _ w).alloc (Nat.le_refl _) _
  have HX : Hid (BoxW W0 w.heap.size d) := by rw [hW0]; exact BoxW.new h
  have HS : Hid (RdO W0 a os) := hs.below hb0
  obtain ⟨B, hB⟩ : ∃ B, w.heap.size = B := ⟨_, rfl⟩
  rw [hB] at HX
  have HBE : Hid _ := hB
  have HW0 : Hid _ := hW0
  have hfl := h.fl
  dsimp only [wcs] at HW0
  dsimp only [wv]
  clear h hW0 hs
  go_enter Try.func17, Try.ntmps17
  go_wp2_with fail
  rw [← HW0.out]
  clear hB
  go_loopw [14, 13] (fun s14 s13 wr => ∃ k : Nat, k ≤ os.length ∧ s14 = .int .i64 k ∧ Hid (RowM W0 wr s13 (sprF d f q n b os k))) (fun s14 _ _ => os.length - (intOf s14).toNat)
  case atStart => exact ⟨0, Nat.zero_le _, rfl, (by have e : W0.heap.size = B + 1 := (by rw [HW0.out, ← HBE.out]; simp); have := RowM.empty W0; rw [e] at this; exact this : RowM W0 _ _ [])⟩
  case round =>
    obtain ⟨k, hk, rfl, HW⟩ := hrel
    have hbw : Below W0.heap.size W0 wr := HW.out.2
    by_cases hkl : k < os.length
    · have hk' : (k : Int) < (os.length : Int) := by omega
      obtain ⟨o, ho⟩ : ∃ o, nthO os k = o := ⟨_, rfl⟩
      obtain ⟨ob, off, rfl, hbb, x0, x1, x2⟩ := (RdO.below HS.out hbw).cells hkl ho
      have HRE : Hid _ := ho
      obtain ⟨c, e, g⟩ := o
      dsimp only at x0 x1 x2
      have S := rsent_any wr f (q + (k : Int)) n b c e g
      dsimp only [sentV] at S
      obtain ⟨T, hT⟩ : ∃ T, vadd n e = T := ⟨_, rfl⟩
      obtain ⟨D, hD⟩ : ∃ D, (b + g) % 1000 = D := ⟨_, rfl⟩
      rw [hT, hD] at S
      have HXE : Hid (sentM f (q + (k : Int)) n b (c, e, g) = ⟨T, f, q + (k : Int), -1, c, D⟩) := by rw [← hT, ← hD]; rfl
      have hq : IntKind.i64.wrap (q + (k : Int)) = q + (k : Int) := by rw [IntKind.wrap_i64]; omega
      have hpl : (sprF d f q n b os k).length ≤ 400 := Nat.le_trans (sprF_len hfl f q n b os k) (by omega)
      have HSU : Hid (sprF d f q n b os (k + 1) = sprF d f q n b os k ++ (rts d f c).map (toM ⟨T, f, q + (k : Int), -1, c, D⟩)) := by
        show sprF d f q n b os (k + 1) = _
        rw [sprF_succ]
        unfold oneM
        rw [HRE.out, HXE.out]
      have hrl : (rts d f c).length ≤ 20 := Nat.le_trans (rtsF_len d f c _) hfl
      have HR := fun W (hW : Ww W d) => rroutes_any W d f c hW
      obtain ⟨L, hL⟩ : ∃ L, rts d f c = L := ⟨_, rfl⟩
      obtain ⟨P, hP⟩ : ∃ P, sprF d f q n b os k = P := ⟨_, rfl⟩
      simp only [hL, hP] at HSU hrl HR hpl HW
      have HHR : Hid _ := HR
      clear ho hT hD HR hL hP
      go_wp2_with fail
      refine S.mono ?_
      rintro e' w2 ⟨rfl, hb2⟩
      have hb2' := hb2
      have hb3 : Below w2.heap.size w2 (w2.alloc (.cells (mcs ⟨T, f, q + (k : Int), -1, c, D⟩) 48)) := (Below.refl _ _).alloc (Nat.le_refl _) _
      have hbw3 := hbw.trans ((hb2'.trans (hb3.mono hb2'.size)).mono hbw.size)
      have y := ((HX.out).below hbw3)
      have z0 := (BoxM.new w2 ⟨T, f, q + (k : Int), -1, c, D⟩).cells.2.2.2.2.1
      have RT := (HHR.out) _ y.ok
      obtain ⟨y0, y1, y2, _⟩ := y
      have HB3 : Hid _ := hb3
      have HB2 : Hid _ := hb2'
      dsimp only [wv, mcs] at RT y0 y1 y2 z0
      clear S hb2 hb3 hb2' x0 x1 x2
      go_wp2_with fail
      refine RT.mono ?_
      rintro e' w4 ⟨vt, rfl, hrt⟩
      obtain ⟨ta, tc, rfl, htp⟩ := Row.parts hrt
      have MK : Mk W0 w4 w2.heap.size u13 ⟨T, f, q + (k : Int), -1, c, D⟩ w4 u13 P := Mk.start HW.out HB2.out hrt.2 rfl
      have HTP : Hid (L ≠ [] → ∃ g, ta = some ⟨g, 0, none⟩ ∧ w2.heap.size < g ∧ u13.ownBlock ≠ some g ∧ g < w4.heap.size ∧ ∀ i, i < L.length → w4.cell? ⟨g, i, none⟩ = some (.int .i64 (nthI L i))) := fun hne => by
        obtain ⟨g, e1, e2, e3, e4⟩ := htp hne
        simp at e2
        refine ⟨g, e1, by omega, fun e => ?_, e3, e4⟩
        have := RowM.own_lt HW.out e
        have := (HB2.out).size
        omega
      obtain ⟨MB, hMB⟩ : ∃ MB, w2.heap.size = MB := ⟨_, rfl⟩
      rw [hMB] at MK HTP
      have HMK : Hid _ := MK
      have HMB : Hid _ := hMB
      clear RT hrt htp MK y0 y1 y2 z0
      go_wp2_with fail
      clear hMB hbw hbw3
      go_loopw [17, 13] (fun s17 s13 wr => ∃ j : Nat, j ≤ L.length ∧ s17 = .int .i64 j ∧ Hid (Mk W0 w4 MB u13 ⟨T, f, q + (k : Int), -1, c, D⟩ wr s13 (P ++ (L.take j).map (toM ⟨T, f, q + (k : Int), -1, c, D⟩)))) (fun s17 _ _ => L.length - (intOf s17).toNat)
      case atStart => exact ⟨0, Nat.zero_le _, rfl, (by simpa using HMK.out : Mk W0 w4 MB u13 _ w4 u13 (P ++ (L.take 0).map _))⟩
      case round =>
        obtain ⟨j, hj, rfl, HM⟩ := hrel
        by_cases hjl : j < L.length
        · have hj' : (j : Int) < (L.length : Int) := by omega
          obtain ⟨gb, rfl, h1, h2, h3, h4⟩ := HTP.out (by intro e; simp [e] at hjl)
          have t0 : wr.cell? ⟨gb, j, none⟩ = some (.int .i64 (nthI L j)) := ((Mk.fr HM.out).cell (p := ⟨gb, j, none⟩) h3 (by rintro (e | e); (dsimp only at e; omega); exact h2 e)).trans (h4 j hjl)
          obtain ⟨t, ht⟩ : ∃ t, nthI L j = t := ⟨_, rfl⟩
          rw [ht] at t0
          obtain ⟨t1, hbx⟩ := Mk.bx HM.out
          obtain ⟨_, _, _, _, _, _, mf⟩ := hbx.cells
          have mf3 := mf 3
          have hMBl := hbx.lt
          have m3 := hbx.cells.2.2.2.1
          obtain ⟨n0, n1, n2, n3, n4, n5, _⟩ := (BoxM.set hbx t).cells
          have hlen : (P ++ (L.take j).map (toM ⟨T, f, q + (k : Int), -1, c, D⟩)).length ≤ 100000 := by rw [List.length_append, List.length_map, List.length_take]; omega
          obtain ⟨a', c', w', hrun, hMk⟩ := Mk.step HM.out t hlen 34 (P ++ (L.take (j + 1)).map (toM ⟨T, f, q + (k : Int), -1, c, D⟩)) (by rw [List.append_assoc, ← ht, take_map_succ _ _ _ hjl])
          obtain ⟨X, hX⟩ : ∃ X, P ++ (L.take (j + 1)).map (toM ⟨T, f, q + (k : Int), -1, c, D⟩) = X := ⟨_, rfl⟩
          rw [hX] at hrun hMk
          have HRUN : Hid _ := hrun
          have HMK2 : Hid _ := hMk
          have HXX : Hid _ := hX
          dsimp only [mcs, toM] at HRUN n0 n1 n2 n3 n4 n5 m3
          clear h1 h2 h3 h4 ht mf hbx hrun hMk hX hlen
          go_wp2_with (at_builtin; refine wpList_append_run _ rfl _ _ 34 rfl rfl rfl HRUN.out ?_)
          go_roundw
          case rel =>
            refine ⟨j + 1, by omega, by go_num, ?_⟩
            show Mk _ _ _ _ _ _ _ (P ++ (L.take (j + 1)).map _)
            rw [HXX.out]
            exact HMK2.out
          case measure => simp [intOf]; omega
        · obtain rfl : j = L.length := by omega
          go_wp2_with fail
          go_roundw
          case rel =>
            refine ⟨k + 1, by omega, by go_num, ?_⟩
            show RowM _ _ _ (sprF d f q n b os (k + 1))
            rw [HSU.out]
            have := Mk.row HM.out
            rwa [List.take_of_length_le (Nat.le_refl _)] at this
          case measure => simp [intOf]; omega
    · obtain rfl : k = os.length := by omega
      go_wp2_with fail
      go_ret
      exact ⟨_, rfl, RowM.since HW.out hb0⟩
end Go.Proofs.Ytpifkoblcbjiiaa
