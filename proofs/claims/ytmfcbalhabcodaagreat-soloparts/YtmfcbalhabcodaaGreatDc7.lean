/- Proved: the contract of the document's New where the federation may be; of its State. -/
import Derived.Test.YtmfcbalhabcodaaGreatDc5
import Derived.Test.YtmfcbalhabcodaaGreatDc6
namespace Go.Proofs.YtmfcbalhabcodaaGreat
open Go.RowKit Go.Shelf
set_option linter.unusedVariables false

set_option maxRecDepth 100000 in
set_option maxHeartbeats 1000000 in
theorem dstate_any {w : World} {db : Nat} {D : Wd} {r : Rn} {F : Nat → Prop} (h : DocF db D r w F) (i : Nat) (hi : i < D.fs.length) :
    Calls Tryz.prog 20 #[.pointer (some ⟨db, 0, none⟩), .int .i64 i] w fun e w' => e = .returned (.int .i64 (nthI r.st i)) ∧ Below w.heap.size w w' := by
  have mixed : Tryz.prog.follows .mixedOrders = true := by kernel_rfl
  obtain ⟨sv, qv, tv, uv, hL, hI, _⟩ := h
  have hls := hI.ls
  obtain ⟨sg, sc, hsv⟩ := own_some' hL.s (by omega)
  subst hsv
  obtain ⟨_, _, _, x3, _⟩ := hL.cells
  obtain ⟨c0, _⟩ := own_int hL.s rfl (by omega : i < r.st.length)
  have h1 : ¬ ((i : Int) < 0) := by omega
  have h2 : ¬ ((i : Int) ≥ (r.st.length : Int)) := by omega
  have h3 : (i : Int) < (r.st.length : Int) := by omega
  have ldb : db < w.heap.size := clt x3
  have lsg : sg < w.heap.size := clt c0
  clear hL hI
  go_enter Tryz.func20, Tryz.ntmps20
  go_wp2_with fail
  go_ret
  exact ⟨rfl, Below.refl _ _⟩

set_option maxRecDepth 100000 in
set_option maxHeartbeats 4000000 in
theorem dnew_ok {w : World} {D : Wd} (h : Ww w D) {N : Int} (hE : wldE D = (N, 0)) :
    Calls Tryz.prog 11 #[wv D] w fun e w' => ∃ db F, e = .returned (.tuple #[.pointer (some ⟨db, 0, none⟩), .int .i64 0]) ∧ DocF db D (newR D) w' F ∧ (∀ k, F k → w.heap.size ≤ k) ∧ Below w.heap.size w w' := by
  have mixed : Tryz.prog.follows .mixedOrders = true := by kernel_rfl
  have hok := okD_of hE
  obtain ⟨fa, hfa⟩ : ∃ fa, D.fa = fa := ⟨_, rfl⟩
  obtain ⟨W0, hW0⟩ : ∃ W0, W0 = w.alloc (.cells (wcs D) 25) := ⟨_, rfl⟩
  have hb0 : Below w.heap.size w W0 := by rw [hW0]; exact al _ _
  have hWw := h.below hb0
  have hBX := BoxW.new h
  rw [← hW0] at hBX
  obtain ⟨B, hB⟩ : ∃ B, w.heap.size = B := ⟨_, rfl⟩
  rw [hB] at hBX
  have HX : Hid (∀ W, Below W0.heap.size W0 W → W.cell? ⟨B, 0, none⟩ = some (.slice D.pa D.ps.length D.pc) ∧ W.cell? ⟨B, 1, none⟩ = some (.slice fa D.fs.length D.fc) ∧ W.cell? ⟨B, 2, none⟩ = some (.int .i64 D.en) ∧ Ww W D) := fun W hW => by
    obtain ⟨y0, y1, y2, y3⟩ := hBX.below hW
    rw [hfa] at y1
    exact ⟨y0, y1, y2, y3⟩
  have C := rwcheck_any W0 D hWw
  rw [hE] at C
  have HC3 : Hid (∀ W, Below W0.heap.size W0 W → Calls Tryz.prog 31 #[.agg #[.slice D.pa D.ps.length D.pc, .slice fa D.fs.length D.fc, .int .i64 D.en]] W fun e w' => ∃ a c, e = .returned (.slice a (sts D).length c) ∧ RdM w' a (sts D) ∧ Below W.heap.size W w') := fun W hW => by
    have := rstarts_any W D (hWw.below hW)
    dsimp only [wv] at this
    rw [hfa] at this
    refine this.mono ?_
    rintro e w' ⟨v, rfl, hR⟩
    obtain ⟨a, c, rfl, hr⟩ := hR.rd
    exact ⟨a, c, rfl, hr, hR.2⟩
  have HB0 : Hid _ := hb0
  have HOK : Hid _ := hok
  have HFA : Hid _ := hfa
  have HW0 : Hid _ := hW0
  have HBE : Hid _ := hB
  have hfl := h.fl
  rw [hW0] at C
  dsimp only [wv, wcs] at C HW0 ⊢
  rw [hfa] at C HW0 ⊢
  clear h hb0 hE hWw hBX hW0 hfa hok hB
  go_enter Tryz.func11, Tryz.ntmps11
  go_wp2_with fail
  refine C.mono ?_
  rintro e w1 ⟨rfl, hb1⟩
  rw [← HW0.out] at hb1
  rw [HBE.out]
  obtain ⟨x0, x1, x2, _⟩ := HX.out w1 hb1
  obtain ⟨W3, hW3⟩ : ∃ W3, W3 = w1.alloc (.cells (gcs D (.slice none 0 0) (.slice none 0 0) (.slice none 0 0) (.slice none 0 0)) 77) := ⟨_, rfl⟩
  have hb3 : Below w1.heap.size w1 W3 := by rw [hW3]; exact al _ _
  have hb03 := hb1.trans (hb3.mono hb1.size)
  obtain ⟨RB, hRB⟩ : ∃ RB, w1.heap.size = RB := ⟨_, rfl⟩
  have hL0 : DLay W3 RB D [] [] [] [] (.slice none 0 0) (.slice none 0 0) (.slice none 0 0) (.slice none 0 0) := by
    refine ⟨by rw [hW3, ← hRB]; exact World.alloc_heap_new w1 _, World.ownsRow_nil _ _ _ _, World.ownsRow_nil _ _ _ _, World.ownsRow_nil _ _ _ _, World.ownsRow_nil _ _ _ _, ?_, ?_, ?_, ?_, ?_, ?_, ?_, ?_, ?_, ?_⟩ <;> simp [Value.ownBlock]
  have hRB0 : W0.heap.size ≤ RB := by rw [← hRB]; exact hb1.size
  have lB : B < w1.heap.size := clt x1
  have HL0 : Hid _ := hL0
  have HB03 : Hid _ := hb03
  have HW3 : Hid _ := hW3
  have HRB0 : Hid _ := hRB0
  dsimp only [gcs] at HW3
  rw [HFA.out] at HW3
  clear C hb1 hb3 hb03 hL0 hW3 hRB0
  go_wp2_with fail
  rw [← HW3.out]
  clear x0 x1 x2 lB hRB HW3
  have HY1 : Hid (∀ W, Below W0.heap.size W0 W → Ww W D) := fun W hW => (HX.out W hW).2.2.2
  go_loopw [7] (fun s7 wr => ∃ (k : Nat) (sv qv : Value), k ≤ D.fs.length ∧ s7 = .int .i64 k ∧ DLay wr RB D ((D.fs.take k).map (·.st)) ((D.fs.take k).map (fun f => (f.is.length : Int))) [] [] sv qv (.slice none 0 0) (.slice none 0 0) ∧ (∀ i, sv.ownBlock = some i → RB < i) ∧ (∀ i, qv.ownBlock = some i → RB < i) ∧ Below W0.heap.size W0 wr) (fun s7 _ => D.fs.length - (intOf s7).toNat)
  case atStart => exact ⟨0, _, _, Nat.zero_le _, rfl, HL0.out, by simp [Value.ownBlock], by simp [Value.ownBlock], HB03.out⟩
  case round =>
    clear HL0 HB03
    obtain ⟨k, sv, qv, hk, rfl, hL, hs0, hq0, hbr⟩ := hrel
    by_cases hkl : k < D.fs.length
    · have hk' : (k : Int) < (D.fs.length : Int) := by omega
      obtain ⟨g, hg⟩ : ∃ g, nthF D.fs k = g := ⟨_, rfl⟩
      have hfc := fun W hW => (HY1.out W hW).f.cells hkl hg
      rw [HFA.out] at hfc
      obtain ⟨b, off, rfl, hbb, z0, z1, z2, z3, z4, z5, z6⟩ := hfc wr hbr
      have HFC : Hid (∀ W, Below W0.heap.size W0 W → W.cell? ⟨B, 1, none⟩ = some (.slice (some ⟨b, off, none⟩) D.fs.length D.fc) ∧ W.cell? ⟨b, off + k * 7 + 2, none⟩ = some (.int .i64 g.st) ∧ W.cell? ⟨b, off + k * 7 + 6, none⟩ = some (.slice g.ia g.is.length g.ic)) := fun W hW => by
        obtain ⟨b', off', e', _, _, _, v2, _, _, _, v6⟩ := hfc W hW
        simp at e'
        obtain ⟨rfl, rfl⟩ := e'
        exact ⟨(HX.out W hW).2.1, v2, v6⟩
      -- the state
      obtain ⟨X, hX⟩ : ∃ X, (D.fs.take k).map (·.st) ++ [g.st] = X := ⟨_, rfl⟩
      obtain ⟨Y, hY⟩ : ∃ Y, (D.fs.take k).map (fun f => (f.is.length : Int)) ++ [(g.is.length : Int)] = Y := ⟨_, rfl⟩
      have htk : D.fs.take (k + 1) = D.fs.take k ++ [g] := by
        rw [List.take_succ_eq_append_getElem hkl]
        congr 1
        rw [← hg]
        simp [nthF, hkl]
      have hX2 : (D.fs.take (k + 1)).map (·.st) = X := by rw [htk, List.map_append, ← hX]; rfl
      have hY2 : (D.fs.take (k + 1)).map (fun f => (f.is.length : Int)) = Y := by rw [htk, List.map_append, ← hY]; rfl
      have lRB := hL.lt RB (.inl rfl)
      obtain ⟨_, _, _, y3, y4, _⟩ := hL.cells
      obtain ⟨sa, sc, hsv⟩ := shape_of hL.s
      obtain ⟨qa, qc, hqv⟩ := shape_of hL.q
      rw [show ((D.fs.take k).map (·.st)).length = k by simp; omega] at hsv
      rw [show ((D.fs.take k).map (fun f => (f.is.length : Int))).length = k by simp; omega] at hqv
      have hb5 := (al wr (.cells #[.int .i64 g.st] 3)).drew
      obtain ⟨a1, c1, w5, hrun1, f1, e1, hL1, fr1, n1⟩ := (hL.below hb5).addS g.st wr.heap.size (World.alloc_heap_new wr _) (by simp; omega) 22 X hX
      obtain ⟨W6, hW6⟩ : ∃ W6, W6 = w5.setCell ⟨RB, 3, none⟩ (.slice a1 X.length c1) := ⟨_, rfl⟩
      rw [← hW6] at hL1 fr1
      have hb6 : Below W0.heap.size W0 W6 := by
        have hh := hbr.trans (hb5.mono hbr.size)
        refine hh.trans (fr1.below hh.size ?_)
        rintro i (rfl | e)
        · exact HRB0.out
        · have := hs0 i e; have := HRB0.out; omega
      have hs1 : ∀ i, (Value.slice a1 X.length c1).ownBlock = some i → RB < i := fun i e => by
        rcases n1 i e with g | g
        · exact hs0 i g
        · have := hb5.size; omega
      have hb7 := (al W6 (.cells #[.int .i64 (g.is.length : Int)] 3)).drew
      obtain ⟨a2, c2, w7, hrun2, f2, e2, hL2, fr2, n2⟩ := (hL1.below hb7).addQ g.is.length W6.heap.size (World.alloc_heap_new W6 _) (by simp; omega) 22 Y hY
      obtain ⟨W8, hW8⟩ : ∃ W8, W8 = w7.setCell ⟨RB, 4, none⟩ (.slice a2 Y.length c2) := ⟨_, rfl⟩
      rw [← hW8] at hL2 fr2
      have hb8 : Below W0.heap.size W0 W8 := by
        have hh := hb6.trans (hb7.mono hb6.size)
        refine hh.trans (fr2.below hh.size ?_)
        rintro i (rfl | e)
        · exact HRB0.out
        · have := hq0 i e; have := HRB0.out; omega
      have lRB6 := hL1.lt RB (.inl rfl)
      have hq1 : ∀ i, (Value.slice a2 Y.length c2).ownBlock = some i → RB < i := fun i e => by
        rcases n2 i e with g | g
        · exact hq0 i g
        · have := hb7.size; omega
      have HFIN : Hid (DLay W8 RB D ((D.fs.take (k + 1)).map (·.st)) ((D.fs.take (k + 1)).map (fun f => (f.is.length : Int))) [] [] (.slice a1 X.length c1) (.slice a2 Y.length c2) (.slice none 0 0) (.slice none 0 0) ∧ (∀ i, (Value.slice a1 X.length c1).ownBlock = some i → RB < i) ∧ (∀ i, (Value.slice a2 Y.length c2).ownBlock = some i → RB < i) ∧ Below W0.heap.size W0 W8) := ⟨by rw [hX2, hY2]; exact hL2, hs1, hq1, hb8⟩
      obtain ⟨u1, u2, u6⟩ := HFC.out wr hbr
      obtain ⟨v1, v2, v6⟩ := HFC.out W6 hb6
      obtain ⟨_, _, _, _, q4, _⟩ := hL1.cells
      have HRUN1 : Hid _ := hrun1
      have HRUN2 : Hid _ := hrun2
      have HW6 : Hid _ := hW6
      have HW8 : Hid _ := hW8
      have lB1 : B < wr.heap.size := clt u1
      have lB6 : B < W6.heap.size := clt v1
      have lb6 : b < W6.heap.size := clt v2
      have HV : Hid _ := And.intro v1 (And.intro v2 (And.intro v6 q4))
      subst hsv
      subst hqv
      clear hrun1 hrun2 hW6 hW8 hL1 hL2 fr1 fr2 n1 n2 hb5 hb7 hb6 hb8 hs1 hq1 hs0 hq0 hfc hL hbr z0 z1 z3 z4 z5 htk hX2 hY2 hg v1 v2 v6 q4 z2 z6 hX hY
      go_wp2_with fail
      go_region_law (refine step_append_run rfl (.tmp 30) (.tmp 37) 22 rfl (by simp [Act.eval]) (by simp [Act.eval]) HRUN1.out ?_)
      all_goals
        rw [← HW6.out]
        obtain ⟨v1, v2, v6, q4⟩ := HV.out
        clear u1 u2 u6 y3 y4 lB1 lRB e1 f1 hbb HRUN1 HW6
        go_wp2_with fail
        go_region_law (refine step_append_run rfl (.tmp 45) (.tmp 53) 22 rfl (by simp [Act.eval]) (by simp [Act.eval]) HRUN2.out ?_)
      all_goals
        rw [← HW8.out]
        clear v1 v2 v6 q4 lB6 lb6 lRB6 e2 f2 HRUN2 HW8
        go_wp2_with fail
        go_roundw
        case rel =>
          obtain ⟨r1, r2, r3, r4⟩ := HFIN.out
          exact ⟨k + 1, _, _, by omega, by go_num, r1, r2, r3, r4⟩
        case measure => simp [intOf]; omega
    · obtain rfl : k = D.fs.length := by omega
      rw [List.take_length] at hL
      obtain ⟨x0, x1, x2, _⟩ := HX.out wr hbr
      have lRB := hL.lt RB (.inl rfl)
      have HL : Hid _ := hL
      have HBR : Hid _ := hbr
      have HS0 : Hid _ := hs0
      have HQ0 : Hid _ := hq0
      have HPU : Hid (∀ W a c, Below W0.heap.size W0 W → RdM W a (sts D) → Calls Tryz.prog 30 #[.slice none 0 0, .slice a (sts D).length c] W fun e w' => ∃ a' c', e = .returned (.slice a' (putL [] (sts D)).length c') ∧ w'.ownsRow 0 38 6 (.slice a' (putL [] (sts D)).length c') (putL [] (sts D)).length (flatM (putL [] (sts D))) ∧ (∀ k, (Value.slice a' (putL [] (sts D)).length c').ownBlock = some k → W.heap.size ≤ k) ∧ Below W.heap.size W w') := fun W a c hW hr => by
        have hsl := sts_len HOK.out
        refine (rput_any W none 0 [] a c (sts D) (fun g => absurd rfl g) hr (by simp; omega)).mono ?_
        rintro e w' ⟨a', c', rfl, h4, h5, h6⟩
        refine ⟨a', c', rfl, ?_, ?_, h6⟩
        · rcases h4 with ⟨rfl, rfl, h4⟩ | h4
          · rw [h4]; exact World.ownsRow_nil _ _ _ _
          · exact rowM_own h4
        · rcases h4 with ⟨rfl, rfl, h4⟩ | h4
          · intro k hk; simp [Value.ownBlock] at hk
          · exact fun k hk => rowM_ge h4 hk
      clear hL hbr hs0 hq0
      go_wp2_with fail
      refine (HC3.out _ HBR.out).mono ?_
      rintro e w4 ⟨a4, c4, rfl, hr4, hb4⟩
      have hb04 := (HBR.out).trans (hb4.mono (HBR.out).size)
      have HB04 : Hid _ := hb04
      have HR4 : Hid _ := hr4
      have HB4 : Hid _ := hb4
      clear hb04 hr4 hb4 x0 x1 x2
      go_wp2_with fail
      refine (HPU.out w4 a4 c4 HB04.out HR4.out).mono ?_
      rintro e w5 ⟨a5, c5, rfl, ho5, hn5, hb5⟩
      obtain ⟨L, hLL⟩ : ∃ L, putL [] (sts D) = L := ⟨_, rfl⟩
      rw [hLL] at ho5 hn5 ⊢
      have hb45 := (HB4.out).trans (hb5.mono (HB4.out).size)
      have hL5 := (HL.out).below hb45
      obtain ⟨_, _, _, _, _, y5, _, yf⟩ := hL5.cells
      have hLT := hL5.setT ho5 (fun i e => by
        have g1 := hn5 i e
        have s4 := (HB4.out).size
        have g2 := (HL.out).lt
        exact ⟨fun e2 => by have := g2 i (.inl e2); omega, fun e2 => by have := g2 i (.inr (.inl e2)); omega, fun e2 => by have := g2 i (.inr (.inr (.inl e2))); omega, fun e2 => by have := g2 i (.inr (.inr (.inr (.inr e2)))); omega⟩)
      have hs5 := sts_len HOK.out
      have HEND : Hid (DocF RB D (newR D) (w5.setCell ⟨RB, 5, none⟩ (.slice a5 L.length c5)) (FD RB sv qv (.slice a5 L.length c5) (.slice none 0 0)) ∧ (∀ k, FD RB sv qv (.slice a5 L.length c5) (.slice none 0 0) k → w.heap.size ≤ k) ∧ Below w.heap.size w (w5.setCell ⟨RB, 5, none⟩ (.slice a5 L.length c5))) := by
        have hB0s := (HB0.out).size
        have hRs := HRB0.out
        refine ⟨⟨sv, qv, _, _, ?_, Inv.new HOK.out, HOK.out, ?_, rfl⟩, ?_, ?_⟩
        · show DLay _ RB D (D.fs.map (·.st)) (D.fs.map (fun f => (f.is.length : Int))) (putL [] (sts D)) [] _ _ _ _
          rw [hLL]
          exact hLT
        · show (putL [] (sts D)).length ≤ 256 + 24 * 0
          rw [putL_len]
          simp
          omega
        · rintro k (e | e | e | e | e)
          · omega
          · have := HS0.out k e; omega
          · have := HQ0.out k e; omega
          · have := hn5 k e
            have := (HB04.out).size
            omega
          · simp [Value.ownBlock] at e
        · have h1 := (HBR.out).trans (hb45.mono (HBR.out).size)
          have h2 := (HB0.out).trans (h1.mono (HB0.out).size)
          exact h2.setCell (p := ⟨RB, 5, none⟩) (by show w.heap.size ≤ RB; omega) _
      have yf5 := yf 5
      have lRB5 : RB < w5.heap.size := clt y5
      clear ho5 hn5 hb5 hb45 hL5 hLT yf hs5 hLL
      go_wp2_with fail
      go_ret2
      obtain ⟨r1, r2, r3⟩ := HEND.out
      exact ⟨RB, _, rfl, r1, r2, r3⟩
end Go.Proofs.YtmfcbalhabcodaaGreat
