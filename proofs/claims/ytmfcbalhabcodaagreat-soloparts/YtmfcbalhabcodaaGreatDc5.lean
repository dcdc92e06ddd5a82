/- Proved: the contracts of the document's Next and Steps, over runs as plain data; of its State. -/
import Derived.Test.YtmfcbalhabcodaaGreatDc4
import Derived.Test.YtmfcbalhabcodaaGreatNx4
namespace Go.Proofs.YtmfcbalhabcodaaGreat
open Go.RowKit Go.Shelf
set_option linter.unusedVariables false

set_option maxHeartbeats 1000000 in
theorem dnext_yes {w0 w : World} {db : Nat} {D : Wd} {r : Rn} {F : Nat → Prop} (hw0 : Ww w0 D) (h : DocF db D r w F) (hFb : ∀ k, F k → w0.heap.size ≤ k) (hb : Below w0.heap.size w0 w) {p : Rn × Dn} (hn : nxt D r = some p) (hl : r.dn.length ≤ 500) :
    Calls Tryz.prog 13 #[.pointer (some ⟨db, 0, none⟩)] w fun e w' => e = .returned (.tuple #[dv p.2, .bool true]) ∧ ∃ F2, DocF db D p.1 w' F2 ∧ Step F F2 w w' := by
  obtain ⟨sv, qv, tv, uv, hL, hI, hO, hwl, hFe⟩ := h
  obtain ⟨m, rest, hw, ht, hp⟩ := nxt_parts hn
  have hall : allR r = r.dn.map (·.m) ++ m :: rest := by unfold allR; rw [hw]
  obtain ⟨_, ⟨d0, d1⟩, _, _, t0⟩ := hI.mem m (by rw [hall]; simp)
  obtain ⟨f, hf⟩ := Int.eq_ofNat_of_zero_le d0
  have hfl : f < D.fs.length := by omega
  have hls := hI.ls
  have hlq := hI.lq
  obtain ⟨sg, sc, hsv⟩ := own_some' hL.s (by omega)
  obtain ⟨qg, qc, hqv⟩ := own_some' hL.q (by omega)
  have hwl2 : rest.length + 1 = r.wt.length := by rw [hw]; simp
  obtain ⟨tg, tc, htv⟩ := own_some' hL.t (by omega)
  obtain ⟨P, hP⟩ : ∃ P, stp (nthF D.fs f).rs (nthI r.st f) m.cl = P := ⟨_, rfl⟩
  obtain ⟨new, hnew⟩ : ∃ new, spr D m.dst (nthI r.sq f) m.t m.bd P.2 = new := ⟨_, rfl⟩
  have hgo := goR_parts (rest := rest) hf hP hnew
  have hnew' : spr D (f : Int) (nthI r.sq f) m.t m.bd P.2 = new := by rw [← hf]; exact hnew
  have hq := hI.nn f hfl
  have hPl : P.2.length ≤ 3 := by
    rw [← hP]
    rcases stp_os (nthF D.fs f).rs (nthI r.st f) m.cl with e | ⟨rl, hrl, e⟩
    · rw [e]; simp
    · rw [e]; exact (fed_ok (hO.fe _ (nthF_mem hfl))).2.2 rl hrl
  have hnl : new.length ≤ 24 := by
    rw [← hnew]
    have := sprF_len (d := D) (m := 8) hO.ln.2 m.dst (nthI r.sq f) m.t m.bd P.2 P.2.length
    unfold spr
    omega
  subst hsv
  subst hqv
  subst htv
  rw [show r.sq.length = r.st.length by omega] at hL hFe
  have hL2 := hL
  rw [hw] at hL2 hFe
  have hwx : r.wt.length = (m :: rest).length := by rw [hw]
  refine (dnext_walk (F := F) (f := f) (P := P) (new := new) hw0 hL2 rfl (fun k => by rw [hFe]) hFb hb hf (by omega) rfl (by omega) hfl ht hP hnew' (by omega) (by omega) (by omega) (by simp; omega)).mono ?_
  rintro e w' ⟨rfl, tv', uv', hL', hFr, hn1, hn2⟩
  rw [hp, hgo]
  refine ⟨rfl, _, ⟨_, _, tv', uv', hL', ?_, hO, ?_, rfl⟩, hFr, fun k hk => ?_⟩
  · have := hI.next hO hn
    rw [hp, hgo] at this
    exact this
  · show (putL rest new).length ≤ 256 + 24 * (r.dn ++ [(⟨m, P.1⟩ : Dn)]).length
    rw [putL_len]
    simp
    omega
  · rw [hFe]
    rcases hk with hk | hk | hk | hk | hk
    · exact .inl (.inl hk)
    · exact .inl (.inr (.inl hk))
    · exact .inl (.inr (.inr (.inl hk)))
    · exact .inr (hn1 k hk)
    · rcases hn2 k hk with g | g
      · exact .inl (.inr (.inr (.inr (.inr g))))
      · exact .inr g

set_option maxRecDepth 100000 in
set_option maxHeartbeats 1000000 in
theorem dsteps_any {w0 w : World} {rb : Nat} {D : Wd} {r : Rn} {F : Nat → Prop} (hw0 : Ww w0 D) (h : DocF rb D r w F) (hFb : ∀ k, F k → w0.heap.size ≤ k) (hb : Below w0.heap.size w0 w) (N : Nat) (hN : r.dn.length + N ≤ 500) :
    Calls Tryz.prog 15 #[.pointer (some ⟨rb, 0, none⟩), .int .i64 N] w fun e w' => e = .returned (.int .i64 (stpsR D N r).1) ∧ ∃ F2, DocF rb D (stpsR D N r).2 w' F2 ∧ Step F F2 w w' := by
  have H0 : Hid _ := h
  have hN2 : N ≤ 500 := by omega
  have HOF : Hid (∀ F' wr, Step F F' w wr → (∀ k, F' k → w0.heap.size ≤ k) ∧ Below w0.heap.size w0 wr) := fun F' wr hS => by
    refine ⟨fun k hk => ?_, hb.trans (hS.1.below hb.size hFb)⟩
    have := hb.size
    rcases hS.2 k hk with g | g
    · exact hFb k g
    · omega
  have HW0 : Hid _ := hw0
  clear h hFb hb hw0
  go_enter Tryz.func15, Tryz.ntmps15
  go_wp2_with fail
  go_loopw [5] (fun s5 wr => ∃ (k : Nat) (r' : Rn) (F' : Nat → Prop), s5 = .int .i64 k ∧ k ≤ N ∧ DocF rb D r' wr F' ∧ Step F F' w wr ∧ Hid (stpsR D N r = (k + (stpsR D (N - k) r').1, (stpsR D (N - k) r').2)) ∧ Hid (r'.dn.length = r.dn.length + k)) (fun s5 _ => N - (intOf s5).toNat)
  case atStart => exact ⟨0, r, F, rfl, Nat.zero_le _, H0.out, Step.same (Below.refl _ _), (by simp : stpsR D N r = (0 + (stpsR D (N - 0) r).1, (stpsR D (N - 0) r).2)), (by simp : r.dn.length = r.dn.length + 0)⟩
  case round =>
    obtain ⟨k, r', F', rfl, hk, hR, hS, HE, HD⟩ := hrel
    by_cases hkN : k < N
    · have hk' : (k : Int) < (N : Int) := by omega
      cases hx : nxt D r' with
      | none =>
        have C := dnext_no hR hx
        have HR : Hid _ := hR
        have HS : Hid _ := hS
        have HX : Hid _ := hx
        dsimp only [dv] at C
        clear hR hS hx
        go_wp2_with (go_at_call 13; refine C.mono ?_; rintro e w1 ⟨rfl, hb1⟩)
        go_ret
        have hb2 := hb1.trans ((al w1 (.cells #[.int .i64 0, .int .i64 0, .int .i64 0, .int .i64 0, .int .i64 0, .int .i64 0, .int .i64 0] 40)).mono hb1.size)
        have hE := HE.out
        rw [stps_none HX.out] at hE
        rw [hE]
        exact ⟨by simp, F', (thD rb D r').below HR.out hb2, Step.trans (Hid.out HS) (Step.same hb2)⟩
      | some p =>
        have C := dnext_yes HW0.out hR (HOF.out _ _ hS).1 (HOF.out _ _ hS).2 hx (by have := HD.out; omega)
        have HS : Hid _ := hS
        have HX : Hid _ := hx
        obtain ⟨rp, dp⟩ := p
        dsimp only [dv] at C
        clear hR hS hx
        go_wp2_with (go_at_call 13; refine C.mono ?_; rintro e w1 ⟨rfl, F2, hR2, hS2⟩; have HR2 : Hid _ := hR2; have HS2 : Hid _ := hS2; clear hR2 hS2)
        go_roundw
        case rel =>
          have hb2 := al w1 (.cells #[.int .i64 dp.m.t, .int .i64 dp.m.fr, .int .i64 dp.m.sq, .int .i64 dp.m.dst, .int .i64 dp.m.cl, .int .i64 dp.m.bd, .int .i64 dp.s] 40)
          refine ⟨k + 1, rp, F2, by go_num, by omega, (thD rb D rp).below HR2.out hb2, Step.trans (Step.trans (Hid.out HS) (Hid.out HS2)) (Step.same hb2), ?_, ?_⟩
          · have hE := HE.out
            rw [show N - k = (N - (k + 1)) + 1 by omega, stps_some HX.out] at hE
            show stpsR D N r = _
            rw [hE]
            simp
            omega
          · have hdn := (nxt_parts HX.out)
            obtain ⟨m, rest, hw, ht, hp⟩ := hdn
            have e1 : rp.dn = (goR D r' m rest).1.dn := congrArg (fun q => q.1.dn) hp
            show rp.dn.length = _
            rw [e1]
            show (r'.dn ++ [_]).length = _
            have := HD.out
            simp
            omega
        case measure => simp [intOf]; omega
    · obtain rfl : k = N := by omega
      have hE := HE.out
      simp only [Nat.sub_self, stpsR, Nat.add_zero] at hE
      have HH : Hid _ := hE
      clear hE
      go_wp2_with fail
      go_ret
      rw [HH.out]
      exact ⟨rfl, F', hR, hS⟩
end Go.Proofs.YtmfcbalhabcodaaGreat
