/- Proved: the contract of Next, over runs as plain data; contracts of Steps, Log and State. -/
import Derived.Test.YtmfcbalhabcodaaGreatNx2
namespace Go.Proofs.YtmfcbalhabcodaaGreat
open Go.RowKit Go.Shelf
set_option linter.unusedVariables false

theorem Step.trans {F F' F'' : Nat → Prop} {w W W' : World} (h : Step F F' w W) (k : Step F' F'' W W') : Step F F'' w W' := by
  refine ⟨h.1.trans k.1 (fun i hi g => (h.2 i g).elim id (fun e => by omega)), fun i g => ?_⟩
  have := h.1.size
  rcases k.2 i g with e | e
  · exact h.2 i e
  · exact .inr (by omega)
theorem goR_parts {D : Wd} {r : Rn} {m : M} {rest : List M} {f : Nat} (hf : m.dst = (f : Int)) {P : Int × List O} (hP : stp (nthF D.fs f).rs (nthI r.st f) m.cl = P) {new : List M} (hnew : spr D m.dst (nthI r.sq f) m.t m.bd P.2 = new) : goR D r m rest = (⟨r.st.set f P.1, r.sq.set f (nthI r.sq f + (P.2.length : Int)), putL rest new, r.dn ++ [⟨m, P.1⟩]⟩, ⟨m, P.1⟩) := by
  have hft : m.dst.toNat = f := by rw [hf]; simp
  unfold goR
  simp only [hft, hP, hnew]
theorem logR_snoc (r : Rn) (st sq : List Int) (wt : List M) (d : Dn) (g : Int) : logR ⟨st, sq, wt, r.dn ++ [d]⟩ g = logR r g ++ (if d.m.dst = g then [d] else []) := by
  unfold logR
  rw [List.filter_append]
  congr 1
  by_cases e : d.m.dst = g <;> simp [e, List.filter]
theorem logR_le (r : Rn) (g : Int) : (logR r g).length ≤ r.dn.length := List.length_filter_le _ _

set_option maxHeartbeats 1000000 in
theorem next_yes {w : World} {rb : Nat} {D : Wd} {r : Rn} {F : Nat → Prop} (h : RunF rb D r w F) {p : Rn × Dn} (hn : nxt D r = some p) (hl : r.dn.length ≤ 500) :
    Calls Tryz.prog 12 #[.pointer (some ⟨rb, 0, none⟩)] w fun e w' => e = .returned (.tuple #[dv p.2, .bool true]) ∧ ∃ F2, RunF rb D p.1 w' F2 ∧ Step F F2 w w' := by
  obtain ⟨lo, hi, D', fv, pv, pb, E, hR, hFe⟩ := h
  obtain ⟨m, rest, hw, ht, hp⟩ := nxt_parts hn
  have hI := hR.inv
  have hall : allR r = r.dn.map (·.m) ++ m :: rest := by unfold allR; rw [hw]
  obtain ⟨_, ⟨d0, d1⟩, _, _, t0⟩ := hI.mem m (by rw [hall]; simp)
  obtain ⟨f, hf⟩ := Int.eq_ofNat_of_zero_le d0
  have hfl : f < D.fs.length := by omega
  have hel := hR.el
  obtain ⟨fb, fc, hfv⟩ := own_some' hR.lay.row (by omega)
  subst hfv
  obtain ⟨e1, e2, e3⟩ := hR.fe f hfl
  obtain ⟨P, hP⟩ : ∃ P, stp (nthF D.fs f).rs (nthI r.st f) m.cl = P := ⟨_, rfl⟩
  obtain ⟨new, hnew⟩ : ∃ new, spr D m.dst (nthI r.sq f) m.t m.bd P.2 = new := ⟨_, rfl⟩
  have hgo := goR_parts (rest := rest) hf hP hnew
  have hlk := hR.lik.fs f hfl
  have hP' : stp (nthF D'.fs f).rs (nthE E f).st m.cl = P := by rw [stp_lik hlk.rl hlk.rs, e1]; exact hP
  have hnew' : spr D' (f : Int) (nthE E f).sq m.t m.bd P.2 = new := by rw [spr_lik hR.lik, e2, ← hf]; exact hnew
  have hs : Srt (m :: rest) := by
    have h1 := hI.srt
    rw [hall] at h1
    exact (List.pairwise_append.1 h1).2.1
  have hq := hI.nn f hfl
  have hPl : P.2.length ≤ 3 := by
    rw [← hP]
    rcases stp_os (nthF D.fs f).rs (nthI r.st f) m.cl with e | ⟨rl, hrl, e⟩
    · rw [e]; simp
    · rw [e]; exact (fed_ok (hR.ok.fe _ (nthF_mem hfl))).2.2 rl hrl
  have hnl : new.length ≤ 24 := by
    rw [← hnew]
    have := sprF_len (d := D) (m := 8) hR.ok.ln.2 m.dst (nthI r.sq f) m.t m.bd P.2 P.2.length
    unfold spr
    omega
  have hwl := hR.wl
  have hwl2 : rest.length + 1 = r.wt.length := by rw [hw]; simp
  have hlg : (nthE E f).lg.length ≤ r.dn.length := by rw [e3]; exact logR_le r _
  have hlay := hR.lay
  rw [hw] at hlay
  refine (next_walk (F := F) hlay rfl (fun k => by rw [hFe]) hs hf (by omega) (by rw [hR.lik.fl]; exact hfl) rfl (by rw [hR.lik.en]; exact ht) hP' hnew' (by omega) (by omega) (by omega) (by simp; omega)).mono ?_
  rintro e w' ⟨rfl, pv', a', c', hL, hFr, hn1, hn2⟩
  rw [hp, hgo]
  have hfE : f < E.length := by omega
  refine ⟨rfl, _, ⟨lo, hi, D', _, pv', pb, _, ⟨hL, hR.lik, by rw [List.length_set]; exact hel, fun i hi => ?_, ?_, hR.ok, ?_⟩, rfl⟩, hFr, fun k hk => ?_⟩
  · rw [nthE_set _ _ _ _ hfE, logR_snoc]
    obtain ⟨g1, g2, g3⟩ := hR.fe i hi
    by_cases e : f = i
    · subst e
      rw [if_pos rfl, if_pos hf]
      exact ⟨by simp [nth_set _ _ _ _ (by rw [hI.ls]; exact hfl)], by simp [nth_set _ _ _ _ (by rw [hI.lq]; exact hfl), e2], by simp [e3]⟩
    · rw [if_neg e, if_neg (by show ¬ m.dst = _; omega)]
      exact ⟨by simp [nth_set _ _ _ _ (by rw [hI.ls]; exact hfl), e, g1], by simp [nth_set _ _ _ _ (by rw [hI.lq]; exact hfl), e, g2], by simp [g3]⟩
  · have := hI.next hR.ok hn
    rw [hp, hgo] at this
    exact this
  · show (putL rest new).length ≤ 256 + 24 * (r.dn ++ [(⟨m, P.1⟩ : Dn)]).length
    rw [putL_len]
    simp
    omega
  · rw [hFe]
    rcases hk with hk | hk | hk | hk | ⟨i, hi', hk⟩
    · exact .inl (.inl hk)
    · exact .inl (.inr (.inl hk))
    · exact .inl (.inr (.inr (.inl hk)))
    · rcases hn1 k hk with g | g
      · exact .inl (.inr (.inr (.inr (.inl g))))
      · exact .inr g
    · rw [List.length_set] at hi'
      rw [nthE_set _ _ _ _ hfE] at hk
      split at hk
      · rw [show lv ⟨P.1, (nthE E f).sq + (P.2.length : Int), a', c', (nthE E f).lg ++ [⟨m, P.1⟩]⟩ = .slice a' ((nthE E f).lg.length + 1) c' by simp [lv]] at hk
        rcases hn2 k hk with g | g
        · exact .inl (.inr (.inr (.inr (.inr ⟨f, hfE, g⟩))))
        · exact .inr g
      · exact .inl (.inr (.inr (.inr (.inr ⟨i, hi', hk⟩))))

set_option maxRecDepth 100000 in
set_option maxHeartbeats 1000000 in
theorem steps_any {w : World} {rb : Nat} {D : Wd} {r : Rn} {F : Nat → Prop} (h : RunF rb D r w F) (N : Nat) (hN : r.dn.length + N ≤ 500) :
    Calls Tryz.prog 14 #[.pointer (some ⟨rb, 0, none⟩), .int .i64 N] w fun e w' => e = .returned (.int .i64 (stpsR D N r).1) ∧ ∃ F2, RunF rb D (stpsR D N r).2 w' F2 ∧ Step F F2 w w' := by
  have H0 : Hid _ := h
  have hN2 : N ≤ 500 := by omega
  clear h
  go_enter Tryz.func14, Tryz.ntmps14
  go_wp2_with fail
  go_loopw [5] (fun s5 wr => ∃ (k : Nat) (r' : Rn) (F' : Nat → Prop), s5 = .int .i64 k ∧ k ≤ N ∧ RunF rb D r' wr F' ∧ Step F F' w wr ∧ Hid (stpsR D N r = (k + (stpsR D (N - k) r').1, (stpsR D (N - k) r').2)) ∧ Hid (r'.dn.length = r.dn.length + k)) (fun s5 _ => N - (intOf s5).toNat)
  case atStart => exact ⟨0, r, F, rfl, Nat.zero_le _, H0.out, Step.same (Below.refl _ _), (by simp : stpsR D N r = (0 + (stpsR D (N - 0) r).1, (stpsR D (N - 0) r).2)), (by simp : r.dn.length = r.dn.length + 0)⟩
  case round =>
    obtain ⟨k, r', F', rfl, hk, hR, hS, HE, HD⟩ := hrel
    by_cases hkN : k < N
    · have hk' : (k : Int) < (N : Int) := by omega
      cases hx : nxt D r' with
      | none =>
        have C := next_no hR hx
        have HR : Hid _ := hR
        have HS : Hid _ := hS
        have HX : Hid _ := hx
        dsimp only [dv] at C
        clear hR hS hx
        go_wp2_with (go_at_call 12; refine C.mono ?_; rintro e w1 ⟨rfl, hb1⟩)
        go_ret
        have hb2 := hb1.trans ((al w1 (.cells #[.int .i64 0, .int .i64 0, .int .i64 0, .int .i64 0, .int .i64 0, .int .i64 0, .int .i64 0] 40)).mono hb1.size)
        have hE := HE.out
        rw [stps_none HX.out] at hE
        rw [hE]
        exact ⟨by simp, F', (thR rb D r').below HR.out hb2, Step.trans (Hid.out HS) (Step.same hb2)⟩
      | some p =>
        have C := next_yes hR hx (by have := HD.out; omega)
        have HS : Hid _ := hS
        have HX : Hid _ := hx
        obtain ⟨rp, dp⟩ := p
        dsimp only [dv] at C
        clear hR hS hx
        go_wp2_with (go_at_call 12; refine C.mono ?_; rintro e w1 ⟨rfl, F2, hR2, hS2⟩; have HR2 : Hid _ := hR2; have HS2 : Hid _ := hS2; clear hR2 hS2)
        go_roundw
        case rel =>
          have hb2 := al w1 (.cells #[.int .i64 dp.m.t, .int .i64 dp.m.fr, .int .i64 dp.m.sq, .int .i64 dp.m.dst, .int .i64 dp.m.cl, .int .i64 dp.m.bd, .int .i64 dp.s] 40)
          refine ⟨k + 1, rp, F2, by go_num, by omega, (thR rb D rp).below HR2.out hb2, Step.trans (Step.trans (Hid.out HS) (Hid.out HS2)) (Step.same hb2), ?_, ?_⟩
          · have hE := HE.out
            rw [show N - k = (N - (k + 1)) + 1 by omega, stps_some HX.out] at hE
            show stpsR D N r = _
            rw [hE]
            simp
            omega
          · have hdn := (nxt_parts HX.out)
            obtain ⟨m, rest, hw, ht, hp⟩ := hdn
            have e1 : rp.dn = (goR D r' m rest).1.dn := congrArg (fun q => q.1.dn) hp
            show rp.dn.length = _
            rw [e1]
            show (r'.dn ++ [_]).length = _
            have := HD.out
            simp
            omega
        case measure => simp [intOf]; omega
    · obtain rfl : k = N := by omega
      have hE := HE.out
      simp only [Nat.sub_self, stpsR, Nat.add_zero] at hE
      have HH : Hid _ := hE
      clear hE
      go_wp2_with fail
      go_ret
      rw [HH.out]
      exact ⟨rfl, F', hR, hS⟩
end Go.Proofs.YtmfcbalhabcodaaGreat
