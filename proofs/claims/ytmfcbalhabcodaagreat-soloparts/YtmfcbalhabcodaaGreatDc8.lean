/- Proved: contracts of the document's Log and Waiting. -/
import Derived.Test.YtmfcbalhabcodaaGreatTds
namespace Go.Proofs.YtmfcbalhabcodaaGreat
open Go.RowKit Go.Shelf
set_option linter.unusedVariables false

theorem own_rdD {W : World} {b0 c : Nat} {a : Option Addr} {l : List Dn} (h : W.ownsRow b0 40 7 (.slice a l.length c) l.length (flatD l)) : RdD W a l := rdD_row h

/-- A row of what was done, made since, and one more behind it. -/
def RowD (w W : World) (v : Value) (l : List Dn) : Prop := W.ownsRow w.heap.size 40 7 v l.length (flatD l) ∧ Below w.heap.size w W
theorem RowD.below {w W W' : World} {v : Value} {l : List Dn} (h : RowD w W v l) (hb : Below W.heap.size W W') : RowD w W' v l := ⟨own_below h.1 hb, h.2.trans (hb.mono h.2.size)⟩
theorem RowD.empty (w : World) : RowD w (w.alloc (.cells #[] 40)) (.slice (some ⟨w.heap.size, 0, none⟩) 0 0) [] := ⟨World.ownsRow_made w #[] 0 (Nat.le_refl _) (Nat.zero_le _) (by simp), (Below.refl _ _).alloc (Nat.le_refl _) _⟩
theorem append_D {w W : World} {v : Value} {l : List Dn} (h : RowD w W v l) (x : Dn) (hl : l.length ≤ 100000) (ty : TypeId) (X : List Dn) (hX : l ++ [x] = X) :
    ∃ a' c' w', (Builtin.append_ #[48, 48] ty #[v, .slice (some ⟨W.heap.size, 0, none⟩) 1 1]).run Tryz.prog (W.alloc (.cells (dcs x) 40)) = .ok (.slice a' X.length c') w' ∧ RowD w w' (.slice a' X.length c') X := by
  obtain ⟨i0, hi0, hz0, hz1, hz2⟩ := info_parts infoD
  have hb1 := al W (.cells (dcs x) 40)
  have hx := World.alloc_heap_new W (.cells (dcs x) 40)
  obtain ⟨v', w', hr, h3, h4, h5, h6⟩ := run_append_own_at (P := Tryz.prog) _ w.heap.size 48 ty 40 i0 _ 7 56 Tryz.underlying48 hi0 hz0 hz1 hz2 rfl (by decide) v l.length (flatD l) (own_below h.1 hb1) ⟨W.heap.size, 0, none⟩ 1 1 (flatD [x]) (flatD_len [x]) (fun j u hj => by
    rw [Addr.add_lit, Nat.zero_add]
    have e : flatD [x] = encD x := by simp [flatD]
    rw [e] at hj
    obtain ⟨W2, hW2⟩ : ∃ W2, W2 = W.alloc (.cells (dcs x) 40) := ⟨_, rfl⟩
    rw [← hW2] at hx ⊢
    simp [World.cell?, hx]
    simpa [encD] using hj) (flatD_one _) (by unfold maxLen; omega) (by omega) (Nat.le_trans h.2.size hb1.size)
  have hro : w'.ownsRow w.heap.size 40 7 v' X.length (flatD X) := by
    rw [← hX, flatD_append, List.length_append]
    exact h3
  obtain ⟨a', c', rfl⟩ := shape_of hro
  have hbb := h.2.trans (hb1.mono h.2.size)
  refine ⟨a', c', w', hr, hro, hbb.trans ((H.fr_of_grown h4).below hbb.size (fun k hk => (own_lt h.1 hk).2))⟩

theorem logR_take (r : Rn) (f : Int) (k : Nat) (hk : k < r.dn.length) : (r.dn.take (k + 1)).filter (fun d => decide (d.m.dst = f)) = (r.dn.take k).filter (fun d => decide (d.m.dst = f)) ++ (if (nthD r.dn k).m.dst = f then [nthD r.dn k] else []) := by
  rw [List.take_succ_eq_append_getElem hk, List.filter_append]
  congr 1
  have e : nthD r.dn k = r.dn[k] := by simp [nthD, hk]
  rw [e]
  by_cases g : r.dn[k].m.dst = f <;> simp [g, List.filter]

set_option maxRecDepth 100000 in
set_option maxHeartbeats 1000000 in
theorem dlog_any {w : World} {db : Nat} {D : Wd} {r : Rn} {F : Nat → Prop} (h : DocF db D r w F) (f : Int) (hl : r.dn.length ≤ 5000) :
    Calls Tryz.prog 23 #[.pointer (some ⟨db, 0, none⟩), .int .i64 f] w fun e w' => ∃ a c, e = .returned (.slice a (logR r f).length c) ∧ RdD w' a (logR r f) ∧ Below w.heap.size w w' := by
  obtain ⟨sv, qv, tv, uv, hL, hI, _⟩ := h
  obtain ⟨ua, uc, hua⟩ := shape_of hL.u
  subst hua
  have HC : Hid (∀ W, Below w.heap.size w W → W.cell? ⟨db, 6, none⟩ = some (.slice ua r.dn.length uc) ∧ RdD W ua r.dn ∧ db < W.heap.size) := fun W hW => by
    have h1 := hL.below hW
    obtain ⟨_, _, _, _, _, _, x6, _⟩ := h1.cells
    exact ⟨x6, own_rdD h1.u, clt x6⟩
  have HLR : Hid (logR r f = (r.dn.take r.dn.length).filter (fun d => decide (d.m.dst = f))) := by
    show _ = _
    rw [List.take_length]
    rfl
  clear hL hI
  go_enter Tryz.func23, Tryz.ntmps23
  go_wp2_with fail
  go_loopw [5, 6] (fun s5 s6 wr => ∃ (k : Nat) (a : Option Addr) (c : Nat) (l : List Dn), s5 = .slice a l.length c ∧ s6 = .int .i64 k ∧ k ≤ r.dn.length ∧ RowD w wr (.slice a l.length c) l ∧ Hid (l = (r.dn.take k).filter (fun d => decide (d.m.dst = f)))) (fun _ s6 _ => r.dn.length - (intOf s6).toNat)
  case atStart => exact ⟨0, _, _, [], rfl, rfl, Nat.zero_le _, RowD.empty w, (by simp : ([] : List Dn) = (r.dn.take 0).filter (fun d => decide (d.m.dst = f)))⟩
  case round =>
    obtain ⟨k, a, c, l, rfl, rfl, hk, hRow, HE⟩ := hrel
    obtain ⟨x6, hRd, ldb⟩ := HC.out wr hRow.2
    have hll : l.length ≤ k := by
      rw [HE.out]
      exact Nat.le_trans (List.length_filter_le _ _) (by rw [List.length_take]; omega)
    by_cases hkl : k < r.dn.length
    · have hk' : (k : Int) < (r.dn.length : Int) := by omega
      obtain ⟨x, hx⟩ : ∃ x, nthD r.dn k = x := ⟨_, rfl⟩
      obtain ⟨b, off, rfl, hbb, p0, p1, p2, p3, p4, p5, p6⟩ := hRd.cells hkl hx
      have hlt := logR_take r f k hkl
      rw [hx] at hlt
      by_cases hA : x.m.dst = f
      · obtain ⟨X, hX⟩ : ∃ X, l ++ [x] = X := ⟨_, rfl⟩
        obtain ⟨a', c', w2, hrun, hro⟩ := append_D hRow x (by omega) 48 X hX
        have HN : Hid (X = (r.dn.take (k + 1)).filter (fun d => decide (d.m.dst = f))) := by
          show X = _
          rw [hlt, if_pos hA, ← hX, HE.out]
        subst hA
        have HRUN : Hid _ := hrun
        have HRO : Hid _ := hro
        dsimp only [dcs] at HRUN
        clear hrun hro hRow hRd hlt hX
        go_wp2_with (at_builtin; refine wpList_append_run _ rfl _ _ 48 rfl rfl rfl HRUN.out ?_)
        go_roundw
        case rel => exact ⟨k + 1, a', c', X, rfl, by go_num, by omega, HRO.out, HN.out⟩
        case measure => simp [intOf]; omega
      · have k1 : (x.m.dst == f) = false := by simpa using hA
        have HN : Hid (l = (r.dn.take (k + 1)).filter (fun d => decide (d.m.dst = f))) := by
          show l = _
          rw [hlt, if_neg hA, List.append_nil]
          exact HE.out
        have HRO : Hid _ := hRow
        clear hRow hRd hlt
        go_wp2_with fail
        go_roundw
        case rel => exact ⟨k + 1, a, c, l, rfl, by go_num, by omega, HRO.out, HN.out⟩
        case measure => simp [intOf]; omega
    · obtain rfl : k = r.dn.length := by omega
      have HRO : Hid _ := hRow
      clear hRow hRd
      go_wp2_with fail
      go_ret
      have e := HE.out
      rw [← HLR.out] at e
      subst e
      exact ⟨a, c, rfl, own_rdD (Hid.out HRO).1, (Hid.out HRO).2⟩

set_option maxRecDepth 100000 in
set_option maxHeartbeats 1000000 in
theorem dwaiting_any {w : World} {db : Nat} {D : Wd} {r : Rn} {F : Nat → Prop} (h : DocF db D r w F) (hl : r.dn.length ≤ 400) :
    Calls Tryz.prog 18 #[.pointer (some ⟨db, 0, none⟩)] w fun e w' => ∃ a c, e = .returned (.slice a r.wt.length c) ∧ RdM w' a r.wt ∧ Below w.heap.size w w' := by
  obtain ⟨sv, qv, tv, uv, hL, hI, _, hwl, _⟩ := h
  obtain ⟨ta, tc, hta⟩ := shape_of hL.t
  subst hta
  have hb1 := al w (.cells #[] 38)
  have hL1 := hL.below hb1
  obtain ⟨_, _, _, _, _, x5, _, _⟩ := hL.cells
  have ldb : db < w.heap.size := clt x5
  obtain ⟨a', c', w2, hrun, hro⟩ := append_M (c := tc) (RowM.empty w) (own_rdM hL1.t) (by simp) (by omega) 45 r.wt (by simp)
  have HRUN : Hid _ := hrun
  have HRO : Hid _ := hro
  clear hL hL1 hI hrun hro
  go_enter Tryz.func18, Tryz.ntmps18
  go_wp2_with (at_builtin; refine wpList_append_run _ rfl _ _ 45 rfl rfl rfl HRUN.out ?_)
  go_ret
  exact ⟨a', c', rfl, own_rdM (rowM_own HRO.out), (Hid.out HRO).2⟩
end Go.Proofs.YtmfcbalhabcodaaGreat
