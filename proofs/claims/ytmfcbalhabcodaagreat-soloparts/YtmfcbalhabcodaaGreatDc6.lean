/- Proved: the contract of the document's New. -/
import Derived.Test.YtmfcbalhabcodaaGreatDc3
import Derived.Test.YtmfcbalhabcodaaGreatNw0
namespace Go.Proofs.YtmfcbalhabcodaaGreat
open Go.RowKit Go.Shelf
set_option linter.unusedVariables false

theorem DLay.addS {W : World} {db : Nat} {D : Wd} {st sq : List Int} {wt : List M} {dn : List Dn} {sv qv tv uv : Value} (h : DLay W db D st sq wt dn sv qv tv uv) (x : Int) (nb : Nat) (hx : W.heap[nb]? = some (.cells #[.int .i64 x] 3 (0, 0))) (hl : st.length ≤ 100000) (ty : TypeId) (X : List Int) (hX : st ++ [x] = X) :
    ∃ a' c' w', (Builtin.append_ #[22, 22] ty #[sv, .slice (some ⟨nb, 0, none⟩) 1 1]).run Tryz.prog W = .ok (.slice a' X.length c') w' ∧ w'.frozen? ⟨db, 3, none⟩ = false ∧ w'.cell? ⟨db, 3, none⟩ = some sv ∧ DLay (w'.setCell ⟨db, 3, none⟩ (.slice a' X.length c')) db D X sq wt dn (.slice a' X.length c') qv tv uv ∧ Fr (fun k => k = db ∨ sv.ownBlock = some k) W (w'.setCell ⟨db, 3, none⟩ (.slice a' X.length c')) ∧ (∀ k, (Value.slice a' X.length c').ownBlock = some k → sv.ownBlock = some k ∨ W.heap.size ≤ k) := by
  obtain ⟨a', c', w', hr, hro, f4, hv'⟩ := addI h.s x nb hx hl ty X hX
  have ldb := h.lt db (.inl rfl)
  have hbx : w'.heap[db]? = some (.cells (gcs D sv qv tv uv) 77 (0, 0)) := (f4.block db ldb h.ns).trans h.bx
  have g0 : Fr (fun k => k = db) w' w' := Fr.refl _ w'
  have g1 := g0.setCell ⟨db, 3, none⟩ (.slice a' X.length c') rfl
  have fa : Fr (fun k => k = db ∨ sv.ownBlock = some k) W (w'.setCell ⟨db, 3, none⟩ (.slice a' X.length c')) := (f4.wide (fun k hk => .inr hk)).then (g1.wide (fun k hk => .inl hk))
  have hne : ∀ k, (Value.slice a' X.length c').ownBlock = some k → k ≠ db ∧ qv.ownBlock ≠ some k ∧ tv.ownBlock ≠ some k ∧ uv.ownBlock ≠ some k := fun k hk => by
    rcases hv' k hk with g | g
    · exact ⟨fun e => h.ns (by rw [g, e]), fun e => h.sq' k g e, fun e => h.st' k g e, fun e => h.su' k g e⟩
    · exact ⟨by omega, fun e => by have := (own_lt h.q e).1; omega, fun e => by have := (own_lt h.t e).1; omega, fun e => by have := (own_lt h.u e).1; omega⟩
  refine ⟨a', c', w', hr, by simp [World.frozen?, hbx], by simp [World.cell?, hbx, gcs], ⟨?_, own_keep hro g1 (fun k hk => (hne k hk).1), own_keep h.q fa ?_, own_keep h.t fa ?_, own_keep h.u fa ?_, fun e => (hne db e).1 rfl, h.nq, h.nt, h.nu, fun k hk => (hne k hk).2.1, fun k hk => (hne k hk).2.2.1, fun k hk => (hne k hk).2.2.2, h.qt', h.qu', h.tu'⟩, fa, hv'⟩
  · rw [heap_setCell_same w' db 3 _ _ _ hbx]
    rfl
  · rintro k hk (e | e)
    · exact h.nq (by rw [hk, e])
    · exact h.sq' k e hk
  · rintro k hk (e | e)
    · exact h.nt (by rw [hk, e])
    · exact h.st' k e hk
  · rintro k hk (e | e)
    · exact h.nu (by rw [hk, e])
    · exact h.su' k e hk
theorem DLay.addQ {W : World} {db : Nat} {D : Wd} {st sq : List Int} {wt : List M} {dn : List Dn} {sv qv tv uv : Value} (h : DLay W db D st sq wt dn sv qv tv uv) (x : Int) (nb : Nat) (hx : W.heap[nb]? = some (.cells #[.int .i64 x] 3 (0, 0))) (hl : sq.length ≤ 100000) (ty : TypeId) (X : List Int) (hX : sq ++ [x] = X) :
    ∃ a' c' w', (Builtin.append_ #[22, 22] ty #[qv, .slice (some ⟨nb, 0, none⟩) 1 1]).run Tryz.prog W = .ok (.slice a' X.length c') w' ∧ w'.frozen? ⟨db, 4, none⟩ = false ∧ w'.cell? ⟨db, 4, none⟩ = some qv ∧ DLay (w'.setCell ⟨db, 4, none⟩ (.slice a' X.length c')) db D st X wt dn sv (.slice a' X.length c') tv uv ∧ Fr (fun k => k = db ∨ qv.ownBlock = some k) W (w'.setCell ⟨db, 4, none⟩ (.slice a' X.length c')) ∧ (∀ k, (Value.slice a' X.length c').ownBlock = some k → qv.ownBlock = some k ∨ W.heap.size ≤ k) := by
  obtain ⟨a', c', w', hr, hro, f4, hv'⟩ := addI h.q x nb hx hl ty X hX
  have ldb := h.lt db (.inl rfl)
  have hbx : w'.heap[db]? = some (.cells (gcs D sv qv tv uv) 77 (0, 0)) := (f4.block db ldb h.nq).trans h.bx
  have g0 : Fr (fun k => k = db) w' w' := Fr.refl _ w'
  have g1 := g0.setCell ⟨db, 4, none⟩ (.slice a' X.length c') rfl
  have fa : Fr (fun k => k = db ∨ qv.ownBlock = some k) W (w'.setCell ⟨db, 4, none⟩ (.slice a' X.length c')) := (f4.wide (fun k hk => .inr hk)).then (g1.wide (fun k hk => .inl hk))
  have hne : ∀ k, (Value.slice a' X.length c').ownBlock = some k → k ≠ db ∧ sv.ownBlock ≠ some k ∧ tv.ownBlock ≠ some k ∧ uv.ownBlock ≠ some k := fun k hk => by
    rcases hv' k hk with g | g
    · exact ⟨fun e => h.nq (by rw [g, e]), fun e => h.sq' k e g, fun e => h.qt' k g e, fun e => h.qu' k g e⟩
    · exact ⟨by omega, fun e => by have := (own_lt h.s e).1; omega, fun e => by have := (own_lt h.t e).1; omega, fun e => by have := (own_lt h.u e).1; omega⟩
  refine ⟨a', c', w', hr, by simp [World.frozen?, hbx], by simp [World.cell?, hbx, gcs], ⟨?_, own_keep h.s fa ?_, own_keep hro g1 (fun k hk => (hne k hk).1), own_keep h.t fa ?_, own_keep h.u fa ?_, h.ns, fun e => (hne db e).1 rfl, h.nt, h.nu, fun k hk e => (hne k e).2.1 hk, h.st', h.su', fun k hk => (hne k hk).2.2.1, fun k hk => (hne k hk).2.2.2, h.tu'⟩, fa, hv'⟩
  · rw [heap_setCell_same w' db 4 _ _ _ hbx]
    rfl
  · rintro k hk (e | e)
    · exact h.ns (by rw [hk, e])
    · exact h.sq' k hk e
  · rintro k hk (e | e)
    · exact h.nt (by rw [hk, e])
    · exact h.qt' k e hk
  · rintro k hk (e | e)
    · exact h.nu (by rw [hk, e])
    · exact h.qu' k e hk

set_option maxRecDepth 100000 in
set_option maxHeartbeats 1000000 in
theorem dnew_bad {w : World} {D : Wd} (h : Ww w D) {N E : Int} (hE : wldE D = (N, E)) (h0 : E ≠ 0) :
    Calls Tryz.prog 11 #[wv D] w fun e w' => e = .returned (.tuple #[.pointer none, .int .i64 E]) ∧ Below w.heap.size w w' := by
  have hb0 := al w (.cells (wcs D) 25)
  have C := rwcheck_any _ D (h.below hb0)
  rw [hE] at C
  have k1 : (E != 0) = true := by simpa using h0
  have HB0 : Hid _ := hb0
  dsimp only [wv, wcs] at C HB0 ⊢
  clear h hb0 hE
  go_enter Tryz.func11, Tryz.ntmps11
  go_wp2_with fail
  refine C.mono ?_
  rintro e w1 ⟨rfl, hb1⟩
  go_wp2_with fail
  go_ret2
  exact ⟨rfl, (HB0.out).trans (hb1.mono (HB0.out).size)⟩
end Go.Proofs.YtmfcbalhabcodaaGreat
