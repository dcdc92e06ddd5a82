/- Proved: how a run of the document's lies in memory; what stays of it while its parts are written. -/
import Derived.Test.YtmfcbalhabcodaaGreatDc1
namespace Go.Proofs.YtmfcbalhabcodaaGreat
open Go.RowKit Go.Shelf
set_option linter.unusedVariables false

abbrev ints (l : List Int) : List Value := l.map (Value.int .i64)
abbrev gcs (D : Wd) (sv qv tv uv : Value) : Array Value := #[.slice D.pa D.ps.length D.pc, .slice D.fa D.fs.length D.fc, .int .i64 D.en, sv, qv, tv, uv]
/-- The document's run: its box, its four rows, apart from each other. -/
structure DLay (W : World) (db : Nat) (D : Wd) (st sq : List Int) (wt : List M) (dn : List Dn) (sv qv tv uv : Value) : Prop where
  bx : W.heap[db]? = some (.cells (gcs D sv qv tv uv) 77 (0, 0))
  s : W.ownsRow 0 3 1 sv st.length (ints st)
  q : W.ownsRow 0 3 1 qv sq.length (ints sq)
  t : W.ownsRow 0 38 6 tv wt.length (flatM wt)
  u : W.ownsRow 0 40 7 uv dn.length (flatD dn)
  ns : sv.ownBlock ≠ some db
  nq : qv.ownBlock ≠ some db
  nt : tv.ownBlock ≠ some db
  nu : uv.ownBlock ≠ some db
  sq' : ∀ k, sv.ownBlock = some k → qv.ownBlock ≠ some k
  st' : ∀ k, sv.ownBlock = some k → tv.ownBlock ≠ some k
  su' : ∀ k, sv.ownBlock = some k → uv.ownBlock ≠ some k
  qt' : ∀ k, qv.ownBlock = some k → tv.ownBlock ≠ some k
  qu' : ∀ k, qv.ownBlock = some k → uv.ownBlock ≠ some k
  tu' : ∀ k, tv.ownBlock = some k → uv.ownBlock ≠ some k
def FD (db : Nat) (sv qv tv uv : Value) (k : Nat) : Prop := k = db ∨ sv.ownBlock = some k ∨ qv.ownBlock = some k ∨ tv.ownBlock = some k ∨ uv.ownBlock = some k
theorem DLay.lt {W : World} {db : Nat} {D : Wd} {st sq : List Int} {wt : List M} {dn : List Dn} {sv qv tv uv : Value} (h : DLay W db D st sq wt dn sv qv tv uv) : ∀ k, FD db sv qv tv uv k → k < W.heap.size := by
  rintro k (rfl | hk | hk | hk | hk)
  · exact (Array.getElem?_eq_some_iff.1 h.bx).1
  · exact (own_lt h.s hk).1
  · exact (own_lt h.q hk).1
  · exact (own_lt h.t hk).1
  · exact (own_lt h.u hk).1
theorem DLay.keep {S : Nat → Prop} {W W' : World} {db : Nat} {D : Wd} {st sq : List Int} {wt : List M} {dn : List Dn} {sv qv tv uv : Value} (h : DLay W db D st sq wt dn sv qv tv uv) (hf : Fr S W W') (hS : ∀ k, FD db sv qv tv uv k → ¬ S k) : DLay W' db D st sq wt dn sv qv tv uv :=
  ⟨(hf.block db (h.lt db (.inl rfl)) (hS db (.inl rfl))).trans h.bx, own_keep h.s hf (fun k hk => hS k (.inr (.inl hk))), own_keep h.q hf (fun k hk => hS k (.inr (.inr (.inl hk)))), own_keep h.t hf (fun k hk => hS k (.inr (.inr (.inr (.inl hk))))), own_keep h.u hf (fun k hk => hS k (.inr (.inr (.inr (.inr hk))))), h.ns, h.nq, h.nt, h.nu, h.sq', h.st', h.su', h.qt', h.qu', h.tu'⟩
theorem DLay.below {W W' : World} {db : Nat} {D : Wd} {st sq : List Int} {wt : List M} {dn : List Dn} {sv qv tv uv : Value} (h : DLay W db D st sq wt dn sv qv tv uv) (hb : Below W.heap.size W W') : DLay W' db D st sq wt dn sv qv tv uv :=
  h.keep (Fr.of_below (S := fun _ => False) hb) (fun _ _ g => g)
theorem DLay.cells {W : World} {db : Nat} {D : Wd} {st sq : List Int} {wt : List M} {dn : List Dn} {sv qv tv uv : Value} (h : DLay W db D st sq wt dn sv qv tv uv) : W.cell? ⟨db, 0, none⟩ = some (.slice D.pa D.ps.length D.pc) ∧ W.cell? ⟨db, 1, none⟩ = some (.slice D.fa D.fs.length D.fc) ∧ W.cell? ⟨db, 2, none⟩ = some (.int .i64 D.en) ∧ W.cell? ⟨db, 3, none⟩ = some sv ∧ W.cell? ⟨db, 4, none⟩ = some qv ∧ W.cell? ⟨db, 5, none⟩ = some tv ∧ W.cell? ⟨db, 6, none⟩ = some uv ∧ ∀ j, W.frozen? ⟨db, j, none⟩ = false := by
  have hb := h.bx
  refine ⟨?_, ?_, ?_, ?_, ?_, ?_, ?_, fun j => ?_⟩ <;> simp [World.cell?, World.frozen?, hb, gcs]
theorem set_ints (l : List Int) (f : Nat) (x : Int) : (ints l).set f (.int .i64 x) = ints (l.set f x) := by simp [ints, List.map_set]
/-- A state is written. -/
theorem DLay.setS {W : World} {db : Nat} {D : Wd} {st sq : List Int} {wt : List M} {dn : List Dn} {g c n : Nat} {qv tv uv : Value} (h : DLay W db D st sq wt dn (.slice (some ⟨g, 0, none⟩) n c) qv tv uv) (hn : st.length = n) (f : Nat) (x : Int) : DLay (W.setCell ⟨g, f, none⟩ (.int .i64 x)) db D (st.set f x) sq wt dn (.slice (some ⟨g, 0, none⟩) n c) qv tv uv := by
  subst hn
  obtain ⟨hst, _⟩ := World.ownsRow.stored h.s f (.int .i64 x)
  rw [set_ints] at hst
  have g0 : Fr (fun k => k = g) W W := Fr.refl _ W
  have g1 := g0.setCell ⟨g, f, none⟩ (.int .i64 x) rfl
  have ldb := h.lt db (.inl rfl)
  refine ⟨(g1.block db ldb (fun e => h.ns (by rw [e]; rfl))).trans h.bx, by rw [List.length_set]; exact hst, own_keep h.q g1 (fun k hk e => h.sq' g rfl (by rw [← e]; exact hk)), own_keep h.t g1 (fun k hk e => h.st' g rfl (by rw [← e]; exact hk)), own_keep h.u g1 (fun k hk e => h.su' g rfl (by rw [← e]; exact hk)), h.ns, h.nq, h.nt, h.nu, h.sq', h.st', h.su', h.qt', h.qu', h.tu'⟩
/-- How many one has sent is written. -/
theorem DLay.setQ {W : World} {db : Nat} {D : Wd} {st sq : List Int} {wt : List M} {dn : List Dn} {g c n : Nat} {sv tv uv : Value} (h : DLay W db D st sq wt dn sv (.slice (some ⟨g, 0, none⟩) n c) tv uv) (hn : sq.length = n) (f : Nat) (x : Int) : DLay (W.setCell ⟨g, f, none⟩ (.int .i64 x)) db D st (sq.set f x) wt dn sv (.slice (some ⟨g, 0, none⟩) n c) tv uv := by
  subst hn
  obtain ⟨hst, _⟩ := World.ownsRow.stored h.q f (.int .i64 x)
  rw [set_ints] at hst
  have g0 : Fr (fun k => k = g) W W := Fr.refl _ W
  have g1 := g0.setCell ⟨g, f, none⟩ (.int .i64 x) rfl
  have ldb := h.lt db (.inl rfl)
  refine ⟨(g1.block db ldb (fun e => h.nq (by rw [e]; rfl))).trans h.bx, own_keep h.s g1 (fun k hk e => h.sq' k hk (by rw [e]; rfl)), by rw [List.length_set]; exact hst, own_keep h.t g1 (fun k hk e => h.qt' g rfl (by rw [← e]; exact hk)), own_keep h.u g1 (fun k hk e => h.qu' g rfl (by rw [← e]; exact hk)), h.ns, h.nq, h.nt, h.nu, h.sq', h.st', h.su', h.qt', h.qu', h.tu'⟩
/-- Other messages wait. -/
theorem DLay.setT {W : World} {db : Nat} {D : Wd} {st sq : List Int} {wt wt' : List M} {dn : List Dn} {sv qv tv uv tv' : Value} (h : DLay W db D st sq wt dn sv qv tv uv) (ht : W.ownsRow 0 38 6 tv' wt'.length (flatM wt')) (hn : ∀ k, tv'.ownBlock = some k → k ≠ db ∧ sv.ownBlock ≠ some k ∧ qv.ownBlock ≠ some k ∧ uv.ownBlock ≠ some k) : DLay (W.setCell ⟨db, 5, none⟩ tv') db D st sq wt' dn sv qv tv' uv := by
  have g0 : Fr (fun k => k = db) W W := Fr.refl _ W
  have g1 := g0.setCell ⟨db, 5, none⟩ tv' rfl
  refine ⟨?_, own_keep h.s g1 (fun k hk e => h.ns (by rw [hk, e])), own_keep h.q g1 (fun k hk e => h.nq (by rw [hk, e])), own_keep ht g1 (fun k hk => (hn k hk).1), own_keep h.u g1 (fun k hk e => h.nu (by rw [hk, e])), h.ns, h.nq, fun e => (hn db e).1 rfl, h.nu, h.sq', fun k hk e => (hn k e).2.1 hk, h.su', fun k hk e => (hn k e).2.2.1 hk, h.qu', fun k hk => (hn k hk).2.2.2⟩
  rw [heap_setCell_same W db 5 _ _ _ h.bx]
  rfl
/-- One more is done. -/
theorem DLay.addU {W : World} {db : Nat} {D : Wd} {st sq : List Int} {wt : List M} {dn : List Dn} {sv qv tv uv : Value} (h : DLay W db D st sq wt dn sv qv tv uv) (x : Dn) (nb : Nat) (hx : W.heap[nb]? = some (.cells (dcs x) 40 (0, 0))) (hl : dn.length ≤ 100000) (ty : TypeId) :
    ∃ a' c' w', (Builtin.append_ #[48, 48] ty #[uv, .slice (some ⟨nb, 0, none⟩) 1 1]).run Tryz.prog W = .ok (.slice a' (dn.length + 1) c') w' ∧ w'.frozen? ⟨db, 6, none⟩ = false ∧ w'.cell? ⟨db, 6, none⟩ = some uv ∧ DLay (w'.setCell ⟨db, 6, none⟩ (.slice a' (dn.length + 1) c')) db D st sq wt (dn ++ [x]) sv qv tv (.slice a' (dn.length + 1) c') ∧ Fr (fun k => k = db ∨ uv.ownBlock = some k) W (w'.setCell ⟨db, 6, none⟩ (.slice a' (dn.length + 1) c')) ∧ (∀ k, (Value.slice a' (dn.length + 1) c').ownBlock = some k → uv.ownBlock = some k ∨ W.heap.size ≤ k) := by
  obtain ⟨i0, hi0, hz0, hz1, hz2⟩ := info_parts infoD
  obtain ⟨v', w', hr, h3, h4, h5, h6⟩ := run_append_own_at (P := Tryz.prog) W 0 48 ty 40 i0 _ 7 56 Tryz.underlying48 hi0 hz0 hz1 hz2 rfl (by decide) uv dn.length (flatD dn) h.u ⟨nb, 0, none⟩ 1 1 (flatD [x]) (flatD_len [x]) (fun j u hj => by
    rw [Addr.add_lit, Nat.zero_add]
    have e : flatD [x] = encD x := by simp [flatD]
    rw [e] at hj
    simp [World.cell?, hx]
    simpa [encD] using hj) (flatD_one _) (by unfold maxLen; omega) (by omega) (Nat.zero_le _)
  have hro : w'.ownsRow 0 40 7 v' (dn ++ [x]).length (flatD (dn ++ [x])) := by
    rw [flatD_append, List.length_append]
    exact h3
  obtain ⟨a', c', rfl⟩ := shape_of hro
  have hlen : (dn ++ [x]).length = dn.length + 1 := by simp
  rw [hlen] at hr hro h6
  have hv' : ∀ k, (Value.slice a' (dn.length + 1) c').ownBlock = some k → uv.ownBlock = some k ∨ W.heap.size ≤ k := fun k e => by
    rcases h6 with h6 | h6
    · exact .inl (h6.symm.trans e)
    · right
      rw [h6] at e
      simp at e
      omega
  have f4 : Fr (fun k => uv.ownBlock = some k) W w' := H.fr_of_grown h4
  have ldb := h.lt db (.inl rfl)
  have hbx : w'.heap[db]? = some (.cells (gcs D sv qv tv uv) 77 (0, 0)) := (f4.block db ldb h.nu).trans h.bx
  have g0 : Fr (fun k => k = db) w' w' := Fr.refl _ w'
  have g1 := g0.setCell ⟨db, 6, none⟩ (.slice a' (dn.length + 1) c') rfl
  have fa : Fr (fun k => k = db ∨ uv.ownBlock = some k) W (w'.setCell ⟨db, 6, none⟩ (.slice a' (dn.length + 1) c')) := (f4.wide (fun k hk => .inr hk)).then (g1.wide (fun k hk => .inl hk))
  have hne : ∀ k, (Value.slice a' (dn.length + 1) c').ownBlock = some k → k ≠ db ∧ sv.ownBlock ≠ some k ∧ qv.ownBlock ≠ some k ∧ tv.ownBlock ≠ some k := fun k hk => by
    rcases hv' k hk with g | g
    · exact ⟨fun e => h.nu (by rw [g, e]), fun e => h.su' k e g, fun e => h.qu' k e g, fun e => h.tu' k e g⟩
    · exact ⟨by omega, fun e => by have := (own_lt h.s e).1; omega, fun e => by have := (own_lt h.q e).1; omega, fun e => by have := (own_lt h.t e).1; omega⟩
  refine ⟨a', c', w', hr, by simp [World.frozen?, hbx], by simp [World.cell?, hbx, gcs], ⟨?_, own_keep h.s fa ?_, own_keep h.q fa ?_, own_keep h.t fa ?_, ?_, h.ns, h.nq, h.nt, fun e => (hne db e).1 rfl, h.sq', h.st', fun k hk e => (hne k e).2.1 hk, h.qt', fun k hk e => (hne k e).2.2.1 hk, fun k hk e => (hne k e).2.2.2 hk⟩, fa, hv'⟩
  · rw [heap_setCell_same w' db 6 _ _ _ hbx]
    rfl
  · rintro k hk (e | e)
    · exact h.ns (by rw [hk, e])
    · exact h.su' k hk e
  · rintro k hk (e | e)
    · exact h.nq (by rw [hk, e])
    · exact h.qu' k hk e
  · rintro k hk (e | e)
    · exact h.nt (by rw [hk, e])
    · exact h.tu' k hk e
  · rw [hlen]
    exact own_keep hro g1 (fun k hk => (hne k hk).1)
/-- A number more behind the states, or behind what was sent. -/
theorem addI {W : World} {v : Value} {l : List Int} (h : W.ownsRow 0 3 1 v l.length (ints l)) (x : Int) (nb : Nat) (hx : W.heap[nb]? = some (.cells #[.int .i64 x] 3 (0, 0))) (hl : l.length ≤ 100000) (ty : TypeId) (X : List Int) (hX : l ++ [x] = X) :
    ∃ a' c' w', (Builtin.append_ #[22, 22] ty #[v, .slice (some ⟨nb, 0, none⟩) 1 1]).run Tryz.prog W = .ok (.slice a' X.length c') w' ∧ w'.ownsRow 0 3 1 (.slice a' X.length c') X.length (ints X) ∧ Fr (fun k => v.ownBlock = some k) W w' ∧ (∀ k, (Value.slice a' X.length c').ownBlock = some k → v.ownBlock = some k ∨ W.heap.size ≤ k) := by
  obtain ⟨i0, hi0, hz0, hz1, hz2⟩ := info_parts infoI
  obtain ⟨v', w', hr, h3, h4, h5, h6⟩ := run_append_own_at (P := Tryz.prog) W 0 22 ty 3 i0 _ 1 8 Tryz.underlying22 hi0 hz0 hz1 hz2 rfl (by decide) v l.length (ints l) h ⟨nb, 0, none⟩ 1 1 (ints [x]) rfl (fun j u hj => by
    rw [Addr.add_lit, Nat.zero_add]
    simp [World.cell?, hx]
    simpa [ints] using hj) (fun v hv => by simp [ints] at hv; subst hv; rfl) (by unfold maxLen; omega) (by omega) (Nat.zero_le _)
  have hro : w'.ownsRow 0 3 1 v' X.length (ints X) := by
    rw [← hX, ints, List.map_append, List.length_append]
    exact h3
  obtain ⟨a', c', rfl⟩ := shape_of hro
  refine ⟨a', c', w', hr, hro, H.fr_of_grown h4, fun k e => ?_⟩
  rcases h6 with h6 | h6
  · exact .inl (h6.symm.trans e)
  · right
    rw [h6] at e
    simp at e
    omega
/-- A run of the document's, with what it is as plain data. -/
def DocF (db : Nat) (D : Wd) (r : Rn) (W : World) (F : Nat → Prop) : Prop := ∃ sv qv tv uv, DLay W db D r.st r.sq r.wt r.dn sv qv tv uv ∧ Inv D r ∧ OkD D ∧ r.wt.length ≤ 256 + 24 * r.dn.length ∧ F = FD db sv qv tv uv
theorem thD (db : Nat) (D : Wd) (r : Rn) : Th (DocF db D r) := by
  refine ⟨?_, ?_⟩
  · rintro w F ⟨sv, qv, tv, uv, h, _, _, _, rfl⟩ k hk
    exact h.lt k hk
  · rintro S w w' F ⟨sv, qv, tv, uv, h, h1, h2, h3, rfl⟩ hf hS
    exact ⟨sv, qv, tv, uv, h.keep hf hS, h1, h2, h3, rfl⟩
theorem own_int {W : World} {b0 g n c : Nat} {l : List Int} (h : W.ownsRow b0 3 1 (.slice (some ⟨g, 0, none⟩) n c) n (ints l)) (hl : l.length = n) {i : Nat} (hi : i < n) : W.cell? ⟨g, i, none⟩ = some (.int .i64 (nthI l i)) ∧ W.frozen? ⟨g, i, none⟩ = false := by
  refine ⟨?_, World.ownsRow.frozenAt h i⟩
  rw [World.ownsRow.cellAt h i (by omega)]
  simp [ints, nthI, show i < l.length by omega]
end Go.Proofs.YtmfcbalhabcodaaGreat
