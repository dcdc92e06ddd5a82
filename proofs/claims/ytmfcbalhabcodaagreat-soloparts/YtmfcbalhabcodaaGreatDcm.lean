/- Proved: the end of a step of the document's run; what is held on the way. -/
import Derived.Test.YtmfcbalhabcodaaGreatDc3
namespace Go.Proofs.YtmfcbalhabcodaaGreat
open Go.RowKit Go.Shelf
set_option linter.unusedVariables false

theorem rowM_own {w W : World} {v : Value} {l : List M} (h : RowM w W v l) : W.ownsRow 0 38 6 v l.length (flatM l) := own_since h.1 (Nat.zero_le _)
theorem own_rdM {W : World} {b0 c : Nat} {a : Option Addr} {l : List M} (h : W.ownsRow b0 38 6 (.slice a l.length c) l.length (flatM l)) : RdM W a l := by
  intro hl
  obtain ⟨g, hg⟩ := own_some h (List.length_pos_iff.2 hl)
  subst hg
  refine ⟨g, 0, rfl, (own_lt h rfl).1, fun i hi c hc => ?_⟩
  rw [Nat.zero_add, World.ownsRow.cellAt h _ (by omega), flatM_get l i c hi hc]
theorem own_rdO {W : World} {b0 c : Nat} {a : Option Addr} {l : List O} (h : W.ownsRow b0 64 3 (.slice a l.length c) l.length (flatO l)) : RdO W a l := by
  intro hl
  obtain ⟨g, hg⟩ := own_some h (List.length_pos_iff.2 hl)
  subst hg
  refine ⟨g, 0, rfl, (own_lt h rfl).1, fun i hi c hc => ?_⟩
  rw [Nat.zero_add, World.ownsRow.cellAt h _ (by omega), flatO_get l i c hi hc]

/-- The middle of a step, with the messages left and what is sent, in rows made since. -/
structure DR (w0 w : World) (F : Nat → Prop) (db : Nat) (D : Wd) (A MB : Nat) (m : M) (W : World) (st sq : List Int) (wt : List M) (dn : List Dn) (sv qv tv uv rv ov : Value) (rest : List M) (os : List O) : Prop where
  mid : DMid w0 w F db D A MB m W st sq wt dn sv qv tv uv
  r : W.ownsRow 0 38 6 rv rest.length (flatM rest)
  rn : ∀ k, rv.ownBlock = some k → MB < k
  o : W.ownsRow 0 64 3 ov os.length (flatO os)
  on : ∀ k, ov.ownBlock = some k → MB < k
theorem DR.below {w0 w : World} {F : Nat → Prop} {db : Nat} {D : Wd} {A MB : Nat} {m : M} {W W' : World} {st sq : List Int} {wt : List M} {dn : List Dn} {sv qv tv uv rv ov : Value} {rest : List M} {os : List O} (h : DR w0 w F db D A MB m W st sq wt dn sv qv tv uv rv ov rest os) (hb : Below W.heap.size W W') : DR w0 w F db D A MB m W' st sq wt dn sv qv tv uv rv ov rest os :=
  ⟨h.mid.below hb, own_below h.r hb, h.rn, own_below h.o hb, h.on⟩
theorem DR.setS {w0 w : World} {F : Nat → Prop} {db : Nat} {D : Wd} {A MB : Nat} {m : M} {W : World} {st sq : List Int} {wt : List M} {dn : List Dn} {g c n : Nat} {qv tv uv rv ov : Value} {rest : List M} {os : List O} (h : DR w0 w F db D A MB m W st sq wt dn (.slice (some ⟨g, 0, none⟩) n c) qv tv uv rv ov rest os) (hn : st.length = n) (f : Nat) (x : Int) (hg : F g) (hl : g < w.heap.size) (hF : ∀ k, F k → w0.heap.size ≤ k) : DR w0 w F db D A MB m (W.setCell ⟨g, f, none⟩ (.int .i64 x)) (st.set f x) sq wt dn (.slice (some ⟨g, 0, none⟩) n c) qv tv uv rv ov rest os := by
  have g0 : Fr (fun k => k = g) W W := Fr.refl _ W
  have g1 := g0.setCell ⟨g, f, none⟩ (.int .i64 x) rfl
  have h1 := h.mid.lA
  have h2 := h.mid.lM
  refine ⟨h.mid.write (h.mid.lay.setS hn f x) (fun k => k = g) g1 (fun k hk => by rw [hk]; exact ⟨hg, hl⟩) hF, own_keep h.r g1 (fun k hk e => ?_), h.rn, own_keep h.o g1 (fun k hk e => ?_), h.on⟩
  · have := h.rn k hk; omega
  · have := h.on k hk; omega
theorem DMid.setQ {w0 w : World} {F : Nat → Prop} {db : Nat} {D : Wd} {A MB : Nat} {m : M} {W : World} {st sq : List Int} {wt : List M} {dn : List Dn} {g c n : Nat} {sv tv uv : Value} (h : DMid w0 w F db D A MB m W st sq wt dn sv (.slice (some ⟨g, 0, none⟩) n c) tv uv) (hn : sq.length = n) (f : Nat) (x : Int) (hg : F g) (hl : g < w.heap.size) (hF : ∀ k, F k → w0.heap.size ≤ k) : DMid w0 w F db D A MB m (W.setCell ⟨g, f, none⟩ (.int .i64 x)) st (sq.set f x) wt dn sv (.slice (some ⟨g, 0, none⟩) n c) tv uv := by
  have g0 : Fr (fun k => k = g) W W := Fr.refl _ W
  have g1 := g0.setCell ⟨g, f, none⟩ (.int .i64 x) rfl
  exact h.write (h.lay.setQ hn f x) (fun k => k = g) g1 (fun k hk => by rw [hk]; exact ⟨hg, hl⟩) hF
theorem DMid.setT {w0 w : World} {F : Nat → Prop} {db : Nat} {D : Wd} {A MB : Nat} {m : M} {W : World} {st sq : List Int} {wt wt' : List M} {dn : List Dn} {sv qv tv uv tv' : Value} (h : DMid w0 w F db D A MB m W st sq wt dn sv qv tv uv) (ht : W.ownsRow 0 38 6 tv' wt'.length (flatM wt')) (hn : ∀ k, tv'.ownBlock = some k → MB < k) (hlt : ∀ k, (k = db ∨ sv.ownBlock = some k ∨ qv.ownBlock = some k ∨ uv.ownBlock = some k) → k < w.heap.size) (hg : F db) (hF : ∀ k, F k → w0.heap.size ≤ k) : DMid w0 w F db D A MB m (W.setCell ⟨db, 5, none⟩ tv') st sq wt' dn sv qv tv' uv := by
  have h1 := h.lA
  have h2 := h.lM
  have g0 : Fr (fun k => k = db) W W := Fr.refl _ W
  have g1 := g0.setCell ⟨db, 5, none⟩ tv' rfl
  refine h.write (h.lay.setT ht (fun k hk => ?_)) (fun k => k = db) g1 (fun k hk => by rw [hk]; exact ⟨hg, hlt db (.inl rfl)⟩) hF
  have h3 := hn k hk
  refine ⟨fun e => ?_, fun e => ?_, fun e => ?_, fun e => ?_⟩
  · have := hlt k (.inl e); omega
  · have := hlt k (.inr (.inl e)); omega
  · have := hlt k (.inr (.inr (.inl e))); omega
  · have := hlt k (.inr (.inr (.inr e))); omega
/-- The end of a step. -/
theorem DMid.finish {w0 w : World} {F : Nat → Prop} {db : Nat} {D : Wd} {A MB : Nat} {m : M} {W : World} {st sq : List Int} {wt : List M} {dn : List Dn} {sv qv tv uv : Value} (h : DMid w0 w F db D A MB m W st sq wt dn sv qv tv uv) (x : Dn) (hl : dn.length ≤ 100000) (ty : TypeId) (hF : F db) (hFu : ∀ k, uv.ownBlock = some k → F k) (hA : ∀ k, FD db sv qv tv uv k → k ≠ A) (hM : A < W.heap.size) :
    ∃ a' c' w', (Builtin.append_ #[48, 48] ty #[uv, .slice (some ⟨W.heap.size + 1, 0, none⟩) 1 1]).run Tryz.prog ((W.alloc (.cells (dcs x) 40)).alloc (.cells (dcs x) 40)).drew = .ok (.slice a' (dn.length + 1) c') w' ∧ w'.frozen? ⟨db, 6, none⟩ = false ∧ w'.cell? ⟨db, 6, none⟩ = some uv ∧
      (w'.setCell ⟨db, 6, none⟩ (.slice a' (dn.length + 1) c')).heap[W.heap.size]? = some (.cells (dcs x) 40 (0, 0)) ∧
      (w'.setCell ⟨db, 6, none⟩ (.slice a' (dn.length + 1) c')).heap[A]? = some (.cells (dcs zeroD) 40 (0, 0)) ∧
      DLay (set7 (w'.setCell ⟨db, 6, none⟩ (.slice a' (dn.length + 1) c')) A x) db D st sq wt (dn ++ [x]) sv qv tv (.slice a' (dn.length + 1) c') ∧
      Fr F w (set7 (w'.setCell ⟨db, 6, none⟩ (.slice a' (dn.length + 1) c')) A x) ∧
      (∀ k, (Value.slice a' (dn.length + 1) c').ownBlock = some k → uv.ownBlock = some k ∨ w.heap.size ≤ k) := by
  obtain ⟨W1, hW1⟩ : ∃ W1, W1 = W.alloc (.cells (dcs x) 40) := ⟨_, rfl⟩
  have hb1 : Below W.heap.size W W1 := by rw [hW1]; exact al _ _
  have hDB : W1.heap[W.heap.size]? = some (.cells (dcs x) 40 (0, 0)) := by rw [hW1]; exact World.alloc_heap_new W _
  have l1 : W1.heap.size = W.heap.size + 1 := by rw [hW1]; simp
  rw [← hW1]
  obtain ⟨W2, hW2⟩ : ∃ W2, W2 = (W1.alloc (.cells (dcs x) 40)).drew := ⟨_, rfl⟩
  have hb2 : Below W1.heap.size W1 W2 := by rw [hW2]; exact (al W1 _).drew
  have hNB : W2.heap[W.heap.size + 1]? = some (.cells (dcs x) 40 (0, 0)) := by
    have := World.alloc_heap_new W1 (.cells (dcs x) 40)
    rw [l1] at this
    rw [hW2]
    exact this
  rw [← hW2]
  have h2 := (h.below hb1).below hb2
  obtain ⟨a', c', w', r1, r2, r3, r4, r5, r6⟩ := h2.lay.addU x (W.heap.size + 1) hNB hl ty
  have ldb := h.lay.lt db (.inl rfl)
  have hlu : ∀ k, uv.ownBlock = some k → k < W.heap.size := fun k hk => h.lay.lt k (.inr (.inr (.inr (.inr hk))))
  have hsz := h.fr.size
  have s2 := hb2.size
  have hv : ∀ k, (Value.slice a' (dn.length + 1) c').ownBlock = some k → uv.ownBlock = some k ∨ W.heap.size < k := fun k hk => by
    rcases r6 k hk with g | g
    · exact .inl g
    · exact .inr (by omega)
  have hWb : (w'.setCell ⟨db, 6, none⟩ (.slice a' (dn.length + 1) c')).heap[W.heap.size]? = some (.cells (dcs x) 40 (0, 0)) := by
    refine (r5.block _ (by omega) (fun e => ?_)).trans ((hb2.block _ (by omega)).trans hDB)
    rcases e with e | e
    · omega
    · have := hlu _ e; omega
  have hWA : (w'.setCell ⟨db, 6, none⟩ (.slice a' (dn.length + 1) c')).heap[A]? = some (.cells (dcs zeroD) 40 (0, 0)) := by
    refine (r5.block _ (by omega) (fun e => ?_)).trans h2.ba
    rcases e with e | e
    · exact hA db (.inl rfl) e.symm
    · exact hA A (.inr (.inr (.inr (.inr e)))) rfl
  have frF : Fr F w (w'.setCell ⟨db, 6, none⟩ (.slice a' (dn.length + 1) c')) := h2.fr.trans r5 (fun k hk e => by
    rcases e with e | e
    · rw [e]; exact hF
    · exact hFu k e)
  have s7 := set7_fr (A := A) (Fr.refl (fun k => k = A) (w'.setCell ⟨db, 6, none⟩ (.slice a' (dn.length + 1) c'))) (.inl rfl) x
  refine ⟨a', c', w', r1, r2, r3, hWb, hWA, r4.keep s7 ?_, set7_fr frF (.inr h.lA) x, fun k hk => (hv k hk).elim .inl (fun g => .inr (by omega))⟩
  rintro k (e | e | e | e | e) g
  · exact hA k (.inl e) g
  · exact hA k (.inr (.inl e)) g
  · exact hA k (.inr (.inr (.inl e))) g
  · exact hA k (.inr (.inr (.inr (.inl e)))) g
  · rcases hv k e with g2 | g2
    · exact hA k (.inr (.inr (.inr (.inr g2)))) g
    · omega
end Go.Proofs.YtmfcbalhabcodaaGreat
