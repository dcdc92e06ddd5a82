/- Proved: what stays while a run takes its next message; its end, as memory. -/
import Derived.Test.YtmfcbalhabcodaaGreatNx0
namespace Go.Proofs.YtmfcbalhabcodaaGreat
open Go.RowKit Go.Shelf
set_option linter.unusedVariables false

structure Mid (w : World) (F : Nat → Prop) (rb lo hi : Nat) (D : Wd) (fv : Value) (pb : Nat) (E : List Fe) (A MB : Nat) (m : M) (W : World) (pv : Value) (wt : List M) : Prop where
  lay : Lay W rb lo hi D fv pv pb wt E
  fr : Fr F w W
  bm : BoxM W MB m
  ba : W.heap[A]? = some (.cells (dcs zeroD) 40 (0, 0))
  na : ¬ H.FP pb pv A
  nm : ¬ H.FP pb pv MB
  old : ∀ k, k < w.heap.size → H.FP pb pv k → F k
  lA : w.heap.size ≤ A
  lM : A < MB
  fx : ∀ k, (fv.ownBlock = some k ∨ ∃ i, i < E.length ∧ (lv (nthE E i)).ownBlock = some k) → k < w.heap.size
theorem Mid.below {w : World} {F : Nat → Prop} {rb lo hi : Nat} {D : Wd} {fv : Value} {pb : Nat} {E : List Fe} {A MB : Nat} {m : M} {W W' : World} {pv : Value} {wt : List M} (h : Mid w F rb lo hi D fv pb E A MB m W pv wt) (hb : Below W.heap.size W W') : Mid w F rb lo hi D fv pb E A MB m W' pv wt :=
  ⟨h.lay.below hb, h.fr.then (Fr.of_below hb), h.bm.below hb, (hb.block A (Array.getElem?_eq_some_iff.1 h.ba).1).trans h.ba, h.na, h.nm, h.old, h.lA, h.lM, h.fx⟩
theorem Mid.pile {w : World} {F : Nat → Prop} {rb lo hi : Nat} {D : Wd} {fv : Value} {pb : Nat} {E : List Fe} {A MB : Nat} {m : M} {W W' : World} {pv pv' : Value} {wt wt' : List M} (h : Mid w F rb lo hi D fv pb E A MB m W pv wt) (hp : Pil W' pb pv' wt') (hf : Fr (H.FP pb pv) W W') (hn : ∀ k, H.FP pb pv' k → H.FP pb pv k ∨ W.heap.size ≤ k) : Mid w F rb lo hi D fv pb E A MB m W' pv' wt' := by
  have lA2 : A < W.heap.size := (Array.getElem?_eq_some_iff.1 h.ba).1
  have lM2 := h.bm.lt
  refine ⟨h.lay.pile hp hf hn, h.fr.trans hf (fun k hk hk2 => h.old k hk hk2), h.bm.keep hf h.nm, (hf.block A lA2 h.na).trans h.ba, fun e => ?_, fun e => ?_, fun k hk e => ?_, h.lA, h.lM, h.fx⟩
  · rcases hn A e with g | g
    · exact h.na g
    · omega
  · rcases hn MB e with g | g
    · exact h.nm g
    · omega
  · rcases hn k e with g | g
    · exact h.old k hk g
    · have := h.fr.size; omega
theorem Lay.cast {W : World} {rb lo hi : Nat} {D : Wd} {fv fv' pv : Value} {pb : Nat} {wt : List M} {E : List Fe} (h : Lay W rb lo hi D fv pv pb wt E) (e : fv = fv') : Lay W rb lo hi D fv' pv pb wt E := e ▸ h
abbrev up1 (e : Fe) (s : Int) : Fe := ⟨s, e.sq, e.la, e.lc, e.lg⟩
abbrev up2 (e : Fe) (q : Int) : Fe := ⟨e.st, q, e.la, e.lc, e.lg⟩
/-- The end of a step: the federate's numbers are written, its log has one more. -/
theorem Mid.finish {w : World} {F : Nat → Prop} {rb lo hi : Nat} {D : Wd} {fb fc n : Nat} {pb : Nat} {E : List Fe} {A MB : Nat} {m : M} {W : World} {pv : Value} {wt : List M} (h : Mid w F rb lo hi D (.slice (some ⟨fb, 0, none⟩) n fc) pb E A MB m W pv wt) (hE : E.length = n) (f : Nat) (hf : f < n) (e : Fe) (he : nthE E f = e) (x : Dn) (q : Int) (hl : e.lg.length ≤ 100000)
    (hF1 : F fb) (hF2 : ∀ k, (lv e).ownBlock = some k → F k) (ty : TypeId) :
    ∃ a' c' w', (Builtin.append_ #[48, 48] ty #[.slice e.la e.lg.length e.lc, .slice (some ⟨W.heap.size + 1, 0, none⟩) 1 1]).run Tryz.prog ((((W.alloc (.cells (dcs x) 40)).setCell ⟨fb, f * 3, none⟩ (.int .i64 x.s)).setCell ⟨fb, f * 3 + 1, none⟩ (.int .i64 q)).alloc (.cells (dcs x) 40)).drew = .ok (.slice a' (e.lg.length + 1) c') w' ∧ w'.frozen? ⟨fb, f * 3 + 2, none⟩ = false ∧ w'.cell? ⟨fb, f * 3 + 2, none⟩ = some (.slice e.la e.lg.length e.lc) ∧
      (w'.setCell ⟨fb, f * 3 + 2, none⟩ (.slice a' (e.lg.length + 1) c')).heap[W.heap.size]? = some (.cells (dcs x) 40 (0, 0)) ∧
      (w'.setCell ⟨fb, f * 3 + 2, none⟩ (.slice a' (e.lg.length + 1) c')).heap[A]? = some (.cells (dcs zeroD) 40 (0, 0)) ∧
      Lay (set7 (w'.setCell ⟨fb, f * 3 + 2, none⟩ (.slice a' (e.lg.length + 1) c')) A x) rb lo hi D (.slice (some ⟨fb, 0, none⟩) n fc) pv pb wt (E.set f ⟨x.s, q, a', c', e.lg ++ [x]⟩) ∧
      Fr F w (set7 (w'.setCell ⟨fb, f * 3 + 2, none⟩ (.slice a' (e.lg.length + 1) c')) A x) ∧
      (∀ k, (Value.slice a' (e.lg.length + 1) c').ownBlock = some k → (lv e).ownBlock = some k ∨ w.heap.size ≤ k) := by
  subst he
  subst hE
  have hb1 := al W (.cells (dcs x) 40)
  have h1 := h.below hb1
  have hDB : (W.alloc (.cells (dcs x) 40)).heap[W.heap.size]? = some (.cells (dcs x) 40 (0, 0)) := World.alloc_heap_new W _
  have l1 : (W.alloc (.cells (dcs x) 40)).heap.size = W.heap.size + 1 := by simp
  obtain ⟨W1, hW1⟩ : ∃ W1, W1 = W.alloc (.cells (dcs x) 40) := ⟨_, rfl⟩
  rw [← hW1] at h1 hDB l1 ⊢
  have hfb : fb < W.heap.size ∧ hi ≤ fb := own_lt h.lay.row (g := fb) rfl
  have lA2 : A < W.heap.size := (Array.getElem?_eq_some_iff.1 h.ba).1
  have lfb : fb < w.heap.size := h.fx fb (.inl rfl)
  have hAfb : fb ≠ A := by have := h.lA; omega
  -- the state
  have L2 := h1.lay.num f 0 hf (by omega) (.int .i64 x.s) (up1 (nthE E f) x.s) rfl rfl rfl rfl
  rw [Nat.add_zero] at L2
  have hl1 : (E.set f (up1 (nthE E f) x.s)).length = E.length := List.length_set
  have hn1 : nthE (E.set f (up1 (nthE E f) x.s)) f = up1 (nthE E f) x.s := by rw [nthE_set _ _ _ _ hf, if_pos rfl]
  -- how many it has sent
  have L3 := L2.num f 1 (by rw [hl1]; exact hf) (by omega) (.int .i64 q) (up2 (up1 (nthE E f) x.s) q) (by rw [hn1]; rfl) (by rw [hn1]) (by rw [hn1]) (by rw [hn1])
  rw [List.set_set] at L3
  obtain ⟨W3, hW3⟩ : ∃ W3, W3 = (W1.setCell ⟨fb, f * 3, none⟩ (.int .i64 x.s)).setCell ⟨fb, f * 3 + 1, none⟩ (.int .i64 q) := ⟨_, rfl⟩
  rw [← hW3] at L3 ⊢
  have g0 : Fr (fun k => k = fb) W1 W1 := Fr.refl _ W1
  have g1 := g0.setCell ⟨fb, f * 3, none⟩ (.int .i64 x.s) rfl
  have g2 := g1.setCell ⟨fb, f * 3 + 1, none⟩ (.int .i64 q) rfl
  rw [← hW3] at g2
  have l3 : W3.heap.size = W.heap.size + 1 := by rw [hW3]; simp [l1]
  -- the log
  have hb4 : Below W3.heap.size W3 (W3.alloc (.cells (dcs x) 40)).drew := (al W3 _).drew
  have L4 := L3.below hb4
  have hNB : (W3.alloc (.cells (dcs x) 40)).drew.heap[W.heap.size + 1]? = some (.cells (dcs x) 40 (0, 0)) := by
    have := World.alloc_heap_new W3 (.cells (dcs x) 40)
    rw [l3] at this
    exact this
  have hl2 : (E.set f (up2 (up1 (nthE E f) x.s) q)).length = E.length := List.length_set
  have hn2 : nthE (E.set f (up2 (up1 (nthE E f) x.s) q)) f = up2 (up1 (nthE E f) x.s) q := by rw [nthE_set _ _ _ _ hf, if_pos rfl]
  obtain ⟨a', c', w', r1, r2, r3, r4, r5, r6, r7, r8⟩ := L4.logged f (by rw [hl2]; exact hf) x (W.heap.size + 1) hNB (by rw [hn2]; exact hl) ty
  rw [hn2] at r1 r3 r6 r7 r8
  rw [List.set_set] at r6
  have hWb : (w'.setCell ⟨fb, f * 3 + 2, none⟩ (.slice a' ((nthE E f).lg.length + 1) c')).heap[W.heap.size]? = some (.cells (dcs x) 40 (0, 0)) := by
    have e1 : W3.heap[W.heap.size]? = some (.cells (dcs x) 40 (0, 0)) := (g2.block _ (by omega) (by omega)).trans hDB
    refine (r7.block _ (by have := hb4.size; omega) (fun e => ?_)).trans ((hb4.block _ (by omega)).trans e1)
    rcases e with e | e
    · omega
    · have := (own_lt (h.lay.lgs f hf) e).1
      omega
  have hWA : (w'.setCell ⟨fb, f * 3 + 2, none⟩ (.slice a' ((nthE E f).lg.length + 1) c')).heap[A]? = some (.cells (dcs zeroD) 40 (0, 0)) := by
    have e1 : W3.heap[A]? = some (.cells (dcs zeroD) 40 (0, 0)) := (g2.block _ (by omega) (fun e => hAfb e.symm)).trans h1.ba
    refine (r7.block _ (by have := hb4.size; omega) (fun e => ?_)).trans ((hb4.block _ (by omega)).trans e1)
    rcases e with e | e
    · exact hAfb e.symm
    · have h5 := h.fx A (.inr ⟨f, hf, e⟩)
      have := h.lA
      omega
  have frF : Fr F w (w'.setCell ⟨fb, f * 3 + 2, none⟩ (.slice a' ((nthE E f).lg.length + 1) c')) := by
    have e1 := (h1.fr.trans g2 (fun k _ e => by rw [e]; exact hF1)).then (Fr.of_below hb4)
    exact e1.trans r7 (fun k hk e => by
      rcases e with e | e
      · rw [e]; exact hF1
      · exact hF2 k e)
  have L5 := r6.cast (fv' := .slice (some ⟨fb, 0, none⟩) E.length fc) (by rw [List.length_set])
  have s7 := set7_fr (A := A) (Fr.refl (fun k => k = A) (w'.setCell ⟨fb, f * 3 + 2, none⟩ (.slice a' ((nthE E f).lg.length + 1) c'))) (.inl rfl) x
  have hsz := h.fr.size
  have hv8 : ∀ k, (Value.slice a' ((nthE E f).lg.length + 1) c').ownBlock = some k → (lv (nthE E f)).ownBlock = some k ∨ W.heap.size < k := fun k hk => by
    rcases r8 k hk with g | g
    · exact .inl g
    · have := hb4.size; right; omega
  refine ⟨a', c', w', r1, r2, r3, hWb, hWA, L5.keep s7 ?_, set7_fr frF (.inr h.lA) x, fun k hk => (hv8 k hk).elim .inl (fun g => .inr (by omega))⟩
  rintro k (⟨k1, k2⟩ | rfl | hk | hk | ⟨i, hi', hk⟩) rfl
  · have := h.lay.hs
    have := h.lay.ww
    have h9 := h.lA
    have := h.lay.hrb
    have hA1 : k < hi := k2
    obtain ⟨W1', w1, w2, w3⟩ := h.lay.ww
    have := hfb.2
    omega
  · have hbx := h.lay.bx
    rw [h.ba] at hbx
    simp at hbx
  · have := h.fx k (.inl hk)
    have := h.lA
    omega
  · exact h.na hk
  · rw [List.length_set] at hi'
    rw [nthE_set _ _ _ _ hf] at hk
    have h9 := h.lA
    split at hk
    · rw [show lv ⟨x.s, q, a', c', (nthE E f).lg ++ [x]⟩ = .slice a' ((nthE E f).lg.length + 1) c' by simp [lv]] at hk
      rcases hv8 k hk with g | g
      · have := h.fx k (.inr ⟨f, hf, g⟩); omega
      · omega
    · have := h.fx k (.inr ⟨i, hi', hk⟩); omega
end Go.Proofs.YtmfcbalhabcodaaGreat
