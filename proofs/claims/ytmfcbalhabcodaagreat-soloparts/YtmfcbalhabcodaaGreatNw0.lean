/- Proved: how a new run is put together, as memory and as plain data. -/
import Derived.Test.YtmfcbalhabcodaaGreatRun
import Derived.Test.YtmfcbalhabcodaaGreatKep
namespace Go.Proofs.YtmfcbalhabcodaaGreat
open Go.RowKit Go.Shelf
set_option linter.unusedVariables false

theorem sts_len {D : Wd} (h : OkD D) : (sts D).length ≤ 256 := by
  have : ∀ k, k ≤ D.fs.length → (stsF D k).length ≤ k * 32 := by
    intro k
    induction k with
    | zero => intro _; simp [stsF]
    | succ k ih =>
      intro hk
      rw [stsF_succ, List.length_append]
      have h1 := ih (by omega)
      have h2 := sprF_len (d := D) (m := 8) h.ln.2 (k : Int) 0 0 0 (nthF D.fs k).is (nthF D.fs k).is.length
      have h3 := fed_ok2 (h.fe _ (nthF_mem (l := D.fs) (i := k) (by omega)))
      have h4 : (spr D (k : Int) 0 0 0 (nthF D.fs k).is).length ≤ (nthF D.fs k).is.length * 8 := h2
      omega
  have h1 := this D.fs.length (Nat.le_refl _)
  have h2 := h.ln.2
  unfold sts
  omega
abbrev e0 (g : Fd) : Fe := ⟨g.st, g.is.length, none, 0, []⟩
def newE (fs : List Fd) (k : Nat) : List Fe := (List.range k).map (fun i => e0 (nthF fs i))
theorem newE_len (fs : List Fd) (k : Nat) : (newE fs k).length = k := by simp [newE]
theorem newE_succ (fs : List Fd) (k : Nat) : newE fs (k + 1) = newE fs k ++ [e0 (nthF fs k)] := by simp [newE, List.range_succ]
theorem newE_nth (fs : List Fd) {k i : Nat} (h : i < k) : nthE (newE fs k) i = e0 (nthF fs i) := by simp [newE, nthE, h]
/-- As it begins: no federates yet, nothing waits. -/
theorem Lay.begin {w1 w2 : World} {D : Wd} (hw : Ww (mask (fun k => decide (k < w1.heap.size)) w2) D) (hb : w1.heap.size ≤ w2.heap.size) :
    Lay (((w2.alloc (.cells #[] 38)).alloc (.cells #[.slice (some ⟨w2.heap.size, 0, none⟩) 0 0] 67)).alloc (.cells (rcs D (.slice none 0 0) (w2.heap.size + 1)) 70)) (w2.heap.size + 1 + 1) w1.heap.size w2.heap.size D (.slice none 0 0) (.slice (some ⟨w2.heap.size, 0, none⟩) 0 0) (w2.heap.size + 1) [] [] := by
  obtain ⟨W1, hW1⟩ : ∃ W1, W1 = w2.alloc (.cells #[] 38) := ⟨_, rfl⟩
  obtain ⟨W2, hW2⟩ : ∃ W2, W2 = W1.alloc (.cells #[.slice (some ⟨w2.heap.size, 0, none⟩) 0 0] 67) := ⟨_, rfl⟩
  rw [← hW1, ← hW2]
  have s1 : W1.heap.size = w2.heap.size + 1 := by rw [hW1]; simp
  have s2 : W2.heap.size = w2.heap.size + 1 + 1 := by rw [hW2]; simp [s1]
  have b1 : Below w2.heap.size w2 W1 := by rw [hW1]; exact al _ _
  have b2 : Below W1.heap.size W1 W2 := by rw [hW2]; exact al _ _
  have b3 := al W2 (.cells (rcs D (.slice none 0 0) (w2.heap.size + 1)) 70)
  have b12 := b1.trans (b2.mono b1.size)
  have b := b12.trans (b3.mono b12.size)
  have hown : W1.ownsRow 0 38 6 (.slice (some ⟨w2.heap.size, 0, none⟩) 0 0) 0 [] := by rw [hW1]; exact World.ownsRow_made w2 #[] 0 (Nat.zero_le _) (Nat.zero_le _) (by simp)
  have hpb : W2.heap[w2.heap.size + 1]? = some (.cells #[.slice (some ⟨w2.heap.size, 0, none⟩) 0 0] 67 (0, 0)) := by
    have := World.alloc_heap_new W1 (.cells #[.slice (some ⟨w2.heap.size, 0, none⟩) 0 0] 67)
    rw [s1] at this
    rw [hW2]
    exact this
  have hP : Pil W2 (w2.heap.size + 1) (.slice (some ⟨w2.heap.size, 0, none⟩) 0 0) [] := by
    refine ⟨[], ⟨hpb, own_below hown b2, by simp [Value.ownBlock], by simp⟩, fun c _ hc => by simp at hc, List.Perm.refl _⟩
  refine ⟨⟨w2, rfl, hw, fun k k1 k2 => b.block k k2⟩, hb, b.size, ?_, World.ownsRow_nil _ _ _ _, fun i hi => by simp at hi, hP.below b3, by omega, by omega, fun k hk => by simp [Value.ownBlock] at hk; omega, by omega, by simp [Value.ownBlock], ⟨by simp [Value.ownBlock]; omega, fun k hk => by simp [Value.ownBlock]⟩, fun i hi => by simp at hi, fun i j hi => by simp at hi⟩
  have := World.alloc_heap_new W2 (.cells (rcs D (.slice none 0 0) (w2.heap.size + 1)) 70)
  rw [s2] at this
  exact this
/-- One federate more. -/
theorem Lay.addFed {W : World} {rb lo hi : Nat} {D : Wd} {fv pv : Value} {pb : Nat} {wt : List M} {E : List Fe} (h : Lay W rb lo hi D fv pv pb wt E) (g : Fd) (nb : Nat) (hx : W.heap[nb]? = some (.cells #[.int .i64 g.st, .int .i64 g.is.length, .slice none 0 0] 72 (0, 0))) (hl : E.length ≤ 1000) (ty : TypeId) (X : List Fe) (hX : E ++ [e0 g] = X) :
    ∃ a' c' w', (Builtin.append_ #[68, 68] ty #[fv, .slice (some ⟨nb, 0, none⟩) 1 1]).run Tryz.prog W = .ok (.slice a' X.length c') w' ∧ w'.frozen? ⟨rb, 3, none⟩ = false ∧ w'.cell? ⟨rb, 3, none⟩ = some fv ∧ Lay (w'.setCell ⟨rb, 3, none⟩ (.slice a' X.length c')) rb lo hi D (.slice a' X.length c') pv pb wt X ∧ Below hi W (w'.setCell ⟨rb, 3, none⟩ (.slice a' X.length c')) ∧ Fr (fun k => hi ≤ k) W (w'.setCell ⟨rb, 3, none⟩ (.slice a' X.length c')) := by
  obtain ⟨i0, hi0, hz0, hz1, hz2⟩ := info_parts infoE
  obtain ⟨v', w', hr, h3, h4, h5, h6⟩ := run_append_own_at (P := Tryz.prog) W hi 68 ty 72 i0 _ 3 40 Tryz.underlying68 hi0 hz0 hz1 hz2 rfl (by decide) fv E.length (flatE E) h.row ⟨nb, 0, none⟩ 1 1 (flatE [e0 g]) (flatE_len _) (fun j u hj => by
    rw [Addr.add_lit, Nat.zero_add]
    have e : flatE [e0 g] = encE (e0 g) := by simp [flatE]
    rw [e] at hj
    simp [World.cell?, hx]
    simpa [encE, lv] using hj) (flatE_one _) (by unfold maxLen; omega) (by omega) h.hs
  have hro : w'.ownsRow hi 72 3 v' X.length (flatE X) := by
    rw [← hX, flatE_append, List.length_append]
    exact h3
  obtain ⟨a', c', rfl⟩ := shape_of hro
  have f4 : Fr (fun k => fv.ownBlock = some k) W w' := H.fr_of_grown h4
  have lrb := h.lt rb (.inr (.inl rfl))
  have hbx : w'.heap[rb]? = some (.cells (rcs D fv pb) 70 (0, 0)) := (f4.block rb lrb h.n2.1).trans h.bx
  have hv' : ∀ k, (Value.slice a' X.length c').ownBlock = some k → fv.ownBlock = some k ∨ W.heap.size ≤ k := fun k e => by
    rcases h6 with h6 | h6
    · exact .inl (h6.symm.trans e)
    · right
      rw [h6] at e
      simp at e
      omega
  have g0 : Fr (fun k => k = rb) w' w' := Fr.refl _ w'
  have g1 := g0.setCell ⟨rb, 3, none⟩ (.slice a' X.length c') rfl
  have fa : Fr (fun k => k = rb ∨ fv.ownBlock = some k) W (w'.setCell ⟨rb, 3, none⟩ (.slice a' X.length c')) := (f4.wide (fun k hk => .inr hk)).then (g1.wide (fun k hk => .inl hk))
  have fh : Fr (fun k => hi ≤ k) W (w'.setCell ⟨rb, 3, none⟩ (.slice a' X.length c')) := fa.wide (fun k hk => by
    rcases hk with rfl | hk
    · exact h.hrb
    · exact (own_lt h.row hk).2)
  obtain ⟨W1, w1, w2, w3⟩ := h.ww
  have hXl : X.length = E.length + 1 := by rw [← hX]; simp
  have hnt : ∀ i, i < X.length → nthE X i = if i < E.length then nthE E i else e0 g := fun i hi => by
    rw [← hX] at hi ⊢
    unfold nthE
    by_cases e : i < E.length
    · rw [if_pos e]; simp [List.getElem?_append_left e]
    · have e2 : i = E.length := by simp at hi; omega
      subst e2
      simp
  have lpb := h.pil.lt pb (.inl rfl)
  refine ⟨a', c', w', hr, by simp [World.frozen?, hbx], by simp [World.cell?, hbx, rcs], ⟨⟨W1, w1, w2, fun k k1 k2 => (fh.block k (Nat.lt_of_lt_of_le k2 h.hs) (by omega)).trans (w3 k k1 k2)⟩, h.hl, Nat.le_trans h.hs fh.size, ?_, own_keep hro g1 (fun k hk e => ?_), fun i hi => ?_, h.pil.keep fa (fun k hk e => ?_), h.hrb, h.hpb, h.hpv, h.n1, ⟨fun e => ?_, fun e => ?_⟩, ⟨h.n3.1, fun k hk e => ?_⟩, fun i hi k hk => ?_, fun i j hi hj hij k hk => ?_⟩, fh.below h.hs (fun i hi => hi), fh⟩
  · rw [heap_setCell_same w' rb 3 _ _ _ hbx]
    rfl
  · rcases hv' k hk with g | g
    · exact h.n2.1 (by rw [g, e])
    · omega
  · rw [hnt i hi]
    split
    · rename_i e
      exact own_keep (h.lgs i e) fa (fun g hg e2 => by
        rcases e2 with e2 | e2
        · exact (h.n4 i e g hg).1 e2
        · exact (h.n4 i e g hg).2.2.1 e2)
    · exact World.ownsRow_nil _ _ _ _
  · rcases e with e | e
    · subst e
      rcases hk with rfl | hk
      · exact h.n1 rfl
      · exact h.n3.1 hk
    · rcases hk with rfl | hk
      · exact h.n2.2 e
      · exact h.n3.2 k hk e
  · rcases hv' rb e with g | g
    · exact h.n2.1 g
    · omega
  · rcases hv' pb e with g | g
    · exact h.n2.2 g
    · omega
  · rcases hv' k e with g | g
    · exact h.n3.2 k hk g
    · have := h.pil.lt k (.inr hk); omega
  · rw [hnt i hi] at hk
    split at hk
    · rename_i e
      obtain ⟨a1, a2, a3, a4⟩ := h.n4 i e k hk
      refine ⟨a1, a2, fun e2 => ?_, a4⟩
      rcases hv' k e2 with g | g
      · exact a3 g
      · have := (own_lt (h.lgs i e) hk).1; omega
    · simp [Value.ownBlock] at hk
  · rw [hnt i hi] at hk
    rw [hnt j hj]
    split at hk
    · split
      · exact h.n5 i j ‹_› ‹_› hij k hk
      · simp [Value.ownBlock]
    · simp [Value.ownBlock] at hk
end Go.Proofs.YtmfcbalhabcodaaGreat
