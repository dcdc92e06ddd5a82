/- Proved: some clocks beside each other, a row of their pointers, a row of numbers; what becomes of them by calls and by what is put behind the rows. -/
import Derived.Test.YtmhopjpbhdficaaGp
import Derived.Laws.MakeOwn
namespace Go.Proofs.Ytmhopjpbhdficaa
open Go.RowKit Go.Shelf Go.Sort
set_option linter.unusedVariables false

/-! ### Rows of one-cell values -/
def Rw (W : World) (n0 e g cap : Nat) (xs : List Value) : Prop := W.ownsRow n0 e 1 (.slice (some ⟨g, 0, none⟩) xs.length cap) xs.length xs
theorem Rw.blk {W : World} {n0 e g cap : Nat} {xs : List Value} (h : Rw W n0 e g cap xs) : n0 ≤ g ∧ ∃ cur, W.heap[g]? = some (.cells cur e (0, 0)) := by
  rcases h.2 with ⟨h1, _⟩ | ⟨g', cap', cur, h1, h2, h3, _⟩
  · cases h1
  · cases h1; exact ⟨h2, cur, h3⟩
theorem Rw.lt {W : World} {n0 e g cap : Nat} {xs : List Value} (h : Rw W n0 e g cap xs) : g < W.heap.size := by
  obtain ⟨_, cur, hc⟩ := h.blk
  exact (Array.getElem?_eq_some_iff.1 hc).1
theorem Rw.keep {S : Nat → Prop} {W W' : World} {n0 e g cap : Nat} {xs : List Value} (h : Rw W n0 e g cap xs) (hf : Fr S W W') (hn : ¬ S g) : Rw W' n0 e g cap xs := by
  refine ⟨h.1, ?_⟩
  rcases h.2 with ⟨h1, _⟩ | ⟨g', cap', cur, h1, h2, h3, h4⟩
  · cases h1
  · cases h1
    exact .inr ⟨g, cap, cur, rfl, h2, (hf.block g (Array.getElem?_eq_some_iff.1 h3).1 hn).trans h3, h4⟩
theorem Rw.cell {W : World} {n0 e g cap : Nat} {xs : List Value} (h : Rw W n0 e g cap xs) {i : Nat} (hi : i < xs.length) : W.cell? ⟨g, i, none⟩ = xs[i]? := by
  have h0 : W.ownsRow n0 e 1 (.slice (some ⟨g, 0, none⟩) xs.length cap) xs.length xs := h
  exact World.ownsRow.cellAt h0 i (by omega)
theorem Rw.empty (n0 e : Nat) (W : World) (h : n0 ≤ W.heap.size) : Rw (W.alloc (.cells #[] e)) n0 e W.heap.size 0 [] := by
  have := World.ownsRow_made (base := n0) (e := e) (size := 1) W #[] 0 h (Nat.zero_le _) (by simp)
  exact this
/-- One value more behind a row. -/
theorem Rw.app {W : World} {n0 e g cap : Nat} {xs : List Value} (h : Rw W n0 e g cap xs) (h0 : n0 ≤ W.heap.size) (t ty : TypeId) (zv : Value) (ht : Try.prog.underlying t = some (.slice e)) (hi : (Try.prog.info? e).map (fun i => (i.zero, i.size, i.bytes)) = some (some zv, 1, 8)) (hz : zv.cells.size = 1) (x : Value) (hx : x.oneCell' = true) (hl : xs.length ≤ 1000) :
    ∃ g' cap' w', (Builtin.append_ #[t, t] ty #[.slice (some ⟨g, 0, none⟩) xs.length cap, .slice (some ⟨W.heap.size, 0, none⟩) 1 1]).run Try.prog (W.alloc (.cells #[x] e)) = .ok (.slice (some ⟨g', 0, none⟩) (xs.length + 1) cap') w' ∧ Rw w' n0 e g' cap' (xs ++ [x]) ∧ Fr (fun k => k = g) (W.alloc (.cells #[x] e)) w' := by
  obtain ⟨i0, hi0, hz0, hz1, hz2⟩ := info_parts hi
  have h' : Rw (W.alloc (.cells #[x] e)) n0 e g cap xs := h.keep (Fr.of_below (S := fun _ => False) (al W _)) (fun k => k)
  obtain ⟨v', w', hr, h3, h4, h5, h6⟩ := run_append_own_at (P := Try.prog) (W.alloc (.cells #[x] e)) n0 t ty e i0 _ 1 8 ht hi0 hz0 hz1 hz2 hz (by decide) _ xs.length xs h' ⟨W.heap.size, 0, none⟩ 1 1 [x] rfl (cell_one_new W x e) (by intro u hu; simp at hu; subst hu; exact hx) (by unfold maxLen; omega) (by omega) (by simp; omega)
  rcases h3.2 with ⟨e1, e2⟩ | ⟨g', cap', cur, e1, e2, e3, e4⟩
  · omega
  · refine ⟨g', cap', w', by rw [← e1]; exact hr, ?_, (Fr.of_grown h4).wide (fun k hk => by simp [Value.ownBlock] at hk; exact hk.symm)⟩
    rw [e1] at h3
    unfold Rw
    rw [List.length_append]
    exact h3
theorem infoP : (Try.prog.info? 23).map (fun i => (i.zero, i.size, i.bytes)) = some (some (.pointer none), 1, 8) := by kernel_rfl
theorem infoN : (Try.prog.info? 3).map (fun i => (i.zero, i.size, i.bytes)) = some (some (.int .i64 0), 1, 8) := by kernel_rfl

/-! ### Clocks beside each other -/
theorem PC.cong {n me : Nat} {c d : Int → Int} {t : Int} {b mb : Nat} {W : World} (h : PC n me c t b mb W) (hc : ∀ j, isCl n me j = true → c j = d j) : PC n me d t b mb W := by
  obtain ⟨D, hD⟩ := h.map
  exact ⟨h.blk, ⟨D, hD.own, hD.has, fun j hj z => by rw [← hc j hj]; exact hD.val j hj z⟩, fun j hj => by rw [← hc j hj]; exact h.ok j hj, h.tl, h.th, h.hn⟩
theorem PC.mblk {n me : Nat} {c : Int → Int} {t : Int} {b mb : Nat} {W : World} (h : PC n me c t b mb W) : ∃ es clock, W.heap[mb]? = some (.map es clock) := by
  obtain ⟨D, hD⟩ := h.map
  obtain ⟨es, clock, h1, _⟩ := hD.own
  exact ⟨es, clock, h1⟩
abbrev ptrs (pb : Nat → Nat) (k : Nat) : List Value := (List.range k).map fun i => .pointer (some ⟨pb i, 0, none⟩)
abbrev nums (d : Int → Int) (k : Nat) : List Value := (List.range k).map fun i : Nat => .int .i64 (d (i : Int))
def upN {α : Type} (f : Nat → α) (i : Nat) (x : α) : Nat → α := fun j => if j = i then x else f j
theorem upN_at {α : Type} (f : Nat → α) (i : Nat) (x : α) : upN f i x i = x := by simp [upN]
theorem upN_out {α : Type} (f : Nat → α) {i j : Nat} (x : α) (h : j ≠ i) : upN f i x j = f j := by simp [upN, h]
/-- k clocks that were made since w, a row of their pointers. -/
structure Gs (w W : World) (n k : Nat) (c : Nat → Int → Int) (t : Nat → Int) (pb mp : Nat → Nat) (g cap : Nat) : Prop where
  pc : ∀ i, i < k → PC n i (c i) (t i) (pb i) (mp i) W
  lo : ∀ i, i < k → w.heap.size ≤ pb i ∧ w.heap.size ≤ mp i
  ne : ∀ i j, i < k → j < k → i ≠ j → pb i ≠ pb j ∧ mp i ≠ mp j
  row : Rw W w.heap.size 23 g cap (ptrs pb k)
  bel : Below w.heap.size w W
theorem Gs.apart {w W : World} {n k : Nat} {c : Nat → Int → Int} {t : Nat → Int} {pb mp : Nat → Nat} {g cap : Nat} (h : Gs w W n k c t pb mp g cap) {i j : Nat} (hi : i < k) (hj : j < k) : pb i ≠ mp j := by
  obtain ⟨es, cl, h1⟩ := (h.pc j hj).mblk
  have h2 := (h.pc i hi).blk
  intro e
  rw [e, h1] at h2
  cases h2
theorem Gs.rows {w W : World} {n k : Nat} {c : Nat → Int → Int} {t : Nat → Int} {pb mp : Nat → Nat} {g cap : Nat} (h : Gs w W n k c t pb mp g cap) {x T : Nat} {cs : Array Value} (hx : W.heap[x]? = some (.cells cs T (0, 0))) (hT : T ≠ 49) {i : Nat} (hi : i < k) : x ≠ pb i ∧ x ≠ mp i := by
  obtain ⟨es, cl, h1⟩ := (h.pc i hi).mblk
  have h2 := (h.pc i hi).blk
  refine ⟨fun e => ?_, fun e => ?_⟩
  · rw [e, h2] at hx
    cases hx
    exact hT rfl
  · rw [e, h1] at hx
    cases hx
theorem Gs.keep {S : Nat → Prop} {w W W2 : World} {n k : Nat} {c : Nat → Int → Int} {t : Nat → Int} {pb mp : Nat → Nat} {g cap : Nat} (h : Gs w W n k c t pb mp g cap) (hf : Fr S W W2) (h1 : ∀ i, i < k → ¬ S (pb i) ∧ ¬ S (mp i)) (h2 : ¬ S g) (h3 : ∀ x, S x → w.heap.size ≤ x) : Gs w W2 n k c t pb mp g cap :=
  ⟨fun i hi => (h.pc i hi).keep hf (h1 i hi).1 (h1 i hi).2, h.lo, h.ne, h.row.keep hf h2, h.bel.trans (hf.below h.bel.size h3)⟩
theorem Gs.on {w W W2 : World} {n k : Nat} {c : Nat → Int → Int} {t : Nat → Int} {pb mp : Nat → Nat} {g cap : Nat} (h : Gs w W n k c t pb mp g cap) (hb : Below W.heap.size W W2) : Gs w W2 n k c t pb mp g cap :=
  h.keep (Fr.of_below (S := fun _ => False) hb) (fun _ _ => ⟨fun g => g, fun g => g⟩) (fun g => g) (fun _ g => g.elim)
theorem Gs.cong {w W : World} {n k : Nat} {c d : Nat → Int → Int} {t u : Nat → Int} {pb mp : Nat → Nat} {g cap : Nat} (h : Gs w W n k c t pb mp g cap) (hc : ∀ i, i < k → ∀ j, isCl n i j = true → c i j = d i j) (ht : ∀ i, i < k → t i = u i) : Gs w W n k d u pb mp g cap :=
  ⟨fun i hi => by rw [← ht i hi]; exact (h.pc i hi).cong (hc i hi), h.lo, h.ne, h.row, h.bel⟩
/-- One of them is written. -/
theorem Gs.upd {S : Nat → Prop} {w W W2 : World} {n k : Nat} {c : Nat → Int → Int} {t : Nat → Int} {pb mp : Nat → Nat} {g cap : Nat} (h : Gs w W n k c t pb mp g cap) {i : Nat} (hi : i < k) {d : Int → Int} {u : Int} (hn : PC n i d u (pb i) (mp i) W2) (hf : Fr S W W2) (hs : ∀ x, S x → x = pb i ∨ x = mp i) : Gs w W2 n k (upN c i d) (upN t i u) pb mp g cap := by
  obtain ⟨_, cur, hg⟩ := h.row.blk
  have hr := h.rows hg (by decide) hi
  refine ⟨fun j hj => ?_, h.lo, h.ne, h.row.keep hf (fun e => by rcases hs _ e with e | e; exact hr.1 e; exact hr.2 e), h.bel.trans (hf.below h.bel.size (fun x e => by rcases hs x e with rfl | rfl; exact (h.lo i hi).1; exact (h.lo i hi).2))⟩
  by_cases e : j = i
  · subst e; rw [upN_at, upN_at]; exact hn
  · rw [upN_out _ _ e, upN_out _ _ e]
    refine (h.pc j hj).keep hf (fun g => ?_) (fun g => ?_)
    · rcases hs _ g with g | g
      · exact (h.ne j i hj hi e).1 g
      · exact h.apart hj hi g
    · rcases hs _ g with g | g
      · exact h.apart hi hj g.symm
      · exact (h.ne j i hj hi e).2 g
theorem Gs.ptr {w W : World} {n k : Nat} {c : Nat → Int → Int} {t : Nat → Int} {pb mp : Nat → Nat} {g cap : Nat} (h : Gs w W n k c t pb mp g cap) {i : Nat} (hi : i < k) : W.cell? ⟨g, i, none⟩ = some (.pointer (some ⟨pb i, 0, none⟩)) := by
  rw [h.row.cell (by simp [ptrs]; exact hi)]
  simp [ptrs, hi]
theorem ptrs_len (pb : Nat → Nat) (k : Nat) : (ptrs pb k).length = k := by simp [ptrs]
theorem nums_len (d : Int → Int) (k : Nat) : (nums d k).length = k := by simp [nums]
/-- One clock more. -/
theorem Gs.add {w W W2 : World} {n k : Nat} {c : Nat → Int → Int} {t : Nat → Int} {pb mp : Nat → Nat} {g cap : Nat} (h : Gs w W n k c t pb mp g cap) (hk : k ≤ 100) {b mb : Nat} {d : Int → Int} {u : Int} (hn : PC n k d u b mb W2) (hb : W.heap.size ≤ b) (hm : W.heap.size ≤ mb) (hf : Below W.heap.size W W2) (ty : TypeId) :
    ∃ g' cap' w', (Builtin.append_ #[40, 40] ty #[.slice (some ⟨g, 0, none⟩) k cap, .slice (some ⟨W2.heap.size, 0, none⟩) 1 1]).run Try.prog (W2.alloc (.cells #[.pointer (some ⟨b, 0, none⟩)] 23)) = .ok (.slice (some ⟨g', 0, none⟩) (k + 1) cap') w' ∧ Gs w w' n (k + 1) (upN c k d) (upN t k u) (upN pb k b) (upN mp k mb) g' cap' := by
  have h2 := h.on hf
  obtain ⟨g', cap', w', hr, hrw, hfr⟩ := h2.row.app (Nat.le_trans h.bel.size hf.size) 40 ty (.pointer none) Try.underlying40 infoP rfl (.pointer (some ⟨b, 0, none⟩)) rfl (by rw [ptrs_len]; omega)
  rw [ptrs_len] at hr
  refine ⟨g', cap', w', hr, ?_⟩
  have hF : Fr (fun x => x = g) W2 w' := (Fr.of_below (S := fun x => x = g) (al W2 _)).then hfr
  obtain ⟨lg, cur, hg⟩ := h2.row.blk
  have hg0 := h.row.lt
  have hps : ∀ i, i < k → pb i < W.heap.size ∧ mp i < W.heap.size := fun i hi => ⟨(h.pc i hi).lt, (h.pc i hi).mlt⟩
  have hsz := h.bel.size
  refine ⟨fun i hi => ?_, fun i hi => ?_, fun i j hi hj hij => ?_, ?_, h2.bel.trans (hF.below h2.bel.size (fun x e => by subst e; exact lg))⟩
  · by_cases e : i = k
    · subst e
      rw [upN_at, upN_at, upN_at, upN_at]
      exact hn.keep hF (by omega) (by omega)
    · rw [upN_out _ _ e, upN_out _ _ e, upN_out _ _ e, upN_out _ _ e]
      have hr := h2.rows hg (by decide) (show i < k by omega)
      exact (h2.pc i (by omega)).keep hF (fun e => hr.1 e.symm) (fun e => hr.2 e.symm)
  · by_cases e : i = k
    · subst e
      rw [upN_at, upN_at]
      omega
    · rw [upN_out _ _ e, upN_out _ _ e]
      exact h.lo i (by omega)
  · by_cases e1 : i = k
    · subst e1
      have := hps j (by omega)
      rw [upN_at, upN_at, upN_out _ _ (by omega), upN_out _ _ (by omega)]
      omega
    · by_cases e2 : j = k
      · subst e2
        have := hps i (by omega)
        rw [upN_at, upN_at, upN_out _ _ (by omega), upN_out _ _ (by omega)]
        omega
      · rw [upN_out _ _ e1, upN_out _ _ e1, upN_out _ _ e2, upN_out _ _ e2]
        exact h.ne i j (by omega) (by omega) hij
  · have e : ptrs (upN pb k b) (k + 1) = ptrs pb k ++ [.pointer (some ⟨b, 0, none⟩)] := by
      unfold ptrs
      rw [List.range_succ, List.map_append]
      congr 1
      · apply List.map_congr_left
        intro i hi
        rw [upN_out _ _ (by have := List.mem_range.1 hi; omega)]
      · simp [upN_at]
    rw [e]
    exact hrw
/-- And a row of numbers. -/
structure Gq (w W : World) (n k : Nat) (c : Nat → Int → Int) (t : Nat → Int) (pb mp : Nat → Nat) (g cap : Nat) (g2 cap2 : Nat) (d : Int → Int) (m : Nat) : Prop where
  gs : Gs w W n k c t pb mp g cap
  sr : Rw W w.heap.size 3 g2 cap2 (nums d m)
theorem Gq.on {w W W2 : World} {n k : Nat} {c : Nat → Int → Int} {t : Nat → Int} {pb mp : Nat → Nat} {g cap g2 cap2 : Nat} {d : Int → Int} {m : Nat} (h : Gq w W n k c t pb mp g cap g2 cap2 d m) (hb : Below W.heap.size W W2) : Gq w W2 n k c t pb mp g cap g2 cap2 d m :=
  ⟨h.gs.on hb, h.sr.keep (Fr.of_below (S := fun _ => False) hb) (fun g => g)⟩
theorem Gq.upd {S : Nat → Prop} {w W W2 : World} {n k : Nat} {c : Nat → Int → Int} {t : Nat → Int} {pb mp : Nat → Nat} {g cap g2 cap2 : Nat} {d : Int → Int} {m : Nat} (h : Gq w W n k c t pb mp g cap g2 cap2 d m) {i : Nat} (hi : i < k) {e : Int → Int} {u : Int} (hn : PC n i e u (pb i) (mp i) W2) (hf : Fr S W W2) (hs : ∀ x, S x → x = pb i ∨ x = mp i) : Gq w W2 n k (upN c i e) (upN t i u) pb mp g cap g2 cap2 d m := by
  obtain ⟨_, cur, hg⟩ := h.sr.blk
  have hr := h.gs.rows hg (by decide) hi
  exact ⟨h.gs.upd hi hn hf hs, h.sr.keep hf (fun e => by rcases hs _ e with e | e; exact hr.1 e; exact hr.2 e)⟩
theorem Gq.num {w W : World} {n k : Nat} {c : Nat → Int → Int} {t : Nat → Int} {pb mp : Nat → Nat} {g cap g2 cap2 : Nat} {d : Int → Int} {m : Nat} (h : Gq w W n k c t pb mp g cap g2 cap2 d m) {i : Nat} (hi : i < m) : W.cell? ⟨g2, i, none⟩ = some (.int .i64 (d i)) := by
  rw [h.sr.cell (by simp [nums]; exact hi)]
  simp [nums, hi]
/-- One number more. -/
theorem Gq.add {w W : World} {n k : Nat} {c : Nat → Int → Int} {t : Nat → Int} {pb mp : Nat → Nat} {g cap g2 cap2 : Nat} {d : Int → Int} {m : Nat} (h : Gq w W n k c t pb mp g cap g2 cap2 d m) (hm : m ≤ 100) (ty : TypeId) :
    ∃ g' cap' w', (Builtin.append_ #[41, 41] ty #[.slice (some ⟨g2, 0, none⟩) m cap2, .slice (some ⟨W.heap.size, 0, none⟩) 1 1]).run Try.prog (W.alloc (.cells #[.int .i64 (d m)] 3)) = .ok (.slice (some ⟨g', 0, none⟩) (m + 1) cap') w' ∧ Gq w w' n k c t pb mp g cap g' cap' d (m + 1) := by
  obtain ⟨g', cap', w', hr, hrw, hfr⟩ := h.sr.app h.gs.bel.size 41 ty (.int .i64 0) Try.underlying41 infoN rfl (.int .i64 (d m)) rfl (by rw [nums_len]; omega)
  rw [nums_len] at hr
  refine ⟨g', cap', w', hr, ?_⟩
  have hF : Fr (fun x => x = g2) W w' := (Fr.of_below (S := fun x => x = g2) (al W _)).then hfr
  obtain ⟨lg, cur, hg⟩ := h.sr.blk
  obtain ⟨_, cur2, hg2⟩ := h.gs.row.blk
  refine ⟨h.gs.keep hF (fun i hi => ?_) (fun e => ?_) (fun x e => by subst e; exact lg), ?_⟩
  · have hr := h.gs.rows hg (by decide) hi
    exact ⟨fun e => hr.1 e.symm, fun e => hr.2 e.symm⟩
  · rw [e, hg] at hg2
    cases hg2
  · have e : nums d (m + 1) = nums d m ++ [.int .i64 (d m)] := by
      unfold nums
      rw [List.range_succ, List.map_append]
      rfl
    rw [e]
    exact hrw
theorem Gs.begin {w W : World} {n k : Nat} {c : Nat → Int → Int} {t : Nat → Int} {pb mp : Nat → Nat} {g cap : Nat} (h : Gs w W n k c t pb mp g cap) (d : Int → Int) : Gq w (W.alloc (.cells #[] 3)) n k c t pb mp g cap W.heap.size 0 d 0 :=
  ⟨h.on (al W _), Rw.empty _ _ W h.bel.size⟩
theorem Gs.bare (w : World) (n : Nat) : Gs w (w.alloc (.cells #[] 23)) n 0 (fun _ => noC) (fun _ => 0) (fun _ => 0) (fun _ => 0) w.heap.size 0 :=
  ⟨fun i hi => absurd hi (Nat.not_lt_zero _), fun i hi => absurd hi (Nat.not_lt_zero _), fun i j hi => absurd hi (Nat.not_lt_zero _), Rw.empty _ _ w (Nat.le_refl _), al w _⟩
end Go.Proofs.Ytmhopjpbhdficaa
