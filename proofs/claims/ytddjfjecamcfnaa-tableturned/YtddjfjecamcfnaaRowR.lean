/- Proved: rows of rules that a call has made; rules that stand the other way round. -/
import Derived.Test.YtddjfjecamcfnaaWSta
namespace Go.Proofs.Ytddjfjecamcfnaa
open Go.RowKit Go.Shelf
set_option linter.unusedVariables false

theorem encR_len (r : Rl) : (encR r).length = 4 := rfl
theorem encR_one (r : Rl) : ∀ v ∈ encR r, v.oneCell' = true := by
  intro v hv
  simp [encR] at hv
  rcases hv with rfl | rfl | rfl | rfl <;> rfl
def flatR (l : List Rl) : List Value := l.flatMap encR
theorem flatR_len (l : List Rl) : (flatR l).length = l.length * 4 := by
  induction l with
  | nil => rfl
  | cons x r ih => simp only [flatR, List.flatMap_cons, List.length_append, encR_len, List.length_cons] at *; omega
theorem flatR_append (a b : List Rl) : flatR (a ++ b) = flatR a ++ flatR b := by simp [flatR]
theorem flatR_get (l : List Rl) (i c : Nat) (hi : i < l.length) (hc : c < 4) : (flatR l)[i * 4 + c]? = (encR (nthR l i))[c]? := by
  induction l generalizing i with
  | nil => simp at hi
  | cons x r ih =>
    rw [show flatR (x :: r) = encR x ++ flatR r by simp [flatR]]
    cases i with
    | zero => rw [List.getElem?_append_left (by rw [encR_len]; omega)]; simp [nthR]
    | succ j =>
      rw [List.getElem?_append_right (by rw [encR_len]; omega), encR_len, show (j + 1) * 4 + c - 4 = j * 4 + c by omega, ih j (by simpa using hi)]
      simp [nthR]
/-- A row of rules that a call has made since w. -/
def RowR (w W : World) (v : Value) (l : List Rl) : Prop := W.ownsRow w.heap.size 45 4 v l.length (flatR l) ∧ Below w.heap.size w W
theorem RowR.empty (w : World) : RowR w (w.alloc (.cells #[] 45)) (.slice (some ⟨w.heap.size, 0, none⟩) 0 0) [] := ⟨World.ownsRow_made w #[] 0 (Nat.le_refl _) (Nat.zero_le _) (by simp), (Below.refl _ _).alloc (Nat.le_refl _) _⟩
theorem RowR.below {w W W' : World} {v : Value} {l : List Rl} (h : RowR w W v l) (hb : Below W.heap.size W W') : RowR w W' v l := by
  refine ⟨⟨h.1.1, ?_⟩, h.2.trans (hb.mono h.2.size)⟩
  rcases h.1.2 with g | ⟨g, cap, cur, h1, h2, h3, h4⟩
  · exact .inl g
  · exact .inr ⟨g, cap, cur, h1, h2, (hb.block g (Array.getElem?_eq_some_iff.1 h3).1).trans h3, h4⟩
theorem RowR.shape {w W : World} {v : Value} {l : List Rl} (h : RowR w W v l) : ∃ a c, v = .slice a l.length c := by
  rcases h.1.2 with ⟨rfl, hn⟩ | ⟨g, cap, cur, rfl, _⟩
  · exact ⟨none, 0, by rw [hn]⟩
  · exact ⟨_, _, rfl⟩
/-- Its rules can be read, where what they send can. -/
theorem RowR.rd {w W : World} {a : Option Addr} {c : Nat} {l : List Rl} (h : RowR w W (.slice a l.length c) l) (hm : ∀ r ∈ l, okM w r) : RdR W a l := by
  have h0 := h.1
  refine ⟨fun hl => ?_, fun r hr => ⟨(hm r hr).1, (hm r hr).2.1, (hm r hr).2.2.below h.2⟩⟩
  rcases h.1.2 with ⟨e, hn⟩ | ⟨g, cap, cur, e, _, hg, _⟩
  · exact absurd (List.length_eq_zero_iff.1 hn) hl
  · simp at e
    obtain ⟨rfl, rfl⟩ := e
    refine ⟨g, 0, rfl, (Array.getElem?_eq_some_iff.1 hg).1, fun i hi c hc => ?_⟩
    rw [Nat.zero_add, World.ownsRow.cellAt h0 _ (by omega), flatR_get l i c hi hc]
theorem infoR : (Try.prog.info? 45).map (fun i => (i.zero, i.size, i.bytes)) = some (some (.agg #[.int .i64 0, .int .i64 0, .int .i64 0, .slice none 0 0]), 4, 48) := by kernel_rfl
theorem rowR_ge {w W : World} {v : Value} {l : List Rl} (h : RowR w W v l) {k : Nat} (e : v.ownBlock = some k) : w.heap.size ≤ k := by
  rcases h.1.2 with ⟨rfl, _⟩ | ⟨g, cap, cur, rfl, hg, _⟩
  · simp [Value.ownBlock] at e
  · simp [Value.ownBlock] at e; omega
/-- One rule behind the rules of a row that a call has made. -/
theorem append_R {w W : World} {v : Value} {l : List Rl} {r : Rl} (h1 : RowR w W v l) (hl : l.length ≤ 100000) (ty : TypeId) (X : List Rl) (hX : l ++ [r] = X) :
    ∃ a' c' w', (Builtin.append_ #[22, 22] ty #[v, .slice (some ⟨W.heap.size, 0, none⟩) 1 1]).run Try.prog (W.alloc (.cells #[.int .i64 r.st, .int .i64 r.cl, .int .i64 r.nx, .slice r.sa r.os.length r.sc] 45)) = .ok (.slice a' X.length c') w' ∧ RowR w w' (.slice a' X.length c') X := by
  obtain ⟨i0, hi0, hz0, hz1, hz2⟩ := info_parts infoR
  have hb : Below W.heap.size W (W.alloc (.cells #[.int .i64 r.st, .int .i64 r.cl, .int .i64 r.nx, .slice r.sa r.os.length r.sc] 45)) := (Below.refl _ W).alloc (Nat.le_refl _) _
  have h2 := h1.below hb
  obtain ⟨v', w', hr, h3, h4, h5, h6⟩ := run_append_own_at (P := Try.prog) _ w.heap.size 22 ty 45 i0 _ 4 48 Try.underlying22 hi0 hz0 hz1 hz2 rfl (by decide) v l.length (flatR l) h2.1 ⟨W.heap.size, 0, none⟩ 1 1 (encR r) rfl (fun j u hj => by
      rw [Addr.add_lit, Nat.zero_add, World.cell?_alloc_new]
      simpa [encR] using hj) (encR_one r) (by unfold maxLen; omega) (by omega) h2.2.size
  have hR : RowR w w' v' X := by
    refine ⟨?_, h2.2.grown h4 h2.2.size (fun k e => rowR_ge h2 e)⟩
    rw [← hX, flatR_append, List.length_append]
    have e : flatR [r] = encR r := by simp [flatR]
    rw [e]
    exact h3
  obtain ⟨a', c', rfl⟩ := hR.shape
  exact ⟨a', c', w', hr, hR⟩
theorem wpList_append_R (W0 : World) {ops : Array Oper} {rest : List Oper} {o : Oper} {a : Act} {Q : Exit → Act → World → Prop} (hgd : o.guard = none) (s x : Operand)
    (ho : o.op = .call { callee := .builtin .append, args := #[s, x], argTypes := #[22, 22] })
    (w W : World) (v : Value) (l : List Rl) (r : Rl) (hW0 : W0 = W.alloc (.cells #[.int .i64 r.st, .int .i64 r.cl, .int .i64 r.nx, .slice r.sa r.os.length r.sc] 45)) (hs : a.eval s = v) (hx : a.eval x = .slice (some ⟨W.heap.size, 0, none⟩) 1 1) (h1 : RowR w W v l) (hl : l.length ≤ 100000) (X : List Rl) (hX : l ++ [r] = X)
    (h : ∀ a' c' w', RowR w w' (.slice a' X.length c') X → wpList Try.prog ops Q rest (a.put o.dst (.slice a' X.length c')) w') :
    wpList Try.prog ops Q (o :: rest) a W0 := by
  subst hW0
  refine wpList_plain hgd fun K hK => ?_
  obtain ⟨a', c', w', hr, h3⟩ := append_R h1 hl o.type X hX
  unfold Oper.wp execOp
  simp only [ho, resolve, invoke, builtin, Sem.run_bind, Sem.run_pure, Result.andThen_ok, List.map_toArray, List.map_cons, List.map_nil, hs, hx, hr]
  exact hK _ _ (h a' c' w' h3)

/-! ### The other way round -/
theorem chkE_rev (l : List Rl) : chkE l.reverse = chkE l := by
  unfold chkE chkB
  rw [List.length_reverse, List.all_reverse, List.map_reverse]
  congr 5
  rw [eq_iff_iff]
  unfold List.Nodup
  rw [List.pairwise_reverse]
  exact ⟨fun h => h.imp (fun g e => g e.symm), fun h => h.imp (fun g e => g e.symm)⟩
theorem lt_rev {l : List Rl} (h : Lt l) : Lt l.reverse := ⟨by rw [List.length_reverse]; exact h.1, fun r hr => h.2 r (List.mem_reverse.1 hr)⟩
theorem key_inj {l : List Rl} (h : (l.map key).Nodup) {r q : Rl} (hr : r ∈ l) (hq : q ∈ l) (e : key r = key q) : r = q := by
  obtain ⟨i, hi, rfl⟩ := (memR l r).1 hr
  obtain ⟨j, hj, rfl⟩ := (memR l q).1 hq
  rcases Nat.lt_trichotomy i j with g | g | g
  · exact absurd e ((nd_iff l).1 h i j g hj)
  · rw [g]
  · exact absurd e.symm ((nd_iff l).1 h j i g hi)
theorem stp_rev {l : List Rl} (h : chkE l = 0) (s c : Int) : stp l.reverse s c = stp l s c := by
  have hnd := (chkE_ok h).2.2
  rcases idxP_cases (isB s c) l with ⟨e, hno⟩ | ⟨k, hk, e, hy, _⟩
  · rw [stp_no e]
    refine stp_no (idxP_no (fun i hi => hno _ (List.mem_reverse.1 (nthR_mem hi))))
  · rcases idxP_cases (isB s c) l.reverse with ⟨e2, hno⟩ | ⟨k2, hk2, e2, hy2, _⟩
    · have := hno _ (List.mem_reverse.2 (nthR_mem hk))
      rw [hy] at this
      cases this
    · have h1 := (isB_true _ _ _).1 hy
      have h2 := (isB_true _ _ _).1 hy2
      have : nthR l.reverse k2 = nthR l k := key_inj hnd (List.mem_reverse.1 (nthR_mem hk2)) (nthR_mem hk) (by unfold key; rw [h1.1, h1.2, h2.1, h2.2])
      rw [stp_at e, stp_at e2, this]
theorem rev_step (l : List Rl) (j : Nat) (h : j < l.length) : (l.drop (j + 1)).reverse ++ [nthR l j] = (l.drop j).reverse := by
  have e : l.drop j = nthR l j :: l.drop (j + 1) := by
    rw [List.drop_eq_getElem_cons h]
    simp [nthR, h]
  rw [e, List.reverse_cons]
end Go.Proofs.Ytddjfjecamcfnaa
