/- Proved: how one message is put behind others. -/
import Derived.Test.YtjkcdkoomipfkaaSpec
namespace Go.Proofs.Ytjkcdkoomipfkaa
open Go.RowKit Go.Sort
set_option linter.unusedVariables false

theorem cells_new0 (w : World) (m : M) (t : TypeId) : ∀ j u, (enc m)[j]? = some u → ((w.alloc (.cells #[.int .i64 m.1.1, .int .i64 m.1.2.1, .int .i64 m.1.2.2, .int .i64 m.2.1, .int .i64 m.2.2.1, .int .i64 m.2.2.2] t)).drew).cell? ((⟨w.heap.size, 0, none⟩ : Addr).add j) = some u := by
  intro j u hj
  have hj6 : j < 6 := by have := (List.getElem?_eq_some_iff.1 hj).1; rwa [enc_len] at this
  rw [Addr.add_lit, World.cell?_drew]
  simp only [World.cell?, heap_alloc_new, Nat.zero_add]
  simpa [enc] using hj
theorem cells_new1 (w : World) (m : M) (t : TypeId) : ∀ j u, (enc m)[j]? = some u → (w.alloc (.cells #[.int .i64 m.1.1, .int .i64 m.1.2.1, .int .i64 m.1.2.2, .int .i64 m.2.1, .int .i64 m.2.2.1, .int .i64 m.2.2.2] t)).cell? ((⟨w.heap.size, 0, none⟩ : Addr).add j) = some u := fun j u hj => cells_new0 w m t j u hj

theorem cells_new2 (w : World) (o : Obj) (m : M) (t : TypeId) : ∀ j u, (enc m)[j]? = some u → ((w.alloc o).alloc (.cells #[.int .i64 m.1.1, .int .i64 m.1.2.1, .int .i64 m.1.2.2, .int .i64 m.2.1, .int .i64 m.2.2.1, .int .i64 m.2.2.2] t)).cell? ((⟨w.heap.size + 1, 0, none⟩ : Addr).add j) = some u := fun j u hj => by
  have e : w.heap.size + 1 = (w.alloc o).heap.size := by simp
  rw [e]
  exact cells_new1 (w.alloc o) m t j u hj

/-- 'append(s, m)' at the operation, for the walk. -/
theorem wpList_append_msg (w : World) {ops : Array Oper} {rest : List Oper} {o : Oper} {a : Act} {Q : Exit → Act → World → Prop} (hgd : o.guard = none) (s x : Operand)
    (ho : o.op = .call { callee := .builtin .append, args := #[s, x], argTypes := #[44, 44] })
    (v : Value) (d : List M) (hs : a.eval s = v) (hown : Own w v d) (hlen : d.length ≤ 100000) (m : M) (ad : Addr) (hx : a.eval x = .slice (some ad) 1 1) (hc : ∀ j u, (enc m)[j]? = some u → w.cell? (ad.add j) = some u)
    (h : ∀ a' cap' w', Own w' (.slice a' (d.length + 1) cap') (d ++ [m]) → Fr (fun k => v.ownBlock = some k) w w' → (∀ k, (Value.slice a' (d.length + 1) cap').ownBlock = some k → v.ownBlock = some k ∨ w.heap.size ≤ k) → wpList Try.prog ops Q rest (a.put o.dst (.slice a' (d.length + 1) cap')) w') :
    wpList Try.prog ops Q (o :: rest) a w := by
  refine wpList_plain hgd fun K hK => ?_
  obtain ⟨i0, hi0, hz0, hz1, hz2⟩ := info_parts info30
  obtain ⟨v', w', hr, h2, h3, h4, h5⟩ := run_append_own_at (P := Try.prog) w 0 44 o.type 32 i0 _ 6 48 Try.underlying44 hi0 hz0 hz1 hz2 rfl (by decide) v d.length (flat d) hown ad 1 1 (enc m) rfl hc (enc_one m) (by unfold maxLen; omega) (by omega) (Nat.zero_le _)
  have h2' : Own w' v' (d ++ [m]) := by unfold Own; rw [flat_append, flat_one]; simpa using h2
  obtain ⟨a', cap', rfl, _⟩ := h2'.rd
  have hl : (d ++ [m]).length = d.length + 1 := by simp
  rw [hl] at hr h2' h5
  unfold Oper.wp execOp
  simp only [ho, resolve, invoke, builtin, Sem.run_bind, Sem.run_pure, Result.andThen_ok, List.map_toArray, List.map_cons, List.map_nil, hs, hx, hr]
  refine hK _ _ (h a' cap' w' h2' (Fr.of_grown h3) (fun k hk => ?_))
  rcases h5 with h5 | h5
  · exact .inl (h5.symm.trans hk)
  · right
    rw [h5] at hk
    simp at hk
    omega

theorem low_snoc (d : List M) (k : Nat) (t : Int) (h : k < d.length) : low (d.take (k + 1)) t = if (nth d k).1.1 < t then low (d.take k) t ++ [nth d k] else low (d.take k) t := by
  rw [List.take_succ_eq_append_getElem h, nth_get d k h]
  unfold low
  rw [List.filter_append]
  split <;> simp [*]
theorem low_len (d : List M) (t : Int) : (low d t).length ≤ d.length := List.length_filter_le _ _

def Step (F F2 : Nat → Prop) (w w' : World) : Prop := Fr F w w' ∧ ∀ k, F2 k → F k ∨ w.heap.size ≤ k
def clampR (r : Int) : Nat := (min (max r 0) 64).toNat
theorem clampR_le (r : Int) : clampR r ≤ 64 := by unfold clampR; omega
theorem clampR_int (r : Int) : (clampR r : Int) = min (max r 0) 64 := by unfold clampR; omega
end Go.Proofs.Ytjkcdkoomipfkaa
