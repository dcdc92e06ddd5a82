/- Proved: how one message is put behind others; the contract of a Queue's Below. -/
import Derived.Test.YtnldbnlbfmjcbaaLists
namespace Go.Proofs.Ytnldbnlbfmjcbaa
open Go.RowKit Go.Sort
set_option linter.unusedVariables false

theorem cells_new1 (w : World) (m : M) (t : TypeId) : ∀ j u, (enc m)[j]? = some u → (w.alloc (.cells #[.int .i64 m.1.1, .int .i64 m.1.2.1, .int .i64 m.1.2.2, .int .i64 m.2.1, .int .i64 m.2.2.1, .int .i64 m.2.2.2] t)).cell? ((⟨w.heap.size, 0, none⟩ : Addr).add j) = some u := fun j u hj => cells_new w m t j u hj

theorem cells_new2 (w : World) (o : Obj) (m : M) (t : TypeId) : ∀ j u, (enc m)[j]? = some u → ((w.alloc o).alloc (.cells #[.int .i64 m.1.1, .int .i64 m.1.2.1, .int .i64 m.1.2.2, .int .i64 m.2.1, .int .i64 m.2.2.1, .int .i64 m.2.2.2] t)).cell? ((⟨w.heap.size + 1, 0, none⟩ : Addr).add j) = some u := fun j u hj => by
  have e : w.heap.size + 1 = (w.alloc o).heap.size := by simp
  rw [e]
  exact cells_new1 (w.alloc o) m t j u hj

/-- 'append(s, m)' at the operation, for the walk. -/
theorem wpList_append_msg (w : World) {ops : Array Oper} {rest : List Oper} {o : Oper} {a : Act} {Q : Exit → Act → World → Prop} (hgd : o.guard = none) (s x : Operand)
    (ho : o.op = .call { callee := .builtin .append, args := #[s, x], argTypes := #[39, 39] })
    (v : Value) (d : List M) (hs : a.eval s = v) (hown : Own w v d) (hlen : d.length ≤ 100000) (m : M) (ad : Addr) (hx : a.eval x = .slice (some ad) 1 1) (hc : ∀ j u, (enc m)[j]? = some u → w.cell? (ad.add j) = some u)
    (h : ∀ a' cap' w', Own w' (.slice a' (d.length + 1) cap') (d ++ [m]) → Fr (fun k => v.ownBlock = some k) w w' → (∀ k, (Value.slice a' (d.length + 1) cap').ownBlock = some k → v.ownBlock = some k ∨ w.heap.size ≤ k) → wpList Try.prog ops Q rest (a.put o.dst (.slice a' (d.length + 1) cap')) w') :
    wpList Try.prog ops Q (o :: rest) a w := by
  refine wpList_plain hgd fun K hK => ?_
  obtain ⟨i0, hi0, hz0, hz1, hz2⟩ := info_parts info30
  obtain ⟨v', w', hr, h2, h3, h4, h5⟩ := run_append_own_at (P := Try.prog) w 0 39 o.type 30 i0 _ 6 48 Try.underlying39 hi0 hz0 hz1 hz2 rfl (by decide) v d.length (flat d) hown ad 1 1 (enc m) rfl hc (enc_one m) (by unfold maxLen; omega) (by omega) (Nat.zero_le _)
  have h2' : Own w' v' (d ++ [m]) := by unfold Own; rw [flat_append, flat_one]; simpa using h2
  obtain ⟨a', cap', rfl, _⟩ := h2'.rd
  have hl : (d ++ [m]).length = d.length + 1 := by simp
  rw [hl] at hr h2' h5
  unfold Oper.wp execOp
  simp only [ho, resolve, invoke, builtin, Sem.run_bind, Sem.run_pure, Result.andThen_ok, List.map_toArray, List.map_cons, List.map_nil, hs, hx, hr]
  refine hK _ _ (h a' cap' w' h2' (Fr.of_grown h3) (fun k hk => ?_))
  rcases h5 with h5 | h5
  · exact .inl (h5.symm.trans hk)
  · right
    rw [h5] at hk
    simp at hk
    omega

theorem low_snoc (d : List M) (k : Nat) (t : Int) (h : k < d.length) : low (d.take (k + 1)) t = if (nth d k).1.1 < t then low (d.take k) t ++ [nth d k] else low (d.take k) t := by
  rw [List.take_succ_eq_append_getElem h, nth_get d k h]
  unfold low
  rw [List.filter_append]
  split <;> simp [*]
theorem low_len (d : List M) (t : Int) : (low d t).length ≤ d.length := List.length_filter_le _ _

set_option maxRecDepth 100000 in
set_option maxHeartbeats 1000000 in
theorem qbelow_any {w : World} {F : Nat → Prop} {qb room : Nat} {s : List M} (h : IsQ w F qb room s) (t : Int) :
    Calls Try.prog 20 #[.pointer (some ⟨qb, 0, none⟩), .int .i64 t] w fun e w' => ∃ v, e = .returned v ∧ Own w' v (low s t) ∧ (∀ k, v.ownBlock = some k → w.heap.size ≤ k) ∧ Below w.heap.size w w' := by
  obtain ⟨pb, mb, v, d, c0, c1, hp, ho, hpm, hs, hq, hr, hl, rfl⟩ := h
  have hn := hp.nd
  have hlen := hp.len
  have p0 := hp.c0
  have hown := hp.own
  obtain ⟨a, cap, rfl, _⟩ := hp.own.rd
  have hpl := cell_lt p0
  clear hp
  go_enter Try.func20, Try.ntmps20
  go_wp2_with fail
  go_loopw [5, 16] (fun v5 si wr => ∃ k : Nat, k ≤ d.length ∧ si = .int .i64 k ∧ Own wr v5 (low (d.take k) t) ∧ (∀ k, v5.ownBlock = some k → w.heap.size ≤ k) ∧ Below w.heap.size w wr) (fun _ si _ => d.length - (intOf si).toNat)
  case atStart => exact ⟨0, Nat.zero_le _, rfl, World.ownsRow_nil _ _ _ _, fun k hk => by simp [Value.ownBlock] at hk, Below.refl _ _⟩
  case round =>
    obtain ⟨k, hk, rfl, hown5, hblk, hb⟩ := hrel
    have hll := low_len (d.take k) t
    have htk : (d.take k).length = k := by rw [List.length_take]; omega
    by_cases hlt : k < d.length
    · obtain ⟨g, cap', hv, hg⟩ := own_nonempty hown hlt
      obtain ⟨rfl, rfl⟩ : a = some ⟨g, 0, none⟩ ∧ cap = cap' := by simpa using hv
      have hsn := low_snoc d k t hlt
      obtain ⟨x, hx⟩ : ∃ x, nth d k = x := ⟨_, rfl⟩
      rw [hx] at hsn
      obtain ⟨x0, x1, x2, x3, x4, x5⟩ := own_cell (hown.keep (S := fun _ => False) (Fr.of_below hb) (fun _ _ g => g)) (x := x) hlt (by rw [← nth_get]; exact hx)
      have HSN : Hid _ := hsn
      have hlt' : (k : Int) < (d.length : Int) := by omega
      obtain ⟨a5, c5, rfl, _⟩ := hown5.rd
      clear hsn hx hv
      obtain ⟨⟨b1, b2, b3⟩, b4, b5, b6⟩ := x
      dsimp only at x0 x1 x2 x3 x4 x5
      by_cases ht : b1 < t
      · go_wp2_with (at_builtin; refine wpList_append_msg _ rfl (.tmp 25) (.tmp 27) rfl _ (low (d.take k) t) rfl ?c1 ?c2 ((b1, b2, b3), b4, b5, b6) ⟨wr.heap.size + 1, 0, none⟩ rfl ?c3 ?_)
        case c1 => exact hown5.keep (S := fun _ => False) (((Fr.refl _ wr).alloc _).alloc _) (fun _ _ g => g)
        case c2 => omega
        case c3 =>
          first | exact (fun j u hj => hj) | exact cells_new2 wr _ ((b1, b2, b3), b4, b5, b6) 30
        intro a' cap' w1 hown1 hfr1 hloc1
        have R1 : low (d.take (k + 1)) t = low (d.take k) t ++ [((b1, b2, b3), b4, b5, b6)] := by rw [HSN.out]; simp [ht]
        have R2 : Below w.heap.size w w1 := (hb.alloc hb.size _ |>.alloc (by simp; have := hb.size; omega) _).trans (hfr1.below (by simp; have := hb.size; omega) hblk)
        have R3 : ∀ j, (Value.slice a' ((low (d.take k) t).length + 1) cap').ownBlock = some j → w.heap.size ≤ j := fun j hj => by
          rcases hloc1 j hj with e | e
          · exact hblk j e
          · have := hb.size
            first | omega | (simp at e; omega)
        clear hown5 hblk hb hfr1 hloc1 x0 x1 x2 x3 x4 x5
        go_wp2
        go_roundw
        case rel => exact ⟨k + 1, by omega, by go_num, by rw [R1]; exact hown1, R3, R2⟩
        case measure => simp [intOf]; omega
      · have R1 : low (d.take (k + 1)) t = low (d.take k) t := by rw [HSN.out]; simp [ht]
        have R2 : ∀ o, Below w.heap.size w (wr.alloc o) := fun o => hb.alloc hb.size o
        have R3 : ∀ o, Own (wr.alloc o) (.slice a5 (low (d.take k) t).length c5) (low (d.take k) t) := fun o => hown5.keep (S := fun _ => False) ((Fr.refl _ wr).alloc _) (fun _ _ g => g)
        have RA : Aside _ := R3
        clear hown5 R3 hb
        go_wp2
        go_roundw
        case rel => exact ⟨k + 1, by omega, by go_num, by rw [R1]; exact RA.out _, hblk, R2 _⟩
        case measure => simp [intOf]; omega
    · have hkd : k = d.length := by omega
      subst hkd
      rw [List.take_length] at hown5 hll
      have hgt : ¬ ((d.length : Int) < (d.length : Int)) := by omega
      have I := inOrder_any hown5 (hn.sublist ((List.filter_sublist (l := d)).map Prod.fst)) (by omega)
      obtain ⟨a5, c5, rfl, _⟩ := hown5.rd
      clear htk hown5
      go_wp2_with fail
      refine I.mono ?_
      rintro e w2 ⟨rfl, l', h2, hp2, hs2, f2⟩
      have e1 : l' = low s t := srt_unique hs2 (hs.low t) (hp2.trans (hpm.filter _))
      subst e1
      have R : Below w.heap.size w w2 := hb.trans (f2.below hb.size hblk)
      clear I f2 hp2 hs2
      go_wp2_with fail
      go_ret
      exact ⟨_, rfl, h2, hblk, R⟩
end Go.Proofs.Ytnldbnlbfmjcbaa
