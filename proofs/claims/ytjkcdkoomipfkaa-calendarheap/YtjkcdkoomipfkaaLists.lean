/- Proved: contracts of prio's inOrder and of a Queue's List. -/
import Derived.Test.YtjkcdkoomipfkaaQueue3
import Derived.Test.YtjkcdkoomipfkaaSorted
namespace Go.Proofs.Ytjkcdkoomipfkaa
open Go.RowKit Go.Sort
set_option linter.unusedVariables false

theorem cmpM71 : CmpM 71 := ⟨byKey_any, enters_of Try.func71 (by kernel_rfl) rfl⟩

set_option maxHeartbeats 1000000 in
theorem inOrder_any {w : World} {v : Value} {l : List M} (h : Own w v l) (hn : (l.map Prod.fst).Nodup) (hlen : l.length ≤ 100000) :
    Calls Try.prog 53 #[v] w fun e w' => e = .returned v ∧ ∃ l', Own w' v l' ∧ l'.Perm l ∧ Srt l' ∧ Fr (fun k => v.ownBlock = some k) w w' := by
  have H := sortFunc_any cmpM71 h hn hlen
  obtain ⟨a, cap, rfl, _⟩ := h.rd
  go_enter Try.func53, Try.ntmps53
  go_wp2_with (go_at_call 46; refine H.mono ?_; rintro e w' ⟨rfl, hR⟩)
  go_ret
  exact ⟨rfl, hR⟩

set_option maxHeartbeats 1000000 in
theorem clone_any {w : World} {v : Value} {l : List M} (h : Own w v l) (hlen : l.length ≤ 100000) :
    Calls Try.prog 54 #[v] w fun e w' => ∃ v', e = .returned v' ∧ Own w' v' l ∧ (∀ k, v'.ownBlock = some k → w.heap.size ≤ k) ∧ Below w.heap.size w w' := by
  have h0 := h
  rcases h.2 with ⟨rfl, hn⟩ | ⟨g, cap, cur, rfl, _, hg, hnc, hcm, hcs, ht⟩
  · have hl : l = [] := List.length_eq_zero_iff.1 hn
    subst hl
    have hcon := AnyE.slices_Clone_nil Try.cloneMsg 0 0 w
    refine Calls.mono (P := Try.prog) (f := 54) hcon ?_
    rintro e w' ⟨rfl, rfl⟩
    exact ⟨_, rfl, h0, fun k hk => by simp [Value.ownBlock] at hk, Below.refl _ _⟩
  · obtain ⟨i0, hi0, hz0, hz1, hz2⟩ := info_parts info30
    have hcon := AnyE.slices_Clone Try.cloneMsg i0 (mv zeroM) 6 48 hi0 hz0 hz1 hz2 rfl (by decide) sizeOf30 g 0 l.length cap (flat l) w (flat_len l) (by unfold maxLen; omega) (by omega)
      (fun j u hj => by
        have hj' : j < l.length * 6 := by have := (List.getElem?_eq_some_iff.1 hj).1; rwa [flat_len] at this
        rw [Nat.zero_add, World.ownsRow.cellAt h0 j hj', hj]) (flat_one_cell l)
    refine Calls.mono (P := Try.prog) (f := 54) hcon ?_
    rintro e w' ⟨v', rfl, ho, _, hb⟩
    have ho1 := ho.1
    have ho2 := ho.2
    refine ⟨v', rfl, ⟨ho1, ?_⟩, ?_, hb⟩
    · rcases ho2 with h1 | ⟨g', cap', cur', e1, e2, e3⟩
      · exact .inl h1
      · exact .inr ⟨g', cap', cur', e1, Nat.zero_le _, e3⟩
    · intro k hk
      rcases ho2 with ⟨rfl, _⟩ | ⟨g', cap', cur', rfl, e2, e3⟩
      · simp [Value.ownBlock] at hk
      · simp [Value.ownBlock] at hk
        subst hk
        exact e2

set_option maxHeartbeats 1000000 in
theorem list_any {w : World} {F : Nat → Prop} {qb room : Nat} {s : List M} (h : IsQ w F qb room s) :
    Calls Try.prog 32 #[.pointer (some ⟨qb, 0, none⟩)] w fun e w' => ∃ v, e = .returned v ∧ Own w' v s ∧ (∀ k, v.ownBlock = some k → w.heap.size ≤ k) ∧ Below w.heap.size w w' := by
  obtain ⟨pb, mb, v, d, c0, c1, hp, ho, hpm, hs, hq, hr, hl, rfl⟩ := h
  have C := clone_any hp.own (by have := hp.len; omega)
  have hn := hp.nd
  have hlen := hp.len
  have p0 := hp.c0
  obtain ⟨a, cap, rfl, _⟩ := hp.own.rd
  have HP : Hid (IsP w pb mb (.slice a d.length cap) d) := hp
  clear hp
  go_enter Try.func32, Try.ntmps32
  go_wp2_with fail
  refine C.mono ?_
  rintro e w1 ⟨v1, rfl, h1, s1, b1⟩
  have I := inOrder_any h1 hn (by omega)
  obtain ⟨a1, cap1, rfl, _⟩ := h1.rd
  go_wp2_with fail
  refine I.mono ?_
  rintro e w2 ⟨rfl, l', h2, hp2, hs2, f2⟩
  go_wp2_with fail
  go_ret
  have e1 : l' = s := srt_unique hs2 hs (hp2.trans hpm)
  subst e1
  refine ⟨_, rfl, h2, s1, ?_⟩
  exact b1.trans (f2.below b1.size s1)
end Go.Proofs.Ytjkcdkoomipfkaa
