/- Proved: contracts of slices.Grow of nothing and of slices.Concat over the pages of a calendar. -/
import Derived.Test.YtjkcdkoomipfkaaIns
import Derived.Test.YtjkcdkoomipfkaaDays
namespace Go.Proofs.Ytjkcdkoomipfkaa
open Go.RowKit Go.Sort Go.Lib
set_option linter.unusedVariables false

theorem append_two {w : World} {v u : Value} {d1 d2 : List M} (h1 : Own w v d1) (h2 : Own w u d2) (hl1 : d1.length ≤ 1000) (hl2 : d2.length ≤ 1000) (ty : TypeId) :
    ∃ v' w', (Builtin.append_ #[44, 44] ty #[v, u]).run Try.prog w = .ok v' w' ∧ Own w' v' (d1 ++ d2) ∧ Fr (fun k => v.ownBlock = some k) w w' ∧ (∀ k, v'.ownBlock = some k → v.ownBlock = some k ∨ w.heap.size ≤ k) := by
  obtain ⟨i0, hi0, hz0, hz1, hz2⟩ := info_parts info30
  rcases h2.2 with ⟨rfl, hn⟩ | ⟨g, cap, cur, rfl, _, hg, hnc, hcm, hcs, ht⟩
  · have hd : d2 = [] := List.length_eq_zero_iff.1 hn
    subst hd
    have hr := run_append_owned_none (P := Try.prog) w 0 44 ty 32 i0 6 Try.underlying44 hi0 v d1.length (flat d1) h1
    rw [List.append_nil]
    exact ⟨_, _, hr, h1, Fr.refl _ _, fun k hk => .inl hk⟩
  · obtain ⟨v', w', hr, h3, h4, h5, h6⟩ := run_append_own_at (P := Try.prog) w 0 44 ty 32 i0 _ 6 48 Try.underlying44 hi0 hz0 hz1 hz2 rfl (by decide) v d1.length (flat d1) h1 ⟨g, 0, none⟩ d2.length cap (flat d2) (flat_len d2) (fun j u hj => by
      rw [Addr.add_lit, Nat.zero_add]
      have := Own.cellsFrom h2 0 j u (by simpa using hj)
      simpa using this) (flat_one_cell _) (by unfold maxLen; omega) (by omega) (Nat.zero_le _)
    refine ⟨v', w', hr, ?_, Fr.of_grown h4, fun k hk => ?_⟩
    · unfold Own
      rw [flat_append, List.length_append]
      exact h3
    · rcases h6 with h6 | h6
      · exact .inl (h6.symm.trans hk)
      · right
        rw [h6] at hk
        simp at hk
        omega
theorem wpList_append_two (w : World) {ops : Array Oper} {rest : List Oper} {o : Oper} {a : Act} {Q : Exit → Act → World → Prop} (hgd : o.guard = none) (s x : Operand)
    (ho : o.op = .call { callee := .builtin .append, args := #[s, x], argTypes := #[44, 44] })
    (v u : Value) (d1 d2 : List M) (hs : a.eval s = v) (hx : a.eval x = u) (h1 : Own w v d1) (h2 : Own w u d2) (hl1 : d1.length ≤ 1000) (hl2 : d2.length ≤ 1000) (X : List M) (hX : d1 ++ d2 = X)
    (h : ∀ a' cap' w', Own w' (.slice a' X.length cap') X → Fr (fun k => v.ownBlock = some k) w w' → (∀ k, (Value.slice a' X.length cap').ownBlock = some k → v.ownBlock = some k ∨ w.heap.size ≤ k) → wpList Try.prog ops Q rest (a.put o.dst (.slice a' X.length cap')) w') :
    wpList Try.prog ops Q (o :: rest) a w := by
  refine wpList_plain hgd fun K hK => ?_
  obtain ⟨v', w', hr, h3, h4, h5⟩ := append_two h1 h2 hl1 hl2 o.type
  rw [hX] at h3
  obtain ⟨a', cap', rfl, _⟩ := h3.rd
  unfold Oper.wp execOp
  simp only [ho, resolve, invoke, builtin, Sem.run_bind, Sem.run_pure, Result.andThen_ok, List.map_toArray, List.map_cons, List.map_nil, hs, hx, hr]
  exact hK _ _ (h a' cap' w' h3 h4 h5)

set_option maxRecDepth 100000 in
set_option maxHeartbeats 1000000 in
theorem grow_any (n : Nat) (hn : n ≤ 1000) (w : World) :
    Calls Try.prog 64 #[.slice none 0 0, .int .i64 n] w fun e w' => ∃ v, e = .returned v ∧ Own w' v [] ∧ (∀ k, v.ownBlock = some k → w.heap.size ≤ k) ∧ Below w.heap.size w w' := by
  by_cases h0 : n = 0
  · subst h0
    go_enter Try.func64, Try.ntmps64
    go_wp2
    go_ret
    exact ⟨_, rfl, World.ownsRow_nil _ _ _ _, fun k hk => by simp [Value.ownBlock] at hk, Below.refl _ _⟩
  · obtain ⟨i0, hi0, hz0, hzs, hzb⟩ := info_parts info30
    obtain ⟨G, hG⟩ : ∃ G, G = grownCap w (0 + n) 0 32 := ⟨_, rfl⟩
    have hGm : G ≤ maxLen := by rw [hG]; exact grownCap_le_maxLen w _ _ _ (by unfold maxLen; omega)
    have hGn : 0 + n ≤ G := by rw [hG]; exact grownCap_ge w _ _ _
    obtain ⟨ROW, hROW⟩ : ∃ ROW : Array Value, ROW = ([] : List Value).toArray ++ Builtin.zeroCells (mv ((0, 0, 0), 0, 0, 0)).cells n ++ Builtin.zeroCells (mv ((0, 0, 0), 0, 0, 0)).cells (G - (0 + n)) := ⟨_, rfl⟩
    have hold : (Builtin.firstCells i0.size 0 (.slice none 0 0)).run Try.prog w.drew = .ok ([] : List Value).toArray w.drew := by simp [Builtin.firstCells]
    have hrz : ∀ ty, (Builtin.append_ #[44, 3] ty #[.slice none 0 0, .int .i64 n]).run Try.prog w = .ok (.slice (some ⟨w.heap.size, 0, none⟩) n G) (w.drew.alloc (.cells ROW 32)) := fun ty => by
      have h := Lib.run_append_grow_zeros w 44 3 ty 32 i0 _ .i64 .i64 Try.underlying44 Try.underlying3 hi0 hz0 none 0 0 [] hold n (by omega) (by omega) (by omega) (by omega) (by rw [hzb]; omega) (by rw [hzb]; exact growslice_fits (by omega) (by omega))
      rw [hROW, hG]
      rw [Nat.zero_add] at h ⊢
      exact h
    have hRs : ROW.size = G * 6 := by
      rw [hROW]
      simp only [Array.size_append, List.size_toArray, List.length_nil, zrow_size _ (show (mv ((0, 0, 0), 0, 0, 0)).cells.size = 6 from rfl)]
      omega
    obtain ⟨W1, hW1⟩ : ∃ W1, W1 = w.drew.alloc (.cells ROW 32) := ⟨_, rfl⟩
    have hg1 : W1.heap[w.heap.size]? = some (.cells ROW 32 (0, 0)) := by rw [hW1]; exact heap_alloc_new w.drew _
    have f1 : Below w.heap.size w W1 := by rw [hW1]; exact (Below.refl _ w).drew.alloc (Nat.le_refl _) _
    have hF : Own W1 (.slice (some ⟨w.heap.size, 0, none⟩) 0 G) [] := own_of_block (l := []) hg1 (by simp) hGm hRs rfl
    have HF : Aside _ := hF
    have Hf : Aside _ := f1
    rw [← hW1] at hrz
    unfold maxLen at hGm
    clear hF f1 hg1 hW1 hRs hold hROW hG
    have hn0 : (0 : Int) < (n : Int) := by omega
    have hG0 : G ≤ 9223372036854775807 := by omega
    go_enter Try.func64, Try.ntmps64
    go_wp2_with (at_builtin; refine Lib.wpList_append_run _ rfl _ _ _ _ rfl _ _ rfl rfl _ _ (hrz _) ?_)
    go_ret
    exact ⟨_, rfl, HF.out, fun k hk => by simp [Value.ownBlock] at hk; omega, Hf.out⟩

set_option maxRecDepth 100000 in
set_option maxHeartbeats 2000000 in
theorem concat_any {w : World} {qb day : Nat} {s : List M} {vs : Nat → Value} (hc : ∀ i, i < 8 → w.cell? ⟨qb, 2 + i, none⟩ = some (vs i)) (ho : ∀ i, i < 8 → Own w (vs i) (pg day i s)) (hl : s.length ≤ 64) :
    Calls Try.prog 45 #[.slice (some ⟨qb, 2, none⟩) 8 8] w fun e w' => ∃ v, e = .returned v ∧ Own w' v (cat day s 8) ∧ (∀ k, v.ownBlock = some k → w.heap.size ≤ k) ∧ Below w.heap.size w w' := by
  have hU := fun n h => upto_le day s n h
  have hP := fun i => pg_len_le day i s
  have hql : qb < w.heap.size := cell_lt (hc 0 (by omega))
  have HC : Aside _ := hc
  have HO : Aside _ := ho
  have HU : Aside _ := hU
  have HP : Aside _ := hP
  clear hc ho hU hP
  go_enter Try.func45, Try.ntmps45
  go_wp2_with fail
  go_loopw [3, 11] (fun s3 s11 wr => ∃ k : Nat, k ≤ 8 ∧ s11 = .int .i64 k ∧ s3 = .int .i64 (upto day s k) ∧ wr = w) (fun _ s11 _ => 8 - (intOf s11).toNat)
  case atStart => exact ⟨0, Nat.zero_le _, rfl, rfl, rfl⟩
  case round =>
    obtain ⟨k, hk, rfl, rfl, rfl⟩ := hrel
    by_cases hk8 : k < 8
    · have c := HC.out k hk8
      obtain ⟨a, cap, hv, _⟩ := (HO.out k hk8).rd
      rw [hv] at c
      have hk8' : (k : Int) < 8 := by omega
      have h1 := HU.out (k + 1) (by omega)
      obtain ⟨n1, hn1⟩ : ∃ n1, upto day s k = n1 := ⟨_, rfl⟩
      obtain ⟨n2, hn2⟩ : ∃ n2, (pg day k s).length = n2 := ⟨_, rfl⟩
      have hS : upto day s (k + 1) = n1 + n2 := by rw [← hn1, ← hn2]; rfl
      rw [hS] at h1
      rw [hn1]
      rw [hn2] at c
      have HS : Hid _ := hS
      clear hS hn1 hn2 hv
      go_wp2
      go_roundw
      case rel => exact ⟨k + 1, by omega, by go_num, by rw [HS.out]; go_num, by first | rfl | trivial⟩
      case measure => simp [intOf]; omega
    · obtain rfl : k = 8 := by omega
      have hu := HU.out 8 (by omega)
      obtain ⟨n, hn⟩ : ∃ n, upto day s 8 = n := ⟨_, rfl⟩
      rw [hn] at hu ⊢
      clear hn
      have GR := grow_any n (by omega) wr
      go_wp2_with fail
      refine GR.mono ?_
      rintro e w1 ⟨v1, rfl, o1, s1, b1⟩
      go_wp2_with fail
      go_loopw [6, 27] (fun s6 s27 wx => ∃ k : Nat, k ≤ 8 ∧ s27 = .int .i64 k ∧ Own wx s6 (cat day s k) ∧ (∀ j, s6.ownBlock = some j → wr.heap.size ≤ j) ∧ Below wr.heap.size wr wx) (fun _ s27 _ => 8 - (intOf s27).toNat)
      case atStart => exact ⟨0, Nat.zero_le _, rfl, o1, s1, b1⟩
      case round =>
        obtain ⟨k, hk, rfl, o6, l6, b6⟩ := hrel
        by_cases hk8 : k < 8
        · have c := (b6.cell (p := ⟨qb, 2 + k, none⟩) hql).trans (HC.out k hk8)
          have ok := (HO.out k hk8).keep (S := fun _ => False) (Fr.of_below b6) (fun _ _ g => g)
          obtain ⟨a, cap, hv, _⟩ := ok.rd
          have hk8' : (k : Int) < 8 := by omega
          have q1 : (cat day s k).length ≤ 1000 := by have := HU.out k (by omega); rw [cat_len]; omega
          have q2 := HP.out k
          obtain ⟨a6, c6, rfl, _⟩ := o6.rd
          rw [hv] at c ok
          clear hv
          go_wp2_with (at_builtin; refine wpList_append_two _ rfl (.tmp 31) (.tmp 32) rfl _ _ (cat day s k) (pg day k s) rfl rfl o6 ok q1 (by omega) (cat day s (k + 1)) rfl ?_)
          intro a' cap' w' h1 h2 h3
          go_wp2
          go_roundw
          case rel =>
            refine ⟨k + 1, by omega, by go_num, h1, fun j hj => ?_, b6.trans (h2.below b6.size l6)⟩
            rcases h3 j hj with g | g
            · exact l6 j g
            · exact Nat.le_trans b6.size g
          case measure => simp [intOf]; omega
        · obtain rfl : k = 8 := by omega
          obtain ⟨a6, c6, rfl, _⟩ := o6.rd
          go_wp2
          go_ret
          exact ⟨_, rfl, o6, l6, b6⟩
end Go.Proofs.Ytjkcdkoomipfkaa
