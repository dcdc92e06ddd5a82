/- Proved: contracts of a calendar's List and Below, of slices.IndexFunc and slices.DeleteFunc as Below calls them. -/
import Derived.Test.YtjkcdkoomipfkaaCal1
import Derived.Test.YtjkcdkoomipfkaaCat
import Derived.Test.YtjkcdkoomipfkaaSorted
import Derived.Test.YtjkcdkoomipfkaaRef1
namespace Go.Proofs.Ytjkcdkoomipfkaa
open Go.RowKit Go.Sort Go.Lib
set_option linter.unusedVariables false

theorem cmpM47 : CmpM 47 := ⟨lkey_any, enters_of Try.func47 (by kernel_rfl) rfl⟩

set_option maxHeartbeats 1000000 in
theorem clist_any {w : World} {qb room day : Nat} {vs : Nat → Value} {s : List M} (h : IsC w qb room day vs s) :
    Calls Try.prog 25 #[.pointer (some ⟨qb, 0, none⟩)] w fun e w' => ∃ v, e = .returned v ∧ Own w' v s ∧ (∀ k, v.ownBlock = some k → w.heap.size ≤ k) ∧ Below w.heap.size w w' := by
  have hlen := h.len
  have hrm := h.rm
  have C := concat_any h.cp h.own (by omega)
  have hperm := cat_perm day s
  have hnd : ((cat day s 8).map Prod.fst).Nodup := (hperm.map Prod.fst).nodup_iff.2 h.srt.nodup
  have hcl : (cat day s 8).length ≤ 100000 := by rw [hperm.length_eq]; omega
  have hs := h.srt
  clear h
  go_enter Try.func25, Try.ntmps25
  go_wp2_with fail
  refine C.mono ?_
  rintro e w1 ⟨v1, rfl, o1, s1, b1⟩
  have S := sortFunc_any cmpM47 o1 hnd hcl
  obtain ⟨a, cap, rfl, _⟩ := o1.rd
  go_wp2_with fail
  refine S.mono ?_
  rintro e w2 ⟨rfl, l', o2, p2, s2, f2⟩
  have e1 : l' = s := srt_unique s2 hs (p2.trans hperm)
  subst e1
  have hF : Aside _ := o2
  have b2 : Aside (Below w.heap.size w w2) := b1.trans (f2.below b1.size s1)
  clear o2 f2 S C o1 b1
  go_wp2
  go_ret
  exact ⟨_, rfl, hF.out, s1, b2.out⟩

theorem delp_any (a : M) (t : Int) (tB : Nat) (W : World) (hc : W.cell? ⟨tB, 0, none⟩ = some (.int .i64 t)) :
    Calls Try.prog 44 #[mv a, .pointer (some ⟨tB, 0, none⟩)] W fun e w' => e = .returned (.bool (decide (t ≤ a.1.1))) ∧ Below W.heap.size W w' := by
  have hl := cell_lt hc
  go_enter Try.func44, Try.ntmps44
  go_wp2
  go_ret
  exact ⟨rfl, (Below.refl _ _).alloc (Nat.le_refl _) _⟩

set_option maxRecDepth 100000 in
set_option maxHeartbeats 1000000 in
theorem indexFunc_any {w : World} {v : Value} {l : List M} (h : Own w v l) (hlen : l.length ≤ 1000) (t : Int) (tB : Nat) (hc : w.cell? ⟨tB, 0, none⟩ = some (.int .i64 t)) :
    Calls Try.prog 63 #[v, .func (.func 44) #[] #[.pointer (some ⟨tB, 0, none⟩)]] w fun e w' => ((e = .returned (.int .i64 (-1)) ∧ ∀ j, j < l.length → (nth l j).1.1 < t) ∨ ∃ i : Nat, i < l.length ∧ e = .returned (.int .i64 i) ∧ (∀ j, j < i → (nth l j).1.1 < t) ∧ t ≤ (nth l i).1.1) ∧ Below w.heap.size w w' := by
  have eg : ∀ args w, (callFunc 44 args).run Try.prog w = .ok (.enter 44 args) w := enters_of Try.func44 (by kernel_rfl) rfl
  have htl := cell_lt hc
  obtain ⟨a, cap, rfl, _⟩ := h.rd
  go_enter Try.func63, Try.ntmps63
  go_wp2_with fail
  go_loopw [8] (fun s8 wr => ∃ k : Nat, k ≤ l.length ∧ s8 = .int .i64 k ∧ Aside (∀ j, j < k → (nth l j).1.1 < t) ∧ Below w.heap.size w wr) (fun s8 _ => l.length - (intOf s8).toNat)
  case atStart => exact ⟨0, Nat.zero_le _, rfl, (fun j hj => absurd hj (Nat.not_lt_zero _) : ∀ j, j < 0 → (nth l j).1.1 < t), Below.refl _ _⟩
  case round =>
    obtain ⟨k, hk, rfl, HJ, hb⟩ := hrel
    by_cases hkl : k < l.length
    · have hk' : (k : Int) < (l.length : Int) := by omega
      have hr := h.keep (S := fun _ => False) (Fr.of_below hb) (fun _ _ g => g)
      obtain ⟨g, cap', hv, hg⟩ := own_nonempty hr hkl
      obtain ⟨rfl, rfl⟩ : a = some ⟨g, 0, none⟩ ∧ cap = cap' := by simpa using hv
      obtain ⟨x, hx⟩ : ∃ x, nth l k = x := ⟨_, rfl⟩
      obtain ⟨x0, x1, x2, x3, x4, x5⟩ := own_cell hr (x := x) hkl (by rw [← nth_get]; exact hx)
      have D := delp_any x t tB wr ((hb.cell (p := ⟨tB, 0, none⟩) htl).trans hc)
      have HX : Aside _ := hx
      clear hx hv hr
      by_cases ht : t ≤ x.1.1
      · have hd : decide (t ≤ x.1.1) = true := by simpa using ht
        rw [hd] at D
        go_wp2_with fail
        refine D.mono ?_
        rintro e w1 ⟨rfl, b1⟩
        have hB : Aside (Below w.heap.size w w1) := hb.trans (b1.mono hb.size)
        clear b1 D
        go_wp2
        go_ret
        exact ⟨.inr ⟨k, hkl, rfl, HJ.out, by rw [HX.out]; exact ht⟩, hB.out⟩
      · have hd : decide (t ≤ x.1.1) = false := by simpa using ht
        rw [hd] at D
        go_wp2_with fail
        refine D.mono ?_
        rintro e w1 ⟨rfl, b1⟩
        have hB : Aside (Below w.heap.size w w1) := hb.trans (b1.mono hb.size)
        clear b1 D
        go_wp2
        go_roundw
        case rel =>
          refine ⟨k + 1, by omega, by go_num, ?_, hB.out⟩
          refine (fun j hj => ?_ : ∀ j, j < k + 1 → (nth l j).1.1 < t)
          by_cases e : j = k
          · rw [e, HX.out]; omega
          · exact HJ.out j (by omega)
        case measure => simp [intOf]; omega
    · obtain rfl : k = l.length := by omega
      go_wp2
      go_ret
      exact ⟨.inl ⟨rfl, HJ.out⟩, hb⟩

theorem zero32' (w : World) : (zeroValue 32).run Try.prog w = .ok (mv ((0, 0, 0), 0, 0, 0)) w := by kernel_rfl

set_option maxRecDepth 100000 in
set_option maxHeartbeats 2000000 in
theorem deleteFunc_any {w : World} {v : Value} {l : List M} (h : Own w v l) (hs : Srt l) (hlen : l.length ≤ 1000) (t : Int) (tB : Nat) (hc : w.cell? ⟨tB, 0, none⟩ = some (.int .i64 t)) (hne : v.ownBlock ≠ some tB) :
    Calls Try.prog 43 #[v, .func (.func 44) #[] #[.pointer (some ⟨tB, 0, none⟩)]] w fun e w' => ∃ v', e = .returned v' ∧ Own w' v' (low l t) ∧ (∀ k, v'.ownBlock = some k → v.ownBlock = some k) ∧ Fr (fun k => v.ownBlock = some k) w w' := by
  have eg : ∀ args w, (callFunc 44 args).run Try.prog w = .ok (.enter 44 args) w := enters_of Try.func44 (by kernel_rfl) rfl
  have htl := cell_lt hc
  have IX := indexFunc_any h hlen t tB hc
  obtain ⟨a, cap, rfl, hjunk⟩ := h.rd
  clear hjunk
  go_enter Try.func43, Try.ntmps43
  go_wp2_with fail
  refine IX.mono ?_
  rintro e w1 ⟨⟨rfl, hall⟩ | ⟨i, hi, rfl, hbef, hat⟩, b1⟩
  · have e1 : low l t = l := by
      have := low_take hs t l.length (Nat.le_refl _) hall (fun j h1 h2 => by omega)
      rw [this, List.take_length]
    have HE : Hid _ := e1
    have o1 : Aside (Own w1 (.slice a l.length cap) l) := h.keep (S := fun _ => False) (Fr.of_below b1) (fun _ _ g => g)
    have f1 : Aside (Fr (fun k => (Value.slice a l.length cap).ownBlock = some k) w w1) := Fr.of_below b1
    clear h b1 IX hall e1
    go_wp2
    go_ret
    rw [HE.out]
    exact ⟨_, rfl, o1.out, fun k hk => hk, f1.out⟩
  · have e1 := low_take hs t i (by omega) hbef (fun j h1 h2 => by have := srt_time hs h1 h2; omega)
    obtain ⟨g, cap', hv, hg⟩ := own_nonempty h hi
    obtain ⟨rfl, rfl⟩ : a = some ⟨g, 0, none⟩ ∧ cap = cap' := by simpa using hv
    have HM : Aside (∀ j, i ≤ j → j < l.length → t ≤ (nth l j).1.1) := fun j h1 h2 => by have := srt_time hs h1 h2; omega
    have hne' : g ≠ tB := fun e => hne (by rw [e]; rfl)
    have hi0 : ((i : Int) == -1) = false := by simp
    have hi1 : ¬ ((i : Int) = -1) := by omega
    clear hv hbef hat IX
    go_wp2_with fail
    go_loopw [5, 6] (fun s5 s6 wr => s5 = .int .i64 i ∧ ∃ j : Nat, i < j ∧ j ≤ l.length ∧ s6 = .int .i64 j ∧ Below w.heap.size w wr) (fun _ s6 _ => l.length - (intOf s6).toNat)
    case atStart => exact ⟨rfl, i + 1, by omega, by omega, by go_num, b1⟩
    case round =>
      obtain ⟨rfl, j, hij, hj, rfl, hb⟩ := hrel
      by_cases hjl : j < l.length
      · have hj' : (j : Int) < (l.length : Int) := by omega
        have hr := h.keep (S := fun _ => False) (Fr.of_below hb) (fun _ _ g => g)
        obtain ⟨x, hx⟩ : ∃ x, nth l j = x := ⟨_, rfl⟩
        obtain ⟨x0, x1, x2, x3, x4, x5⟩ := own_cell hr (x := x) hjl (by rw [← nth_get]; exact hx)
        have ht : t ≤ x.1.1 := by rw [← hx]; exact HM.out j (by omega) hjl
        have hd : decide (t ≤ x.1.1) = true := by simpa using ht
        have D := fun (W : World) (hW : Below w.heap.size w W) => delp_any x t tB W ((hW.cell (p := ⟨tB, 0, none⟩) htl).trans hc)
        simp only [hd] at D
        have DD : Aside _ := D
        clear hx hr D
        go_wp2_with fail
        have b2 := hb.alloc hb.size (.cells #[.int .i64 x.1.1, .int .i64 x.1.2.1, .int .i64 x.1.2.2, .int .i64 x.2.1, .int .i64 x.2.2.1, .int .i64 x.2.2.2] 32)
        refine Calls.mono (DD.out _ b2) ?_
        rintro e w3 ⟨rfl, b3⟩
        have hB : Aside (Below w.heap.size w w3) := b2.trans (b3.mono b2.size)
        clear b3 b2 DD hb
        go_wp2
        go_roundw
        case rel => exact ⟨rfl, j + 1, by omega, by omega, by go_num, hB.out⟩
        case measure => simp [intOf]; omega
      · obtain rfl : j = l.length := by omega
        have hr := h.keep (S := fun _ => False) (Fr.of_below hb) (fun _ _ g => g)
        obtain ⟨_, cur, hgb, hc1, hc2, hc3, hc4⟩ := hr.block
        obtain ⟨row2, hs2, ht2, hcl⟩ := run_clear6 (P := Try.prog) wr 44 32 (mv ((0, 0, 0), 0, 0, 0)) Try.underlying44 zero32' rfl (by intro v hv; simp [Value.cells] at hv; rcases hv with rfl | rfl | rfl | rfl | rfl | rfl <;> rfl) g (i * 6) (l.length - i) (by omega) cur 32 hgb (by rw [hc3]; omega)
        have hg2 : (wr.setRow g row2).heap[g]? = some (.cells row2 32 (0, 0)) := setRow_heap wr g cur _ 32 _ hgb
        have hl2 : (l.take i).length = i := by rw [List.length_take]; omega
        have hF : Aside (Own (wr.setRow g row2) (.slice (some ⟨g, 0, none⟩) i cap) (l.take i)) := by
          have := own_of_block (w := wr.setRow g row2) (g := g) (cap := cap) (l := l.take i) hg2 (by omega) hc2 (by rw [hs2, hc3]) ?_
          · rwa [hl2] at this
          · rw [hl2, ht2 _ (Nat.le_refl _), flat_take, ← hc4, List.take_take]
            congr 1
            omega
        have fF : Aside (Fr (fun k => (Value.slice (some ⟨g, 0, none⟩) l.length cap).ownBlock = some k) w (wr.setRow g row2)) := (Fr.of_below hb).trans (fr_setRow _ _ _) (fun k _ e => by subst e; rfl)
        unfold maxLen at hc2
        have hcap : cap ≤ 9223372036854775807 := by omega
        have q1 : (i : Int) ≤ (l.length : Int) := by omega
        have q2 : ¬ (cap = i) := by omega
        have q3 : i ≤ cap := by omega
        have HE : Hid _ := e1
        clear hr hgb hc3 hc4 hs2 ht2 hg2 h e1 hb b1
        go_wp2
        go_ret
        rw [HE.out]
        exact ⟨_, rfl, hF.out, fun k hk => hk, fF.out⟩

set_option maxRecDepth 100000 in
set_option maxHeartbeats 1000000 in
theorem cbelow_any {w : World} {qb room day : Nat} {vs : Nat → Value} {s : List M} (h : IsC w qb room day vs s) (t : Int) :
    Calls Try.prog 20 #[.pointer (some ⟨qb, 0, none⟩), .int .i64 t] w fun e w' => ∃ v, e = .returned v ∧ Own w' v (low s t) ∧ (∀ k, v.ownBlock = some k → w.heap.size ≤ k) ∧ Below w.heap.size w w' := by
  have hlen := h.len
  have hrm := h.rm
  obtain ⟨w1, hw1⟩ : ∃ w1, w1 = w.alloc (.cells #[.int .i64 t] 3) := ⟨_, rfl⟩
  have b1 : Below w.heap.size w w1 := by rw [hw1]; exact (Below.refl _ w).alloc (Nat.le_refl _) _
  have c1 : w1.cell? ⟨w.heap.size, 0, none⟩ = some (.int .i64 t) := by rw [hw1]; go_simp
  have s1 : w1.heap.size = w.heap.size + 1 := by rw [hw1]; simp
  have L := clist_any (h.below b1)
  have hs := h.srt
  have HW : Hid _ := hw1
  clear h hw1
  go_enter Try.func20, Try.ntmps20
  go_wp2_with fail
  rw [← HW.out]
  refine L.mono ?_
  rintro e w2 ⟨v2, rfl, o2, l2, b2⟩
  have D := deleteFunc_any o2 hs (by omega) t w.heap.size ((b2.cell (p := ⟨w.heap.size, 0, none⟩) (by rw [s1]; exact Nat.lt_succ_self _)).trans c1) (fun e => by have := l2 _ e; omega)
  obtain ⟨a, cap, rfl, hjunk⟩ := o2.rd
  clear hjunk
  go_wp2_with fail
  refine D.mono ?_
  rintro e w3 ⟨v3, rfl, o3, l3, f3⟩
  obtain ⟨a3, cap3, rfl, hjunk⟩ := o3.rd
  clear hjunk
  have b12 : Below w.heap.size w w2 := b1.trans (b2.mono b1.size)
  have l2' : ∀ k, (Value.slice a s.length cap).ownBlock = some k → w.heap.size ≤ k := fun k hk => by have := l2 k hk; omega
  have B : Aside (Below w.heap.size w w3) := b12.trans (f3.below b12.size l2')
  have O : Aside _ := o3
  have LL : Aside (∀ k, (Value.slice a3 (low s t).length cap3).ownBlock = some k → w.heap.size ≤ k) := fun k hk => l2' k (l3 k hk)
  clear o3 f3 l3 D L o2 b12 b1 b2
  go_wp2
  go_ret
  exact ⟨_, rfl, O.out, LL.out, B.out⟩
end Go.Proofs.Ytjkcdkoomipfkaa
