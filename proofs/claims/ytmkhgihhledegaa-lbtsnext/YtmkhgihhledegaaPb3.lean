/- Proved: contracts of the program's Lbts. -/
import Derived.Test.YtmkhgihhledegaaPb2
namespace Go.Proofs.Ytmkhgihhledegaa
open Go.RowKit Go.Shelf
open L (Mb IsG Dj lbt oth outM cnt vadd low cnF)
set_option linter.unusedVariables false

theorem lsF_is {l : List Mb} {o : Nat → Int} {i : Int} : ∀ {k : Nat}, (∀ j, j < k → o j = outM (L.nth l j) (lbt l o j)) → lsF (fun j => if (j : Int) = i then 1125899906842624 else o j) k = oth l o i k
  | 0, _ => rfl
  | k + 1, h => by
    have ih := lsF_is (l := l) (o := o) (i := i) (k := k) (fun j hj => h j (by omega))
    unfold lsF L.oth
    rw [ih]
    have hh := L.oth_hi l o i k
    unfold L.inf at hh
    by_cases e : (k : Int) = i
    · rw [if_pos e, if_neg (fun g => g.1 e), show cnt 1125899906842624 = 1125899906842624 from L.cnt_inf]
      omega
    · rw [if_neg e]
      have h2 : cnt (o k) = o k := by rw [h k (by omega)]; exact outM_cnt _ _
      rw [h2]
      by_cases r : (L.nth l k).re = true
      · rw [if_pos ⟨e, r⟩]
      · rw [if_neg (fun g => r g.2)]
        have h3 : o k = 1125899906842624 := by rw [h k (by omega)]; unfold L.outM; rw [if_neg r]
        omega
theorem lsF_same {o p : Nat → Int} : ∀ {k : Nat}, (∀ j, j < k → o j = p j) → lsF o k = lsF p k
  | 0, _ => rfl
  | k + 1, h => by
    unfold lsF
    rw [lsF_same (k := k) (fun j hj => h j (by omega)), h k (by omega)]
theorem rv_least {W : World} {b n : Nat} {o : Nat → Int} (h : Rv W b n (iv o)) (h1 : n ≤ 1000) : Calls Try.prog 20 #[rowV b n] W fun e w' => e = .returned (.int .i64 (lsF o n)) ∧ W = w' := by
  have := least_any (c := n) (h.rd (N := fun _ => True) trivial) (by simp; omega)
  simp only [List.length_map, List.length_range] at this
  rw [lsF_same (o := fn ((List.range n).map o)) (p := o) (fun j hj => getD_map_range o hj)] at this
  exact this
set_option maxHeartbeats 1000000 in
theorem plbts_any {N : Nat → Prop} {w : World} {a : Option Addr} {c n : Nat} {l : List Mb} (hl : RdN cB N w a l) (hn : l.length = n) (h1 : n ≤ 1000) (i : Int) :
    Calls Try.prog 12 #[.slice a n c, .int .i64 i] w fun e w' => ∃ o, IsG l o ∧ e = .returned (.int .i64 (lbt l o i)) ∧ Below w.heap.size w w' := by
  have OU := pouts_any (c := c) hl hn h1
  have HN : Hid (l.length = n) := hn
  have HL : Hid (∀ (W : World) (bo : Nat) (o : Nat → Int), Rv W bo n (iv o) → Calls Try.prog 20 #[rowV bo n] W fun e w' => e = .returned (.int .i64 (lsF o n)) ∧ W = w') := fun W bo o h => rv_least h h1
  have HI : Hid (∀ o, IsG l o → lsF (fun j => if (j : Int) = i then 1125899906842624 else o j) n = lbt l o i) := fun o h => by
    unfold L.lbt
    rw [HN.out]
    exact lsF_is (fun j hj => h.fx j (by rw [HN.out]; exact hj))
  clear hl hn
  by_cases hi : 0 ≤ i ∧ i < n
  · obtain ⟨q, rfl⟩ : ∃ q : Nat, i = q := ⟨i.toNat, by omega⟩
    have hq : q < n := by omega
    have hq1 : (0 : Int) ≤ (q : Int) := by omega
    have hq2 : (q : Int) < (n : Int) := by omega
    clear hi
    go_enter Try.func12, Try.ntmps12
    go_wp2_with (first
      | (go_at_call 9; refine OU.mono ?_; rintro e w1 ⟨bo, o, rfl, hg, hr, hge, hb⟩; have cz := (hr.c q hq).2; have cc := (hr.c q hq).1; have hbl := hr.lt; have HG : Hid (IsG l o) := hg; have HR : Hid (Rv w1 bo n (iv o)) := hr; have HGE : Hid (w.heap.size ≤ bo) := hge; have HB : Hid (Below w.heap.size w w1) := hb; clear hg hr hb hge OU)
      | (go_at_call 20; refine (Hid.out HL _ _ _ ((Hid.out HR).setI q 1125899906842624)).mono ?_; rintro e w2 ⟨rfl, rfl⟩))
    go_ret
    refine ⟨o, HG.out, ?_, HB.out.trans (Fr.below ((Fr.refl (fun k => k = bo) w1).setCell _ _ (.inl rfl)) HB.out.size (fun k e => by rw [e]; exact HGE.out))⟩
    have e : lsF (upI o q 1125899906842624) n = lsF (fun j => if (j : Int) = (q : Int) then 1125899906842624 else o j) n := lsF_same (fun j _ => by
      unfold upI
      by_cases e : j = q
      · rw [if_pos e, if_pos (by omega)]
      · rw [if_neg e, if_neg (by omega)])
    rw [← HI.out o HG.out, ← e]
    rfl
  · have hs : ∀ o, lsF (fun j => if (j : Int) = i then 1125899906842624 else o j) n = lsF o n := fun o => lsF_same (fun j hj => by rw [if_neg (by omega)])
    have d : (decide (0 ≤ i) && decide (i < (n : Int))) = false := by
      rw [← Bool.not_eq_true, Bool.and_eq_true, decide_eq_true_iff, decide_eq_true_iff]; exact hi
    have HS : Hid _ := hs
    clear hs
    by_cases h0 : 0 ≤ i
    · have h2 : ¬ i < (n : Int) := by omega
      clear hi d
      go_enter Try.func12, Try.ntmps12
      go_wp2_with (first
        | (go_at_call 9; refine OU.mono ?_; rintro e w1 ⟨bo, o, rfl, hg, hr, hge, hb⟩; have HG : Hid (IsG l o) := hg; have HR : Hid (Rv w1 bo n (iv o)) := hr; have HB : Hid (Below w.heap.size w w1) := hb; clear hg hr hb hge OU)
        | (go_at_call 20; refine (Hid.out HL _ _ _ (Hid.out HR)).mono ?_; rintro e w2 ⟨rfl, rfl⟩))
      go_ret
      exact ⟨o, HG.out, by rw [← HI.out o HG.out, HS.out o]; rfl, HB.out⟩
    · clear hi d
      go_enter Try.func12, Try.ntmps12
      go_wp2_with (first
        | (go_at_call 9; refine OU.mono ?_; rintro e w1 ⟨bo, o, rfl, hg, hr, hge, hb⟩; have HG : Hid (IsG l o) := hg; have HR : Hid (Rv w1 bo n (iv o)) := hr; have HB : Hid (Below w.heap.size w w1) := hb; clear hg hr hb hge OU)
        | (go_at_call 20; refine (Hid.out HL _ _ _ (Hid.out HR)).mono ?_; rintro e w2 ⟨rfl, rfl⟩))
      go_ret
      exact ⟨o, HG.out, by rw [← HI.out o HG.out, HS.out o]; rfl, HB.out⟩
end Go.Proofs.Ytmkhgihhledegaa
