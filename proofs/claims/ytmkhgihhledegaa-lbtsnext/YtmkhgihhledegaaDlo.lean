/- Proved: contracts of the document's Outputs and Lbts. -/
import Derived.Test.YtmkhgihhledegaaDlb
namespace Go.Proofs.Ytmkhgihhledegaa
open Go.RowKit Go.Shelf
open L (Mb IsG lbt oth outM outF base cnt vadd Dn)
set_option linter.unusedVariables false

theorem OwR.rdI {W : World} {a : Option Addr} {n c : Nat} {l : List Int} (h : OwR cI 3 W (.slice a n c) l) : n = l.length ∧ RdN cI (fun _ => True) W a l := ⟨h.look.1, h.look.2.wide (fun _ _ _ => trivial)⟩
/-- A row of integers that was made since w. -/
structure Ri (w W : World) (v : Value) (l : List Int) : Prop where
  own : OwR cI 3 W v l
  new : ∀ k, v.ownBlock = some k → w.heap.size ≤ k
  bel : Below w.heap.size w W
theorem Ri.on {w W W2 : World} {v : Value} {l : List Int} (h : Ri w W v l) (g : Below W.heap.size W W2) : Ri w W2 v l := ⟨h.own.below g, h.new, Below.on h.bel g⟩
theorem Ri.app {w W W2 : World} {v v2 : Value} {l l2 : List Int} (h : Ri w W v l) (ho : OwR cI 3 W2 v2 l2) (hm : Mw (fun k => v.ownBlock = some k) (fun k => v2.ownBlock = some k) W W2) : Ri w W2 v2 l2 :=
  ⟨ho, fun k e => by
    by_cases g : k < W.heap.size
    · exact h.new k (hm.new k g e)
    · have := h.bel.size; omega, h.bel.trans (hm.fr.below h.bel.size h.new)⟩
theorem Ri.made {w W : World} (h : Below w.heap.size w W) : Ri w (W.alloc (.cells #[] 3)) (.slice (some ⟨W.heap.size, 0, none⟩) 0 0) [] :=
  ⟨OwR.made _ _ _, fun k e => by simp [Value.ownBlock] at e; have := h.size; omega, Below.on h (al _ _)⟩
/-- Two of them. -/
structure Rj (w W : World) (v : Value) (l : List Int) (v2 : Value) (l2 : List Int) : Prop where
  a : Ri w W v l
  b : OwR cI 3 W v2 l2
  nb : ∀ k, v2.ownBlock = some k → w.heap.size ≤ k ∧ v.ownBlock ≠ some k
theorem Rj.on {w W W2 : World} {v v2 : Value} {l l2 : List Int} (h : Rj w W v l v2 l2) (g : Below W.heap.size W W2) : Rj w W2 v l v2 l2 := ⟨h.a.on g, h.b.below g, h.nb⟩
theorem Rj.made {w W : World} {v : Value} {l : List Int} (h : Ri w W v l) : Rj w (W.alloc (.cells #[] 3)) v l (.slice (some ⟨W.heap.size, 0, none⟩) 0 0) [] :=
  ⟨h.on (al _ _), OwR.made _ _ _, fun k e => by
    simp [Value.ownBlock] at e
    subst e
    exact ⟨h.bel.size, fun g => by have := h.own.lt g; omega⟩⟩
theorem Rj.app {w W W2 : World} {v v2 v3 : Value} {l l2 l3 : List Int} (h : Rj w W v l v2 l2) (ho : OwR cI 3 W2 v3 l3) (hm : Mw (fun k => v2.ownBlock = some k) (fun k => v3.ownBlock = some k) W W2) : Rj w W2 v l v3 l3 :=
  ⟨⟨h.a.own.keep hm.fr (fun g e s => (h.nb g s).2 e), h.a.new, h.a.bel.trans (hm.fr.below h.a.bel.size (fun i e => (h.nb i e).1))⟩, ho, fun k e => by
    by_cases g : k < W.heap.size
    · exact h.nb k (hm.new k g e)
    · exact ⟨by have := h.a.bel.size; omega, fun s => by have := h.a.own.lt s; omega⟩⟩
theorem Rj.fin {w W : World} {v v2 : Value} {l l2 : List Int} (h : Rj w W v l v2 l2) : Ri w W v2 l2 := ⟨h.b, fun k e => (h.nb k e).1, h.a.bel⟩
theorem fn_app {l : List Int} {x : Int} {i : Nat} (h : i < l.length) : (l ++ [x]).getD i 0 = l.getD i 0 := by simp [List.getElem?_append_left, h]
theorem fn_last (l : List Int) (x : Int) : (l ++ [x]).getD l.length 0 = x := by simp
set_option maxRecDepth 100000 in
set_option maxHeartbeats 4000000 in
theorem outputs_any {w : World} {a : Option Addr} {c : Nat} {l : List Mb} (hl : RdN cB (fun _ => True) w a l) (h1 : l.length ≤ 1000) :
    Calls Try.prog 10 #[.slice a l.length c] w fun e w' => ∃ oa oc o, e = .returned (.slice oa l.length oc) ∧ o.length = l.length ∧ IsG l (fn o) ∧ Ri w w' (.slice oa l.length oc) o := by
  have HL : Hid (RdN cB (fun _ => True) w a l) := hl
  obtain ⟨n, hn⟩ : ∃ n, l.length = n := ⟨_, rfl⟩
  have HN : Hid (l.length = n) := hn
  rw [hn] at h1 ⊢
  clear hl hn
  go_enter Try.func10, Try.ntmps10
  go_wp2
  have H0 : Hid _ := Ri.made (Below.refl w.heap.size w)
  go_loopw [3, 4] (fun s3 s4 wr => ∃ (k : Nat) (oa : Option Addr) (oc : Nat) (o : List Int), s4 = .int .i64 k ∧ k ≤ n ∧ s3 = .slice oa k oc ∧ Hid (Ri w wr (.slice oa k oc) o) ∧ Hid (o.length = k ∧ ∀ i, i < k → o.getD i 0 = L.inf)) (fun _ s4 _ => n - (intOf s4).toNat)
  case atStart => exact ⟨0, _, _, [], rfl, Nat.zero_le _, rfl, H0.out, (⟨rfl, fun i hi => by omega⟩ : ([] : List Int).length = 0 ∧ ∀ i, i < 0 → ([] : List Int).getD i 0 = L.inf)⟩
  case round =>
    obtain ⟨k, oa, oc, o, rfl, hk, rfl, HR, HO⟩ := hrel
    by_cases hlt : k < n
    · have hlt' : (k : Int) < (n : Int) := by omega
      obtain ⟨Y, hY⟩ : ∃ Y, o ++ [1125899906842624] = Y := ⟨_, rfl⟩
      have HY : Hid (o ++ [1125899906842624] = Y) := hY
      have HYL : Hid (Y.length = k + 1 ∧ ∀ i, i < k + 1 → Y.getD i 0 = L.inf) := by
        show _ ∧ _
        rw [← hY]
        refine ⟨by simp [HO.out.1], fun i hi => ?_⟩
        by_cases e : i < k
        · rw [fn_app (by rw [HO.out.1]; exact e)]; exact HO.out.2 i e
        · have : i = o.length := by rw [HO.out.1]; omega
          rw [this, fn_last]
      clear hY
      go_wp2_with (at_builtin; refine wpList_append_R tyI (fun _ => True) _ rfl (.tmp 16) (.tmp 17) rfl (.slice oa k oc) _ _ o [1125899906842624] rfl rfl ((Hid.out HR).own.below (al _ _)) (RdN.newAt cI _ _ _ _ _ (by simp) rfl trivial) (by rw [HO.out.1]; omega) (by simp) Y HY.out ?_; intro oa' oc' w3 ho hm; have H3 : Hid (Ri w w3 (.slice oa' Y.length oc') Y) := ((Hid.out HR).on (al _ _)).app ho hm; clear ho hm)
      go_roundw
      case rel =>
        refine ⟨k + 1, oa', oc', Y, by go_num, by omega, by rw [HYL.out.1], ?_, HYL.out⟩
        have := H3.out
        rw [HYL.out.1] at this
        exact this
      case measure => simp [intOf]; omega
    · obtain rfl : k = n := by omega
      have HD : Hid (Dn l (fn o)) := (L.Dn.start l).same (fun i hi => (HO.out.2 i (by rw [← HN.out]; exact hi)).symm)
      go_wp2_with fail
      go_loopg [3] (L.sum (fn o) k + 1) (fun g s3 wr => ∃ (oa : Option Addr) (oc : Nat) (o : List Int), s3 = .slice oa k oc ∧ Hid (Ri w wr (.slice oa k oc) o) ∧ Hid (o.length = k) ∧ Hid (Dn l (fn o)) ∧ Hid (g = L.sum (fn o) k + 1))
      case atStart => exact ⟨oa, oc, o, rfl, HR.out, HO.out.1, HD.out, (rfl : L.sum (fn o) k + 1 = L.sum (fn o) k + 1)⟩
      case round =>
        obtain ⟨oa, oc, o, rfl, HR, HOL, HD, HG⟩ := hrel
        go_wp2_with fail
        have H0 : Hid _ := Rj.made HR.out
        obtain ⟨nb0, hnb0⟩ : ∃ nb0, wr.heap.size = nb0 := ⟨_, rfl⟩
        rw [hnb0] at H0
        try simp only [hnb0] at ⊢
        clear hnb0
        go_loopw [5, 6, 7] (fun s5 s6 s7 wr => ∃ (i : Nat) (na : Option Addr) (nc : Nat) (y : List Int) (sm : Bool), s7 = .int .i64 i ∧ i ≤ k ∧ s5 = .slice na i nc ∧ s6 = .bool sm ∧ Hid (Rj w wr (.slice oa k oc) o (.slice na i nc) y) ∧ Hid (y.length = i ∧ ∀ j, j < i → y.getD j 0 = outF l (fn o) j) ∧ Hid (sm = true ↔ ∀ j, j < i → outF l (fn o) j = o.getD j 0)) (fun _ _ s7 _ => k - (intOf s7).toNat)
        case atStart => exact ⟨0, _, _, [], true, rfl, Nat.zero_le _, rfl, rfl, H0.out, (⟨rfl, fun j hj => by omega⟩ : ([] : List Int).length = 0 ∧ ∀ j, j < 0 → ([] : List Int).getD j 0 = outF l (fn o) j), (⟨fun _ j hj => by omega, fun _ => rfl⟩ : true = true ↔ ∀ j, j < 0 → outF l (fn o) j = o.getD j 0)⟩
        case round =>
          obtain ⟨i, na, nc, y, sm, rfl, hi, rfl, rfl, HJ, HY, HS⟩ := hrel
          by_cases hlti : i < k
          · have hlti' : (i : Int) < (k : Int) := by omega
            obtain ⟨t, ht⟩ : ∃ t, outF l (fn o) i = t := ⟨_, rfl⟩
            have OU : Hid (Calls Try.prog 19 #[.slice a k c, .slice oa k oc, .int .i64 i] wr fun e w' => e = .returned (.int .i64 t) ∧ Below wr.heap.size wr w') := by
              have q := output_any (c := c) (oc := oc) (i := i) (HL.out.keep (S := fun _ => False) (N' := fun _ => True) ⟨HJ.out.a.bel.os, HJ.out.a.bel.tape, HJ.out.a.bel.output, HJ.out.a.bel.size, fun q hq _ => HJ.out.a.bel.block q hq⟩ (fun _ _ g => ⟨fun e => e, g⟩)) HJ.out.a.own.rdI.2 (by rw [HOL.out, HN.out]) (by rw [HN.out]; exact h1) (by rw [HN.out]; exact hlti)
              rw [ht, HN.out] at q
              exact q
            obtain ⟨x, hx⟩ : ∃ x, o.getD i 0 = x := ⟨_, rfl⟩
            obtain ⟨Y, hYe⟩ : ∃ Y, y ++ [t] = Y := ⟨_, rfl⟩
            have HYE : Hid (y ++ [t] = Y) := hYe
            have HY2 : Hid (Y.length = i + 1 ∧ ∀ j, j < i + 1 → Y.getD j 0 = outF l (fn o) j) := by
              show _ ∧ _
              rw [← hYe]
              refine ⟨by simp [HY.out.1], fun j hj => ?_⟩
              by_cases e : j < i
              · rw [fn_app (by rw [HY.out.1]; exact e)]; exact HY.out.2 j e
              · have : j = y.length := by rw [HY.out.1]; omega
                rw [this, fn_last, HY.out.1, ht]
            have HC : Hid (∀ W, Rj w W (.slice oa k oc) o (.slice na i nc) y → ∃ ob ooff, oa = some ⟨ob, ooff, none⟩ ∧ ob < W.heap.size ∧ W.cell? ⟨ob, ooff + i, none⟩ = some (.int .i64 x)) := fun W h => RdN.int h.a.own.rdI.2 (by rw [HOL.out]; exact hlti) hx
            have HS2 : Hid ((sm && decide (t = x)) = true ↔ ∀ j, j < i + 1 → outF l (fn o) j = o.getD j 0) := by
              show _ ↔ _
              rw [Bool.and_eq_true, HS.out, decide_eq_true_iff]
              constructor
              · intro g j hj
                by_cases e : j < i
                · exact g.1 j e
                · have : j = i := by omega
                  rw [this, ht, hx]; exact g.2
              · intro g
                exact ⟨fun j hj => g j (by omega), by rw [← ht, ← hx]; exact g i (by omega)⟩
            clear ht hx hYe
            cases sm
            · have HS3 : Hid (false = true ↔ ∀ j, j < i + 1 → outF l (fn o) j = o.getD j 0) := HS2.out
              go_wp2_with (first
                | (go_at_call 19; refine (Hid.out OU).mono ?_; rintro e w3 ⟨rfl, h3⟩; have H3 : Hid _ := (Hid.out HJ).on h3; clear h3)
                | (at_builtin; refine wpList_append_R tyI (fun _ => True) _ rfl (.tmp 39) (.tmp 41) rfl (.slice na i nc) _ _ y [t] rfl rfl ((Hid.out H3).on (al _ _)).b (RdN.newAt cI _ _ _ _ _ (by simp) rfl trivial) (by rw [HY.out.1]; omega) (by simp) Y HYE.out ?_; intro na' nc' w4 ho hm; have H4 : Hid (Rj w w4 (.slice oa k oc) o (.slice na' Y.length nc') Y) := ((Hid.out H3).on (al _ _)).app ho hm; clear ho hm))
              go_roundw
              case rel =>
                refine ⟨i + 1, na', nc', Y, false, by go_num, by omega, by rw [HY2.out.1], rfl, ?_, HY2.out, HS3.out⟩
                have := H4.out
                rw [HY2.out.1] at this
                exact this
              case measure => simp [intOf]; omega
            · obtain ⟨d, hd⟩ : ∃ d, decide (t = x) = d := ⟨_, rfl⟩
              have HS3 : Hid (d = true ↔ ∀ j, j < i + 1 → outF l (fn o) j = o.getD j 0) := by
                have := HS2.out
                rw [hd] at this
                exact this
              have hd2 : Hid ((t == x) = d) := by show _ = _; rw [← hd]; by_cases g : t = x <;> simp [g]
              clear hd
              go_wp2_with (first
                | (go_at_call 19; refine (Hid.out OU).mono ?_; rintro e w3 ⟨rfl, h3⟩; have H3 : Hid _ := (Hid.out HJ).on h3; obtain ⟨ob, ooff, rfl, hob2, cx⟩ := HC.out _ ((Hid.out HJ).on h3); clear h3)
                | (at_builtin; refine wpList_append_R tyI (fun _ => True) _ rfl (.tmp 39) (.tmp 41) rfl (.slice na i nc) _ _ y [t] rfl rfl ((Hid.out H3).on (al _ _)).b (RdN.newAt cI _ _ _ _ _ (by simp) rfl trivial) (by rw [HY.out.1]; omega) (by simp) Y HYE.out ?_; intro na' nc' w4 ho hm; have H4 : Hid (Rj w w4 (.slice (some ⟨ob, ooff, none⟩) k oc) o (.slice na' Y.length nc') Y) := ((Hid.out H3).on (al _ _)).app ho hm; clear ho hm))
              go_roundw
              case rel =>
                refine ⟨i + 1, na', nc', Y, d, by go_num, by omega, by rw [HY2.out.1], by rw [hd2.out], ?_, HY2.out, HS3.out⟩
                have := H4.out
                rw [HY2.out.1] at this
                exact this
              case measure => simp [intOf]; omega
          · obtain rfl : i = k := by omega
            have HE : Hid (∀ j, j < l.length → outF l (fn o) j = y.getD j 0) := fun j hj => (HY.out.2 j (by rw [← HN.out]; exact hj)).symm
            cases sm
            · have HD2 : Hid (Dn l (fn y)) := HD.out.next.same HE.out
              have HLT : Hid (L.sum (fn y) i + 1 < gk) := by
                show _ < _
                rw [HG.out]
                obtain ⟨j, hj⟩ := Classical.not_forall.1 (fun g => absurd (HS.out.2 g) (by decide))
                obtain ⟨hj1, hj2⟩ := Classical.not_imp.1 hj
                have h2 := HD.out.less (i := j) (by rw [HN.out]; exact hj1) hj2
                have h3 := L.sum_le (o := fn y) (o' := outF l (fn o)) (k := i) (fun q hq => Int.le_of_eq (HE.out q (by rw [HN.out]; exact hq)).symm)
                rw [HN.out] at h2
                omega
              go_wp2_with fail
              go_roundg (L.sum (fn y) i + 1)
              case measure => exact HLT.out
              case rel => exact ⟨na, nc, y, rfl, HJ.out.fin, HY.out.1, HD2.out, (rfl : L.sum (fn y) i + 1 = L.sum (fn y) i + 1)⟩
            · have HI : Hid (IsG l (fn y)) := by
                have e : ∀ j, j < l.length → fn o j = outF l (fn o) j := fun j hj => (HS.out.1 rfl j (by rw [← HN.out]; exact hj)).symm
                have g := HD.out.fin e
                have e2 : ∀ j, j < l.length → fn o j = fn y j := fun j hj => (e j hj).trans (HE.out j hj)
                exact ⟨fun j hj => by rw [← e2 j hj, g.fx j hj, L.outF_same e2 j], fun x hx j hj => by rw [← e2 j hj]; exact g.gr x hx j hj⟩
              go_wp2
              go_ret
              exact ⟨na, nc, rfl, y, HY.out.1, HI.out, HJ.out.fin⟩
set_option maxHeartbeats 1000000 in
theorem dlbts_any {w : World} {a : Option Addr} {c : Nat} {l : List Mb} (hl : RdN cB (fun _ => True) w a l) (h1 : l.length ≤ 1000) (i : Int) :
    Calls Try.prog 13 #[.slice a l.length c, .int .i64 i] w fun e w' => ∃ o, IsG l o ∧ e = .returned (.int .i64 (lbt l o i)) ∧ Below w.heap.size w w' := by
  have OU := outputs_any (c := c) hl h1
  have OT : Hid (∀ W (oa : Option Addr) oc (o : List Int), o.length = l.length → Ri w W (.slice oa l.length oc) o → Calls Try.prog 21 #[.slice a l.length c, .slice oa l.length oc, .int .i64 i] W fun e w' => e = .returned (.int .i64 (lbt l (fn o) i)) ∧ W = w') := fun W oa oc o ho hr =>
    others_any (hl.keep (S := fun _ => False) (N' := fun _ => True) ⟨hr.bel.os, hr.bel.tape, hr.bel.output, hr.bel.size, fun q hq _ => hr.bel.block q hq⟩ (fun _ _ g => ⟨fun e => e, g⟩)) hr.own.rdI.2 ho h1 i
  generalize hn : l.length = n at OU OT
  clear hl hn
  go_enter Try.func13, Try.ntmps13
  go_wp2_with (first
    | (go_at_call 10; refine OU.mono ?_; rintro e w1 ⟨oa, oc, o, rfl, ho, hg, hr⟩; have HO : Hid (o.length = n) := ho; have HG : Hid (IsG l (fn o)) := hg; have HR : Hid _ := hr; clear ho hg hr OU)
    | (go_at_call 21; refine (Hid.out OT _ _ _ _ (Hid.out HO) (Hid.out HR)).mono ?_; rintro e w2 ⟨rfl, rfl⟩))
  go_ret
  exact ⟨fn o, HG.out, rfl, HR.out.bel⟩
end Go.Proofs.Ytmkhgihhledegaa
