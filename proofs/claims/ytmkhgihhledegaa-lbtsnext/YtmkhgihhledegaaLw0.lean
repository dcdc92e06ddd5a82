/- Proved: members handed over to the document; outputs and bounds of both, where the greatest that fit are given. -/
import Derived.Test.YtmkhgihhledegaaPb3
import Derived.Test.YtmkhgihhledegaaDlo
namespace Go.Proofs.Ytmkhgihhledegaa
open Go.RowKit Go.Shelf
open L (Mb IsG lbt oth outM cnt vadd)
set_option linter.unusedVariables false

def tyM : Ty cB 26 49 := ⟨.agg #[.bool false, .bool false, .int .i64 0, .int .i64 0, .int .i64 0, .int .i64 0, .int .i64 0], 48, Try.underlying26, by kernel_rfl, rfl, by decide⟩
/-- A row of members that was made since w. -/
structure Rmk (e : TypeId) (w W : World) (v : Value) (l : List Mb) : Prop where
  own : OwR cB e W v l
  new : ∀ k, v.ownBlock = some k → w.heap.size ≤ k
  bel : Below w.heap.size w W
theorem Rmk.on {e : TypeId} {w W W2 : World} {v : Value} {l : List Mb} (h : Rmk e w W v l) (g : Below W.heap.size W W2) : Rmk e w W2 v l := ⟨h.own.below g, h.new, Below.on h.bel g⟩
theorem Rmk.app {e : TypeId} {w W W2 : World} {v v2 : Value} {l l2 : List Mb} (h : Rmk e w W v l) (ho : OwR cB e W2 v2 l2) (hm : Mw (fun k => v.ownBlock = some k) (fun k => v2.ownBlock = some k) W W2) : Rmk e w W2 v2 l2 :=
  ⟨ho, fun k g => by
    by_cases q : k < W.heap.size
    · exact h.new k (hm.new k q g)
    · have := h.bel.size; omega, h.bel.trans (hm.fr.below h.bel.size h.new)⟩
theorem Rmk.made {e : TypeId} {w W : World} (h : Below w.heap.size w W) : Rmk e w (W.alloc (.cells #[] e)) (.slice (some ⟨W.heap.size, 0, none⟩) 0 0) [] :=
  ⟨OwR.made _ _ _, fun k g => by simp [Value.ownBlock] at g; have := h.size; omega, Below.on h (al _ _)⟩
theorem Rmk.rd {e : TypeId} {w W : World} {a : Option Addr} {n c : Nat} {l : List Mb} (h : Rmk e w W (.slice a n c) l) : RdN cB (fun _ => True) W a l := h.own.look.2.wide (fun _ _ _ => trivial)
set_option maxRecDepth 100000 in
set_option maxHeartbeats 1000000 in
theorem theirs_any {N : Nat → Prop} {w : World} {a : Option Addr} {c n : Nat} {l : List Mb} (hl : RdN cB N w a l) (hn : l.length = n) (h1 : n ≤ 1000) :
    Calls Try.prog 11 #[.slice a n c] w fun e w' => ∃ a' c', e = .returned (.slice a' n c') ∧ RdN cB (fun _ => True) w' a' l ∧ Below w.heap.size w w' := by
  have HL : Hid (RdN cB N w a l) := hl
  have HN : Hid (l.length = n) := hn
  have H0 : Hid _ := Rmk.made (e := 49) (Below.refl w.heap.size w)
  clear hl hn
  go_enter Try.func11, Try.ntmps11
  go_wp2
  go_loopw [3, 4] (fun s3 s4 wr => ∃ (k : Nat) (oa : Option Addr) (oc : Nat), s4 = .int .i64 k ∧ k ≤ n ∧ s3 = .slice oa k oc ∧ Hid (Rmk 49 w wr (.slice oa k oc) (l.take k))) (fun _ s4 _ => n - (intOf s4).toNat)
  case atStart => exact ⟨0, _, _, rfl, Nat.zero_le _, rfl, H0.out⟩
  case round =>
    obtain ⟨k, oa, oc, rfl, hk, rfl, HR⟩ := hrel
    by_cases hlt : k < n
    · have hlt' : (k : Int) < (n : Int) := by omega
      obtain ⟨m, hm⟩ : ∃ m, L.nth l k = m := ⟨_, rfl⟩
      have HL2 : RdN cB N wr a l := HL.out.below HR.out.bel
      obtain ⟨mb, off, rfl, hmb, m0, m1, m2, m3, m4, m5, m6⟩ := RdN.mb HL2 (by rw [HN.out]; exact hlt) hm
      obtain ⟨Y, hY⟩ : ∃ Y, l.take (k + 1) = Y := ⟨_, rfl⟩
      obtain ⟨Z, hZ⟩ : ∃ Z, l.take k = Z := ⟨_, rfl⟩
      rw [hZ] at HR
      have HY : Hid (l.take (k + 1) = Y) := hY
      have HX : Hid (Z ++ [m] = Y ∧ Z.length = k ∧ Y.length = k + 1) := by
        rw [← hZ, ← hY]
        have hq : k < l.length := by rw [HN.out]; exact hlt
        refine ⟨?_, by simp; omega, by simp; omega⟩
        rw [List.take_add_one, ← hm]
        unfold L.nth
        simp [hq]
      clear HL2 hm hY hZ
      obtain ⟨r, co, ti, lo, ki, ak, fi⟩ := m
      simp only at m0 m1 m2 m3 m4 m5 m6
      go_wp2_with (at_builtin; refine wpList_append_R tyM (fun _ => True) _ rfl (.tmp 17) (.tmp 33) rfl (.slice oa k oc) _ _ Z [⟨r, co, ti, lo, ki, ak, fi⟩] (by rw [← HX.out.2.1]; rfl) rfl (((Hid.out HR).on (al _ _)).on (al _ _)).own (RdN.newAt cB _ _ _ _ _ (by simp) rfl trivial) (by rw [HX.out.2.1]; omega) (by simp) Y HX.out.1 ?_; intro oa' oc' w3 ho hm; have H3 : Hid (Rmk 49 w w3 (.slice oa' Y.length oc') Y) := (((Hid.out HR).on (al _ _)).on (al _ _)).app ho hm; clear ho hm)
      go_roundw
      case rel =>
        refine ⟨k + 1, oa', oc', by go_num, by omega, by rw [HX.out.2.2], ?_⟩
        have := H3.out
        rw [HX.out.2.2] at this
        rw [HY.out]
        exact this
      case measure => simp [intOf]; omega
    · obtain rfl : k = n := by omega
      have e : l.take k = l := List.take_of_length_le (by rw [HN.out]; omega)
      rw [e] at HR
      go_wp2
      go_ret
      exact ⟨oa, oc, rfl, HR.out.rd, HR.out.bel⟩
theorem po_any {N : Nat → Prop} {w : World} {a : Option Addr} {c n : Nat} {l : List Mb} {O : Nat → Int} (hG : IsG l O) (hl : RdN cB N w a l) (hn : l.length = n) (h1 : n ≤ 1000) :
    Calls Try.prog 9 #[.slice a n c] w fun e w' => ∃ bo, e = .returned (rowV bo n) ∧ Rv w' bo n (iv O) ∧ w.heap.size ≤ bo ∧ Below w.heap.size w w' :=
  (pouts_any hl hn h1).mono fun e w' ⟨bo, o, he, hg, hr, hge, hb⟩ => ⟨bo, he, hr.same (fun j hj => by unfold iv; rw [hg.one hG (by rw [hn]; exact hj)]), hge, hb⟩
theorem pb_any {N : Nat → Prop} {w : World} {a : Option Addr} {c n : Nat} {l : List Mb} {O : Nat → Int} (hG : IsG l O) (hl : RdN cB N w a l) (hn : l.length = n) (h1 : n ≤ 1000) (i : Int) :
    Calls Try.prog 12 #[.slice a n c, .int .i64 i] w fun e w' => e = .returned (.int .i64 (lbt l O i)) ∧ Below w.heap.size w w' :=
  (plbts_any hl hn h1 i).mono fun e w' ⟨o, hg, he, hb⟩ => ⟨by rw [he, L.lbt_same (fun j hj => hg.one hG hj)], hb⟩
theorem pb_nil (w : World) (i : Int) : Calls Try.prog 12 #[.slice none 0 0, .int .i64 i] w fun e w' => e = .returned (.int .i64 1125899906842624) ∧ Below w.heap.size w w' :=
  (plbts_any (N := fun _ => True) (RdN.nil cB _ w none) rfl (Nat.zero_le _) i).mono fun e w' ⟨o, hg, he, hb⟩ => ⟨he, hb⟩
theorem do_any {w : World} {a : Option Addr} {c n : Nat} {l : List Mb} {O : Nat → Int} (hG : IsG l O) (hl : RdN cB (fun _ => True) w a l) (hn : l.length = n) (h1 : n ≤ 1000) :
    Calls Try.prog 10 #[.slice a n c] w fun e w' => ∃ oa oc o, e = .returned (.slice oa n oc) ∧ Ri w w' (.slice oa n oc) o ∧ o.length = n ∧ ∀ j, j < n → o.getD j 0 = O j := by
  subst hn
  exact (outputs_any hl h1).mono fun e w' ⟨oa, oc, o, he, hlo, hg, hr⟩ => ⟨oa, oc, o, he, hr, hlo, fun j hj => hg.one hG hj⟩
theorem db_any {w : World} {a : Option Addr} {c n : Nat} {l : List Mb} {O : Nat → Int} (hG : IsG l O) (hl : RdN cB (fun _ => True) w a l) (hn : l.length = n) (h1 : n ≤ 1000) (i : Int) :
    Calls Try.prog 13 #[.slice a n c, .int .i64 i] w fun e w' => e = .returned (.int .i64 (lbt l O i)) ∧ Below w.heap.size w w' := by
  subst hn
  exact (dlbts_any hl h1 i).mono fun e w' ⟨o, hg, he, hb⟩ => ⟨by rw [he, L.lbt_same (fun j hj => hg.one hG hj)], hb⟩
end Go.Proofs.Ytmkhgihhledegaa
