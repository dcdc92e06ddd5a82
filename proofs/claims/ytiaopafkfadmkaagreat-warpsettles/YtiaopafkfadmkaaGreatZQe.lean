/- Joined: the texts that follow, each with its own sentence. -/
import Derived.Test.YtiaopafkfadmkaaGreatZQc
set_option linter.unusedVariables false
set_option maxRecDepth 100000
namespace Go.Proofs.YtiaopafkfadmkaaGreat.Q
open Go.RowKit Go.Sort
theorem cells_new1 (w : World) (m : M) (t : TypeId) : ∀ j u, (enc m)[j]? = some u → (w.alloc (.cells #[.int .i64 m.1.1, .int .i64 m.1.2.1, .int .i64 m.1.2.2, .int .i64 m.2.1, .int .i64 m.2.2.1, .int .i64 m.2.2.2] t)).cell? ((⟨w.heap.size, 0, none⟩ : Addr).add j) = some u := fun j u hj => cells_new w m t j u hj
theorem wpList_append_msg (w : World) {ops : Array Oper} {rest : List Oper} {o : Oper} {a : Act} {Q : Exit → Act → World → Prop} (hgd : o.guard = none) (s x : Operand)
  (ho : o.op = .call { callee := .builtin .append, args := #[s, x], argTypes := #[53, 53] })
  (v : Value) (d : List M) (hs : a.eval s = v) (hown : Own w v d) (hlen : d.length ≤ 100000) (m : M) (ad : Addr) (hx : a.eval x = .slice (some ad) 1 1) (hc : ∀ j u, (enc m)[j]? = some u → w.cell? (ad.add j) = some u)
  (h : ∀ a' cap' w', Own w' (.slice a' (d.length + 1) cap') (d ++ [m]) → Fr (fun k => v.ownBlock = some k) w w' → (∀ k, (Value.slice a' (d.length + 1) cap').ownBlock = some k → v.ownBlock = some k ∨ w.heap.size ≤ k) → wpList Tryz.prog ops Q rest (a.put o.dst (.slice a' (d.length + 1) cap')) w') :
  wpList Tryz.prog ops Q (o :: rest) a w := by
 refine wpList_plain hgd fun K hK => ?_
 obtain ⟨i0, hi0, hz0, hz1, hz2⟩ := info_parts info30
 obtain ⟨v', w', hr, h2, h3, h4, h5⟩ := run_append_own_at (P := Tryz.prog) w 0 53 o.type 39 i0 _ 6 48 Tryz.underlying53 hi0 hz0 hz1 hz2 rfl (by decide) v d.length (flat d) hown ad 1 1 (enc m) rfl hc (enc_one m) (by unfold maxLen; omega) (by omega) (Nat.zero_le _)
 have h2' : Own w' v' (d ++ [m]) := by unfold Own; rw [flat_append, flat_one]; simpa using h2
 obtain ⟨a', cap', rfl, _⟩ := h2'.rd
 have hl : (d ++ [m]).length = d.length + 1 := by simp
 rw [hl] at hr h2' h5
 unfold Oper.wp execOp
 simp only [ho, resolve, invoke, builtin, Sem.run_bind, Sem.run_pure, Result.andThen_ok, List.map_toArray, List.map_cons, List.map_nil, hs, hx, hr]
 refine hK _ _ (h a' cap' w' h2' (Fr.of_grown h3) (fun k hk => ?_))
 rcases h5 with h5 | h5
 ·exact .inl (h5.symm.trans hk)
 ·right
  rw [h5] at hk
  simp at hk
  omega
end Go.Proofs.YtiaopafkfadmkaaGreat.Q
namespace Go.Proofs.YtiaopafkfadmkaaGreat.Q
open Go.RowKit Go.Sort
theorem grow2_zero (w : World) (o1 o2 : Obj) : (w.alloc o1).alloc o2 = grow (w.drewN 0) (#[o1] ++ #[o2]) := by
 rw [alloc_eq_grow, alloc_eq_grow, grow_grow]
 rfl
set_option maxHeartbeats 400000 in
theorem refg_lt1 (a1 a2 a3 b1 b2 b3 : Int) (w : World) (h : a1 < b1) :
  Calls Tryz.prog 40 #[.agg #[.int .i64 a1, .int .i64 a2, .int .i64 a3], .agg #[.int .i64 b1, .int .i64 b2, .int .i64 b3]] w
   fun e w' => e = .returned (.int .i64 (-1)) ∧ ∃ q os, w' = grow (w.drewN q) os := by
 have k1 : (a1 == b1) = false := by simp; omega
 go_enter Tryz.func40, Tryz.ntmps40
 go_wp2
 go_ret
 exact ⟨rfl, 0, _, grow2_zero _ _ _⟩
set_option maxHeartbeats 400000 in
theorem refg_gt1 (a1 a2 a3 b1 b2 b3 : Int) (w : World) (h : b1 < a1) :
  Calls Tryz.prog 40 #[.agg #[.int .i64 a1, .int .i64 a2, .int .i64 a3], .agg #[.int .i64 b1, .int .i64 b2, .int .i64 b3]] w
   fun e w' => e = .returned (.int .i64 1) ∧ ∃ q os, w' = grow (w.drewN q) os := by
 have k1 : (a1 == b1) = false := by simp; omega
 have k2 : ¬ a1 < b1 := by omega
 go_enter Tryz.func40, Tryz.ntmps40
 go_wp2
 go_ret
 exact ⟨rfl, 0, _, grow2_zero _ _ _⟩
set_option maxHeartbeats 400000 in
theorem refg_lt2 (a1 a2 a3 b2 b3 : Int) (w : World) (h : a2 < b2) :
  Calls Tryz.prog 40 #[.agg #[.int .i64 a1, .int .i64 a2, .int .i64 a3], .agg #[.int .i64 a1, .int .i64 b2, .int .i64 b3]] w
   fun e w' => e = .returned (.int .i64 (-1)) ∧ ∃ q os, w' = grow (w.drewN q) os := by
 have k1 : (a2 == b2) = false := by simp; omega
 go_enter Tryz.func40, Tryz.ntmps40
 go_wp2
 go_ret
 exact ⟨rfl, 0, _, grow2_zero _ _ _⟩
set_option maxHeartbeats 400000 in
theorem refg_gt2 (a1 a2 a3 b2 b3 : Int) (w : World) (h : b2 < a2) :
  Calls Tryz.prog 40 #[.agg #[.int .i64 a1, .int .i64 a2, .int .i64 a3], .agg #[.int .i64 a1, .int .i64 b2, .int .i64 b3]] w
   fun e w' => e = .returned (.int .i64 1) ∧ ∃ q os, w' = grow (w.drewN q) os := by
 have k1 : (a2 == b2) = false := by simp; omega
 have k2 : ¬ a2 < b2 := by omega
 go_enter Tryz.func40, Tryz.ntmps40
 go_wp2
 go_ret
 exact ⟨rfl, 0, _, grow2_zero _ _ _⟩
set_option maxHeartbeats 400000 in
theorem refg_lt3 (a1 a2 a3 b3 : Int) (w : World) (h : a3 < b3) :
  Calls Tryz.prog 40 #[.agg #[.int .i64 a1, .int .i64 a2, .int .i64 a3], .agg #[.int .i64 a1, .int .i64 a2, .int .i64 b3]] w
   fun e w' => e = .returned (.int .i64 (-1)) ∧ ∃ q os, w' = grow (w.drewN q) os := by
 have k1 : (a3 == b3) = false := by simp; omega
 go_enter Tryz.func40, Tryz.ntmps40
 go_wp2
 go_ret
 exact ⟨rfl, 0, _, grow2_zero _ _ _⟩
set_option maxHeartbeats 400000 in
theorem refg_gt3 (a1 a2 a3 b3 : Int) (w : World) (h : b3 < a3) :
  Calls Tryz.prog 40 #[.agg #[.int .i64 a1, .int .i64 a2, .int .i64 a3], .agg #[.int .i64 a1, .int .i64 a2, .int .i64 b3]] w
   fun e w' => e = .returned (.int .i64 1) ∧ ∃ q os, w' = grow (w.drewN q) os := by
 have k1 : (a3 == b3) = false := by simp; omega
 have k2 : ¬ a3 < b3 := by omega
 go_enter Tryz.func40, Tryz.ntmps40
 go_wp2
 go_ret
 exact ⟨rfl, 0, _, grow2_zero _ _ _⟩
set_option maxHeartbeats 400000 in
theorem refg_eq (a1 a2 a3 : Int) (w : World)  :
  Calls Tryz.prog 40 #[.agg #[.int .i64 a1, .int .i64 a2, .int .i64 a3], .agg #[.int .i64 a1, .int .i64 a2, .int .i64 a3]] w
   fun e w' => e = .returned (.int .i64 0) ∧ ∃ q os, w' = grow (w.drewN q) os := by
 go_enter Tryz.func40, Tryz.ntmps40
 go_wp2
 go_ret
 exact ⟨rfl, 0, _, grow2_zero _ _ _⟩
theorem refg_any (a b : K) (w : World) :
  Calls Tryz.prog 40 #[kv a, kv b] w
   fun e w' => e = .returned (.int .i64 (kcmp a b)) ∧ ∃ q os, w' = grow (w.drewN q) os := by
 obtain ⟨a1, a2, a3⟩ := a
 obtain ⟨b1, b2, b3⟩ := b
 by_cases h1 : a1 < b1
 ·rw [show kcmp (a1, a2, a3) (b1, b2, b3) = -1 from by simp [kcmp, or3, cmpI, h1]]
  exact refg_lt1 _ _ _ _ _ _ w h1
 ·by_cases g1 : b1 < a1
  ·rw [show kcmp (a1, a2, a3) (b1, b2, b3) = 1 from by simp [kcmp, or3, cmpI, h1, g1]]
   exact refg_gt1 _ _ _ _ _ _ w g1
  ·obtain rfl : b1 = a1 := by omega
   by_cases h2 : a2 < b2
   ·rw [show kcmp (b1, a2, a3) (b1, b2, b3) = -1 from by simp [kcmp, or3, cmpI, h2]]
    exact refg_lt2 _ _ _ _ _ w h2
   ·by_cases g2 : b2 < a2
    ·rw [show kcmp (b1, a2, a3) (b1, b2, b3) = 1 from by simp [kcmp, or3, cmpI, h2, g2]]
     exact refg_gt2 _ _ _ _ _ w g2
    ·obtain rfl : b2 = a2 := by omega
     by_cases h3 : a3 < b3
     ·rw [show kcmp (b1, b2, a3) (b1, b2, b3) = -1 from by simp [kcmp, or3, cmpI, h3]]
      exact refg_lt3 _ _ _ _ w h3
     ·by_cases g3 : b3 < a3
      ·rw [show kcmp (b1, b2, a3) (b1, b2, b3) = 1 from by simp [kcmp, or3, cmpI, h3, g3]]
       exact refg_gt3 _ _ _ _ w g3
      ·obtain rfl : b3 = a3 := by omega
       rw [show kcmp (b1, b2, b3) (b1, b2, b3) = 0 from by simp [kcmp, or3, cmpI]]
       exact refg_eq _ _ _ w
end Go.Proofs.YtiaopafkfadmkaaGreat.Q
namespace Go.Proofs.YtiaopafkfadmkaaGreat.Q
open Go.RowKit Go.Sort
def anyLt (l : List M) (m : M) : Bool := l.any (fun x => klt m.1 x.1)
theorem ins_later {l : List M} {m : M} (x : M) (h : anyLt l m = true) : ins (l ++ [x]) m = ins l m ++ [x] := by
 induction l with
 | nil => simp [anyLt] at h
 | cons y r ih =>
  simp only [List.cons_append, ins]
  by_cases e : klt m.1 y.1 = true
  ·rw [if_pos e, if_pos e]
   simp
  ·rw [if_neg e, if_neg e, ih (by simpa [anyLt, e] using h)]; rfl
theorem ins_here {l : List M} {m : M} (x : M) (h : anyLt l m = false) (hx : klt m.1 x.1 = true) : ins (l ++ [x]) m = l ++ [m] ++ [x] := by
 induction l with
 | nil => simp [ins, hx]
 | cons y r ih =>
  simp only [anyLt, List.any_cons, Bool.or_eq_false_iff] at h
  simp only [List.cons_append, ins]
  rw [if_neg (by rw [h.1]; simp), ih h.2]
theorem ins_end {l : List M} {m : M} (h : anyLt l m = false) : ins l m = l ++ [m] := by
 induction l with
 | nil => rfl
 | cons y r ih =>
  simp only [anyLt, List.any_cons, Bool.or_eq_false_iff] at h
  simp only [ins]
  rw [if_neg (by rw [h.1]; simp), ih h.2]; rfl
theorem anyLt_snoc (l : List M) (m x : M) : anyLt (l ++ [x]) m = (anyLt l m || klt m.1 x.1) := by simp [anyLt]
theorem own_empty (w : World) : Own (w.alloc (.cells #[] 39)) (.slice (some ⟨w.heap.size, 0, none⟩) 0 0) [] := World.ownsRow_made w #[] 0 (Nat.zero_le _) (Nat.zero_le _) (by simp)
theorem take_nth (d : List M) (k : Nat) (h : k < d.length) : d.take (k + 1) = d.take k ++ [nth d k] := by
 rw [List.take_succ_eq_append_getElem h, nth_get d k h]
theorem stage {w0 W w1 : World} {o : Obj} {v v1 : Value} (hb : Below w0.heap.size w0 W) (hblk : ∀ j, v.ownBlock = some j → w0.heap.size ≤ j) (hfr : Fr (fun k => v.ownBlock = some k) (W.alloc o) w1) (hloc : ∀ k, v1.ownBlock = some k → v.ownBlock = some k ∨ W.heap.size + 1 ≤ k) :
  Below w0.heap.size w0 w1 ∧ ∀ j, v1.ownBlock = some j → w0.heap.size ≤ j := by
 have hs := hb.size
 have ha : (W.alloc o).heap.size = W.heap.size + 1 := by simp
 refine ⟨(hb.alloc hb.size o).trans (hfr.below (by omega) hblk), fun j hj => ?_⟩
 rcases hloc j hj with e | e
 ·exact hblk j e
 ·omega
theorem below_grown {B : Nat} {w0 W : World} (hb : Below B w0 W) (hB : B ≤ W.heap.size) (n : Nat) (os : Array Obj) : Below B w0 (grow (W.drewN n) os) := hb.trans ((below_grow W n os).mono hB)
theorem below_drewN {B : Nat} {w0 W : World} (hb : Below B w0 W) (n : Nat) : Below B w0 (W.drewN n) := ⟨hb.os, hb.tape, hb.output, hb.size, hb.block⟩
set_option maxHeartbeats 2000000 in
theorem insert_any {w : World} {v : Value} {l : List M} (h : Own w v l) (hlen : l.length ≤ 1000) (m : M) :
  Calls Tryz.prog 36 #[v, mv m] w fun e w' => ∃ v', e = .returned v' ∧ Own w' v' (ins l m) ∧ (∀ k, v'.ownBlock = some k → w.heap.size ≤ k) ∧ Below w.heap.size w w' := by
 have mixed : Tryz.prog.follows .mixedOrders = true := by kernel_rfl
 obtain ⟨w0, hw0⟩ : ∃ w0, w0 = w.alloc (.cells #[.int .i64 m.1.1, .int .i64 m.1.2.1, .int .i64 m.1.2.2, .int .i64 m.2.1, .int .i64 m.2.2.1, .int .i64 m.2.2.2] 39) := ⟨_, rfl⟩
 have s0 : w0.heap.size = w.heap.size + 1 := by rw [hw0]; simp
 have b0 : Below w.heap.size w w0 := by rw [hw0]; exact (Below.refl _ _).alloc (Nat.le_refl _) _
 have xc : ∀ j, j < 6 → w0.cell? ⟨w.heap.size, j, none⟩ = (enc m)[j]? := fun j hj => by
  rw [hw0]
  simp only [World.cell?, heap_alloc_new]
  simp [enc]
 have hown0 : Own w0 v l := h.keep (S := fun _ => False) (Fr.of_below b0) (fun _ _ g => g)
 obtain ⟨a, cap, rfl, _⟩ := h.rd
 have HW : Hid _ := hw0
 clear hw0
 go_enter Tryz.func36, Tryz.ntmps36
 go_wp2_with fail
 rw [← HW.out]
 go_loopw [5, 6, 7] (fun v5 v6 si wr => ∃ k : Nat, k ≤ l.length ∧ si = .int .i64 k ∧ v6 = .bool (anyLt (l.take k) m) ∧ Own wr v5 (if anyLt (l.take k) m = true then ins (l.take k) m else l.take k) ∧ (∀ j, v5.ownBlock = some j → w0.heap.size ≤ j) ∧ Below w0.heap.size w0 wr) (fun _ _ si _ => l.length - (intOf si).toNat)
 case atStart =>
  refine ⟨0, Nat.zero_le _, rfl, rfl, ?_, ?_, ?_⟩
  ·have := own_empty w0
   rw [s0] at this
   exact this
  ·intro j hj
   simp [Value.ownBlock] at hj
   omega
  ·exact (Below.refl _ _).alloc (Nat.le_refl _) _
 case round =>
  obtain ⟨k, hk, rfl, rfl, hown5, hblk, hb⟩ := hrel
  have htk : (l.take k).length = k := by rw [List.length_take]; omega
  have MF : ∀ W : World, Below w0.heap.size w0 W → W.cell? ⟨w.heap.size, 0, none⟩ = some (.int .i64 m.1.1) ∧ W.cell? ⟨w.heap.size, 1, none⟩ = some (.int .i64 m.1.2.1) ∧ W.cell? ⟨w.heap.size, 2, none⟩ = some (.int .i64 m.1.2.2) ∧ W.cell? ⟨w.heap.size, 3, none⟩ = some (.int .i64 m.2.1) ∧ W.cell? ⟨w.heap.size, 4, none⟩ = some (.int .i64 m.2.2.1) ∧ W.cell? ⟨w.heap.size, 5, none⟩ = some (.int .i64 m.2.2.2) := fun W hW => by
   have c := fun j (hj : j < 6) => (hW.cell (p := ⟨w.heap.size, j, none⟩) (by rw [s0]; exact Nat.lt_succ_self _)).trans (xc j hj)
   exact ⟨c 0 (by omega), c 1 (by omega), c 2 (by omega), c 3 (by omega), c 4 (by omega), c 5 (by omega)⟩
  by_cases hlt : k < l.length
  ·obtain ⟨g, cap', hv, hg⟩ := own_nonempty hown0 hlt
   obtain ⟨rfl, rfl⟩ : a = some ⟨g, 0, none⟩ ∧ cap = cap' := by simpa using hv
   obtain ⟨x, hx⟩ : ∃ x, nth l k = x := ⟨_, rfl⟩
   have XF := fun (W : World) (hW : Below w0.heap.size w0 W) => own_cell (hown0.keep (S := fun _ => False) (Fr.of_below hW) (fun _ _ g => g)) (x := x) hlt (by rw [← nth_get]; exact hx)
   have tk := take_nth l k hlt
   rw [hx] at tk
   have hany := anyLt_snoc (l.take k) m x
   rw [← tk] at hany
   have hlt' : (k : Int) < (l.length : Int) := by omega
   have hlI : (ins (l.take k) m).length = k + 1 := by rw [ins_len, htk]
   -- one more behind: the end of the round
   have TK : Hid _ := tk
   clear tk hx hv
   cases hd : anyLt (l.take k) m
   ·rw [hd] at hown5 hany
    simp only [Bool.false_eq_true, if_false] at hown5
    simp only [Bool.false_or] at hany
    have HC := fun W => refg_any m.1 x.1 W
    have hkk : klt m.1 x.1 = decide (kcmp m.1 x.1 < 0) := rfl
    obtain ⟨r, hr⟩ : ∃ r, kcmp m.1 x.1 = r := ⟨_, rfl⟩
    rw [hr] at HC hkk
    obtain ⟨x0, x1, x2, x3, x4, x5⟩ := XF wr hb
    obtain ⟨m0, m1, m2, m3, m4, m5⟩ := MF wr hb
    have hgw := Nat.lt_of_lt_of_le hg hb.size
    have hBw : w.heap.size < wr.heap.size := by have := hb.size; omega
    have X0 := fun n os => cell_grown (n := n) (os := os) (a := ⟨g, k * 6, none⟩) hgw x0
    have X1 := fun n os => cell_grown (n := n) (os := os) (a := ⟨g, k * 6 + 1, none⟩) hgw x1
    have X2 := fun n os => cell_grown (n := n) (os := os) (a := ⟨g, k * 6 + 2, none⟩) hgw x2
    have Y0 := fun n os => cell_grown (n := n) (os := os) (a := ⟨w.heap.size, 0, none⟩) hBw m0
    have Y1 := fun n os => cell_grown (n := n) (os := os) (a := ⟨w.heap.size, 1, none⟩) hBw m1
    have Y2 := fun n os => cell_grown (n := n) (os := os) (a := ⟨w.heap.size, 2, none⟩) hBw m2
    clear x0 x1 x2 x3 x4 x5 m0 m1 m2 m3 m4 m5
    by_cases hrl : r < 0
    ·rw [show klt m.1 x.1 = true by rw [hkk]; simpa using hrl] at hany
     have IH := ins_here x hd (show klt m.1 x.1 = true by rw [hkk]; simpa using hrl)
     rw [← TK.out] at IH
     have IHH : Hid _ := IH
     clear IH hkk hr
     go_wp2_with fail
     go_quiet_grown (first | (go_at_call 40; refine Calls.grown_of (HC _)))
     generalize hwq : grow (World.drewN _ _) _ = wq
     have hbq : Below w0.heap.size w0 wq := by rw [← hwq]; exact below_grown hb hb.size _ _
     have hownq : Own wq u5 (l.take k) := by rw [← hwq]; exact hown5.keep (S := fun _ => False) (Fr.of_below (below_grow _ _ _)) (fun _ _ g => g)
     obtain ⟨m0, m1, m2, m3, m4, m5⟩ := MF wq hbq
     clear hwq hown5 hb X0 X1 X2 Y0 Y1 Y2 HC
     go_wp2_with (at_builtin; refine wpList_append_msg _ rfl (.tmp 28) (.tmp 30) rfl _ (l.take k) rfl ?c1 ?c2 (m) ⟨wq.heap.size, 0, none⟩ rfl ?c3 ?_)
     case c1 => exact hownq.keep (S := fun _ => False) ((Fr.refl _ _).alloc _) (fun _ _ g => g)
     case c2 => first | omega | (simp; omega)
     case c3 => first | exact (fun j u hj => hj) | exact cells_new1 _ (m) 39
     intro a1 cap1 w1 hown1 hfr1 hloc1
     obtain ⟨hb1, hblk1⟩ := stage hbq hblk hfr1 hloc1
     obtain ⟨x0, x1, x2, x3, x4, x5⟩ := XF w1 hb1
     clear m0 m1 m2 m3 m4 m5 hfr1 hloc1 hownq hbq hblk
     go_wp2_with (at_builtin; refine wpList_append_msg _ rfl (.tmp 32) (.tmp 37) rfl _ (l.take k ++ [m]) rfl ?c1 ?c2 (x) ⟨w1.heap.size, 0, none⟩ rfl ?c3 ?_)
     case c1 => exact hown1.keep (S := fun _ => False) ((Fr.refl _ _).alloc _) (fun _ _ g => g)
     case c2 => first | omega | (simp; omega)
     case c3 => first | exact (fun j u hj => hj) | exact cells_new1 _ (x) 39
     intro a2 cap2 w2 hown2 hfr2 hloc2
     obtain ⟨hb2, hblk2⟩ := stage hb1 hblk1 hfr2 hloc2
     clear x0 x1 x2 x3 x4 x5 hfr2 hloc2 hown1 hb1 hblk1 XF MF
     go_wp2
     go_roundw
     case rel => exact ⟨k + 1, by omega, by go_num, by rw [hany], by rw [hany, if_pos rfl, IHH.out, List.append_assoc]; exact hown2, hblk2, hb2⟩
     case measure => simp [intOf]; omega
    ·rw [show klt m.1 x.1 = false by rw [hkk]; simpa using hrl] at hany
     clear hkk hr
     go_wp2_with fail
     go_quiet_grown (first | (go_at_call 40; refine Calls.grown_of (HC _)))
     generalize hwq : grow (World.drewN _ _) _ = wq
     have hbq : Below w0.heap.size w0 wq := by rw [← hwq]; exact below_grown hb hb.size _ _
     have hownq : Own wq u5 (l.take k) := by rw [← hwq]; exact hown5.keep (S := fun _ => False) (Fr.of_below (below_grow _ _ _)) (fun _ _ g => g)
     obtain ⟨x0, x1, x2, x3, x4, x5⟩ := XF wq hbq
     clear hwq hown5 hb X0 X1 X2 Y0 Y1 Y2 HC
     go_wp2_with (at_builtin; refine wpList_append_msg _ rfl (.tmp 32) (.tmp 37) rfl _ (l.take k) rfl ?c1 ?c2 (x) ⟨wq.heap.size, 0, none⟩ rfl ?c3 ?_)
     case c1 => exact hownq.keep (S := fun _ => False) ((Fr.refl _ _).alloc _) (fun _ _ g => g)
     case c2 => first | omega | (simp; omega)
     case c3 => first | exact (fun j u hj => hj) | exact cells_new1 _ (x) 39
     intro a1 cap1 w1 hown1 hfr1 hloc1
     obtain ⟨hb1, hblk1⟩ := stage hbq hblk hfr1 hloc1
     clear x0 x1 x2 x3 x4 x5 hfr1 hloc1 hownq hbq hblk XF MF
     go_wp2
     go_roundw
     case rel => exact ⟨k + 1, by omega, by go_num, by rw [hany], by rw [hany, if_neg (by simp), TK.out]; exact hown1, hblk1, hb1⟩
     case measure => simp [intOf]; omega
   ·rw [hd] at hown5 hany
    simp only [if_true] at hown5
    simp only [Bool.true_or] at hany
    have IH := ins_later x hd
    rw [← TK.out] at IH
    have IHH : Hid _ := IH
    clear IH
    go_wp2_with fail
    go_quiet (fail)
    generalize hwq : World.drewN _ _ = wq
    have hbq : Below w0.heap.size w0 wq := by rw [← hwq]; exact below_drewN hb _
    have hownq : Own wq u5 (ins (l.take k) m) := by rw [← hwq]; exact hown5
    obtain ⟨x0, x1, x2, x3, x4, x5⟩ := XF wq hbq
    clear hwq hown5 hb
    go_wp2_with (at_builtin; refine wpList_append_msg _ rfl (.tmp 32) (.tmp 37) rfl _ (ins (l.take k) m) rfl ?c1 ?c2 (x) ⟨wq.heap.size, 0, none⟩ rfl ?c3 ?_)
    case c1 => exact hownq.keep (S := fun _ => False) ((Fr.refl _ _).alloc _) (fun _ _ g => g)
    case c2 => first | omega | (simp; omega)
    case c3 => first | exact (fun j u hj => hj) | exact cells_new1 _ (x) 39
    intro a1 cap1 w1 hown1 hfr1 hloc1
    obtain ⟨hb1, hblk1⟩ := stage hbq hblk hfr1 hloc1
    clear x0 x1 x2 x3 x4 x5 hfr1 hloc1 hownq hbq hblk XF MF
    go_wp2
    go_roundw
    case rel => exact ⟨k + 1, by omega, by go_num, by rw [hany], by rw [hany, if_pos rfl, IHH.out]; exact hown1, hblk1, hb1⟩
    case measure => simp [intOf]; omega
  ·have hkd : k = l.length := by omega
   subst hkd
   rw [List.take_length] at hown5
   have hgt : ¬ ((l.length : Int) < (l.length : Int)) := by omega
   have tl : l.take l.length = l := List.take_length
   cases hd : anyLt l m
   ·rw [hd] at hown5
    simp only [Bool.false_eq_true, if_false] at hown5
    have hd' : anyLt (l.take l.length) m = false := by rw [tl]; exact hd
    obtain ⟨m0, m1, m2, m3, m4, m5⟩ := MF wr hb
    have IE : Hid _ := ins_end hd
    go_wp2_with (at_builtin; refine wpList_append_msg _ rfl (.tmp 41) (.tmp 43) rfl _ (l) rfl ?c1 ?c2 (m) ⟨wr.heap.size, 0, none⟩ rfl ?c3 ?_)
    case c1 => exact hown5.keep (S := fun _ => False) ((Fr.refl _ _).alloc _) (fun _ _ g => g)
    case c2 => first | omega | (simp; omega)
    case c3 => first | exact (fun j u hj => hj) | exact cells_new1 _ (m) 39
    intro a1 cap1 w1 hown1 hfr1 hloc1
    obtain ⟨hb1, hblk1⟩ := stage hb hblk hfr1 hloc1
    clear m0 m1 m2 m3 m4 m5 hfr1 hloc1 hown5 hb hblk MF
    go_wp2
    go_ret
    refine ⟨_, rfl, by rw [IE.out]; exact hown1, fun j hj => by have := hblk1 j hj; omega, b0.trans (hb1.mono (by omega))⟩
   ·rw [hd] at hown5
    simp only [if_true] at hown5
    have hd' : anyLt (l.take l.length) m = true := by rw [tl]; exact hd
    clear MF
    go_wp2
    go_ret
    exact ⟨_, rfl, hown5, fun j hj => by have := hblk j hj; omega, b0.trans (hb.mono (by omega))⟩
end Go.Proofs.YtiaopafkfadmkaaGreat.Q
