/- Joined: the texts that follow, each with its own sentence. -/
import Derived.Test.YtadmojehemdoaaaGreatQQueue3
import Derived.Laws.AppendOwnNone
/- Proved: how one message is put behind others; the contract of a Queue's Below. -/
namespace Go.Proofs.YtadmojehemdoaaaGreat.Q
open Go.RowKit Go.Sort
set_option linter.unusedVariables false
set_option maxRecDepth 100000

theorem cells_new1 (w : World) (m : M) (t : TypeId) : ∀ j u, (enc m)[j]? = some u → (w.alloc (.cells #[.int .i64 m.1.1, .int .i64 m.1.2.1, .int .i64 m.1.2.2, .int .i64 m.2.1, .int .i64 m.2.2.1, .int .i64 m.2.2.2] t)).cell? ((⟨w.heap.size, 0, none⟩ : Addr).add j) = some u := fun j u hj => cells_new w m t j u hj

theorem cells_new2 (w : World) (o : Obj) (m : M) (t : TypeId) : ∀ j u, (enc m)[j]? = some u → ((w.alloc o).alloc (.cells #[.int .i64 m.1.1, .int .i64 m.1.2.1, .int .i64 m.1.2.2, .int .i64 m.2.1, .int .i64 m.2.2.1, .int .i64 m.2.2.2] t)).cell? ((⟨w.heap.size + 1, 0, none⟩ : Addr).add j) = some u := fun j u hj => by
  have e : w.heap.size + 1 = (w.alloc o).heap.size := by simp
  rw [e]
  exact cells_new1 (w.alloc o) m t j u hj

/-- 'append(s, m)' at the operation, for the walk. -/
theorem wpList_append_msg (w : World) {ops : Array Oper} {rest : List Oper} {o : Oper} {a : Act} {Q : Exit → Act → World → Prop} (hgd : o.guard = none) (s x : Operand)
    (ho : o.op = .call { callee := .builtin .append, args := #[s, x], argTypes := #[47, 47] })
    (v : Value) (d : List M) (hs : a.eval s = v) (hown : Own w v d) (hlen : d.length ≤ 100000) (m : M) (ad : Addr) (hx : a.eval x = .slice (some ad) 1 1) (hc : ∀ j u, (enc m)[j]? = some u → w.cell? (ad.add j) = some u)
    (h : ∀ a' cap' w', Own w' (.slice a' (d.length + 1) cap') (d ++ [m]) → Fr (fun k => v.ownBlock = some k) w w' → (∀ k, (Value.slice a' (d.length + 1) cap').ownBlock = some k → v.ownBlock = some k ∨ w.heap.size ≤ k) → wpList Tryz.prog ops Q rest (a.put o.dst (.slice a' (d.length + 1) cap')) w') :
    wpList Tryz.prog ops Q (o :: rest) a w := by
  refine wpList_plain hgd fun K hK => ?_
  obtain ⟨i0, hi0, hz0, hz1, hz2⟩ := info_parts info30
  obtain ⟨v', w', hr, h2, h3, h4, h5⟩ := run_append_own_at (P := Tryz.prog) w 0 47 o.type 39 i0 _ 6 48 Tryz.underlying47 hi0 hz0 hz1 hz2 rfl (by decide) v d.length (flat d) hown ad 1 1 (enc m) rfl hc (enc_one m) (by unfold maxLen; omega) (by omega) (Nat.zero_le _)
  have h2' : Own w' v' (d ++ [m]) := by unfold Own; rw [flat_append, flat_one]; simpa using h2
  obtain ⟨a', cap', rfl, _⟩ := h2'.rd
  have hl : (d ++ [m]).length = d.length + 1 := by simp
  rw [hl] at hr h2' h5
  unfold Oper.wp execOp
  simp only [ho, resolve, invoke, builtin, Sem.run_bind, Sem.run_pure, Result.andThen_ok, List.map_toArray, List.map_cons, List.map_nil, hs, hx, hr]
  refine hK _ _ (h a' cap' w' h2' (Fr.of_grown h3) (fun k hk => ?_))
  rcases h5 with h5 | h5
  · exact .inl (h5.symm.trans hk)
  · right
    rw [h5] at hk
    simp at hk
    omega

theorem low_snoc (d : List M) (k : Nat) (t : Int) (h : k < d.length) : low (d.take (k + 1)) t = if (nth d k).1.1 < t then low (d.take k) t ++ [nth d k] else low (d.take k) t := by
  rw [List.take_succ_eq_append_getElem h, nth_get d k h]
  unfold low
  rw [List.filter_append]
  split <;> simp [*]
theorem low_len (d : List M) (t : Int) : (low d t).length ≤ d.length := List.length_filter_le _ _

end Go.Proofs.YtadmojehemdoaaaGreat.Q
/- Proved: the contract of the document's own comparison of keys, with what it leaves in memory. -/
namespace Go.Proofs.YtadmojehemdoaaaGreat.Q
open Go.RowKit Go.Sort
set_option linter.unusedVariables false
set_option maxRecDepth 100000

theorem grow2_zero (w : World) (o1 o2 : Obj) : (w.alloc o1).alloc o2 = grow (w.drewN 0) (#[o1] ++ #[o2]) := by
  rw [alloc_eq_grow, alloc_eq_grow, grow_grow]
  rfl

set_option maxHeartbeats 400000 in
theorem refg_lt1 (a1 a2 a3 b1 b2 b3 : Int) (w : World) (h : a1 < b1) :
    Calls Tryz.prog 107 #[.agg #[.int .i64 a1, .int .i64 a2, .int .i64 a3], .agg #[.int .i64 b1, .int .i64 b2, .int .i64 b3]] w
      fun e w' => e = .returned (.int .i64 (-1)) ∧ ∃ q os, w' = grow (w.drewN q) os := by
  have k1 : (a1 == b1) = false := by simp; omega
  go_enter Tryz.func107, Tryz.ntmps107
  go_wp2
  go_ret
  exact ⟨rfl, 0, _, grow2_zero _ _ _⟩

set_option maxHeartbeats 400000 in
theorem refg_gt1 (a1 a2 a3 b1 b2 b3 : Int) (w : World) (h : b1 < a1) :
    Calls Tryz.prog 107 #[.agg #[.int .i64 a1, .int .i64 a2, .int .i64 a3], .agg #[.int .i64 b1, .int .i64 b2, .int .i64 b3]] w
      fun e w' => e = .returned (.int .i64 1) ∧ ∃ q os, w' = grow (w.drewN q) os := by
  have k1 : (a1 == b1) = false := by simp; omega
  have k2 : ¬ a1 < b1 := by omega
  go_enter Tryz.func107, Tryz.ntmps107
  go_wp2
  go_ret
  exact ⟨rfl, 0, _, grow2_zero _ _ _⟩

set_option maxHeartbeats 400000 in
theorem refg_lt2 (a1 a2 a3 b2 b3 : Int) (w : World) (h : a2 < b2) :
    Calls Tryz.prog 107 #[.agg #[.int .i64 a1, .int .i64 a2, .int .i64 a3], .agg #[.int .i64 a1, .int .i64 b2, .int .i64 b3]] w
      fun e w' => e = .returned (.int .i64 (-1)) ∧ ∃ q os, w' = grow (w.drewN q) os := by
  have k1 : (a2 == b2) = false := by simp; omega
  go_enter Tryz.func107, Tryz.ntmps107
  go_wp2
  go_ret
  exact ⟨rfl, 0, _, grow2_zero _ _ _⟩

set_option maxHeartbeats 400000 in
theorem refg_gt2 (a1 a2 a3 b2 b3 : Int) (w : World) (h : b2 < a2) :
    Calls Tryz.prog 107 #[.agg #[.int .i64 a1, .int .i64 a2, .int .i64 a3], .agg #[.int .i64 a1, .int .i64 b2, .int .i64 b3]] w
      fun e w' => e = .returned (.int .i64 1) ∧ ∃ q os, w' = grow (w.drewN q) os := by
  have k1 : (a2 == b2) = false := by simp; omega
  have k2 : ¬ a2 < b2 := by omega
  go_enter Tryz.func107, Tryz.ntmps107
  go_wp2
  go_ret
  exact ⟨rfl, 0, _, grow2_zero _ _ _⟩

set_option maxHeartbeats 400000 in
theorem refg_lt3 (a1 a2 a3 b3 : Int) (w : World) (h : a3 < b3) :
    Calls Tryz.prog 107 #[.agg #[.int .i64 a1, .int .i64 a2, .int .i64 a3], .agg #[.int .i64 a1, .int .i64 a2, .int .i64 b3]] w
      fun e w' => e = .returned (.int .i64 (-1)) ∧ ∃ q os, w' = grow (w.drewN q) os := by
  have k1 : (a3 == b3) = false := by simp; omega
  go_enter Tryz.func107, Tryz.ntmps107
  go_wp2
  go_ret
  exact ⟨rfl, 0, _, grow2_zero _ _ _⟩

set_option maxHeartbeats 400000 in
theorem refg_gt3 (a1 a2 a3 b3 : Int) (w : World) (h : b3 < a3) :
    Calls Tryz.prog 107 #[.agg #[.int .i64 a1, .int .i64 a2, .int .i64 a3], .agg #[.int .i64 a1, .int .i64 a2, .int .i64 b3]] w
      fun e w' => e = .returned (.int .i64 1) ∧ ∃ q os, w' = grow (w.drewN q) os := by
  have k1 : (a3 == b3) = false := by simp; omega
  have k2 : ¬ a3 < b3 := by omega
  go_enter Tryz.func107, Tryz.ntmps107
  go_wp2
  go_ret
  exact ⟨rfl, 0, _, grow2_zero _ _ _⟩

set_option maxHeartbeats 400000 in
theorem refg_eq (a1 a2 a3 : Int) (w : World)  :
    Calls Tryz.prog 107 #[.agg #[.int .i64 a1, .int .i64 a2, .int .i64 a3], .agg #[.int .i64 a1, .int .i64 a2, .int .i64 a3]] w
      fun e w' => e = .returned (.int .i64 0) ∧ ∃ q os, w' = grow (w.drewN q) os := by
  go_enter Tryz.func107, Tryz.ntmps107
  go_wp2
  go_ret
  exact ⟨rfl, 0, _, grow2_zero _ _ _⟩

theorem refg_any (a b : K) (w : World) :
    Calls Tryz.prog 107 #[kv a, kv b] w
      fun e w' => e = .returned (.int .i64 (kcmp a b)) ∧ ∃ q os, w' = grow (w.drewN q) os := by
  obtain ⟨a1, a2, a3⟩ := a
  obtain ⟨b1, b2, b3⟩ := b
  by_cases h1 : a1 < b1
  · rw [show kcmp (a1, a2, a3) (b1, b2, b3) = -1 from by simp [kcmp, or3, cmpI, h1]]
    exact refg_lt1 _ _ _ _ _ _ w h1
  · by_cases g1 : b1 < a1
    · rw [show kcmp (a1, a2, a3) (b1, b2, b3) = 1 from by simp [kcmp, or3, cmpI, h1, g1]]
      exact refg_gt1 _ _ _ _ _ _ w g1
    · obtain rfl : b1 = a1 := by omega
      by_cases h2 : a2 < b2
      · rw [show kcmp (b1, a2, a3) (b1, b2, b3) = -1 from by simp [kcmp, or3, cmpI, h2]]
        exact refg_lt2 _ _ _ _ _ w h2
      · by_cases g2 : b2 < a2
        · rw [show kcmp (b1, a2, a3) (b1, b2, b3) = 1 from by simp [kcmp, or3, cmpI, h2, g2]]
          exact refg_gt2 _ _ _ _ _ w g2
        · obtain rfl : b2 = a2 := by omega
          by_cases h3 : a3 < b3
          · rw [show kcmp (b1, b2, a3) (b1, b2, b3) = -1 from by simp [kcmp, or3, cmpI, h3]]
            exact refg_lt3 _ _ _ _ w h3
          · by_cases g3 : b3 < a3
            · rw [show kcmp (b1, b2, a3) (b1, b2, b3) = 1 from by simp [kcmp, or3, cmpI, h3, g3]]
              exact refg_gt3 _ _ _ _ w g3
            · obtain rfl : b3 = a3 := by omega
              rw [show kcmp (b1, b2, b3) (b1, b2, b3) = 0 from by simp [kcmp, or3, cmpI]]
              exact refg_eq _ _ _ w

end Go.Proofs.YtadmojehemdoaaaGreat.Q
/- Proved: contracts of the document's Insert and Without. -/
namespace Go.Proofs.YtadmojehemdoaaaGreat.Q
open Go.RowKit Go.Sort
set_option linter.unusedVariables false
set_option maxRecDepth 100000

def anyLt (l : List M) (m : M) : Bool := l.any (fun x => klt m.1 x.1)
theorem ins_later {l : List M} {m : M} (x : M) (h : anyLt l m = true) : ins (l ++ [x]) m = ins l m ++ [x] := by
  induction l with
  | nil => simp [anyLt] at h
  | cons y r ih =>
    simp only [List.cons_append, ins]
    by_cases e : klt m.1 y.1 = true
    · rw [if_pos e, if_pos e]
      simp
    · rw [if_neg e, if_neg e, ih (by simpa [anyLt, e] using h)]; rfl
theorem ins_here {l : List M} {m : M} (x : M) (h : anyLt l m = false) (hx : klt m.1 x.1 = true) : ins (l ++ [x]) m = l ++ [m] ++ [x] := by
  induction l with
  | nil => simp [ins, hx]
  | cons y r ih =>
    simp only [anyLt, List.any_cons, Bool.or_eq_false_iff] at h
    simp only [List.cons_append, ins]
    rw [if_neg (by rw [h.1]; simp), ih h.2]
theorem ins_end {l : List M} {m : M} (h : anyLt l m = false) : ins l m = l ++ [m] := by
  induction l with
  | nil => rfl
  | cons y r ih =>
    simp only [anyLt, List.any_cons, Bool.or_eq_false_iff] at h
    simp only [ins]
    rw [if_neg (by rw [h.1]; simp), ih h.2]; rfl
theorem anyLt_snoc (l : List M) (m x : M) : anyLt (l ++ [x]) m = (anyLt l m || klt m.1 x.1) := by simp [anyLt]
theorem own_empty (w : World) : Own (w.alloc (.cells #[] 39)) (.slice (some ⟨w.heap.size, 0, none⟩) 0 0) [] := World.ownsRow_made w #[] 0 (Nat.zero_le _) (Nat.zero_le _) (by simp)
theorem take_nth (d : List M) (k : Nat) (h : k < d.length) : d.take (k + 1) = d.take k ++ [nth d k] := by
  rw [List.take_succ_eq_append_getElem h, nth_get d k h]

theorem stage {w0 W w1 : World} {o : Obj} {v v1 : Value} (hb : Below w0.heap.size w0 W) (hblk : ∀ j, v.ownBlock = some j → w0.heap.size ≤ j) (hfr : Fr (fun k => v.ownBlock = some k) (W.alloc o) w1) (hloc : ∀ k, v1.ownBlock = some k → v.ownBlock = some k ∨ W.heap.size + 1 ≤ k) :
    Below w0.heap.size w0 w1 ∧ ∀ j, v1.ownBlock = some j → w0.heap.size ≤ j := by
  have hs := hb.size
  have ha : (W.alloc o).heap.size = W.heap.size + 1 := by simp
  refine ⟨(hb.alloc hb.size o).trans (hfr.below (by omega) hblk), fun j hj => ?_⟩
  rcases hloc j hj with e | e
  · exact hblk j e
  · omega
theorem below_grown {B : Nat} {w0 W : World} (hb : Below B w0 W) (hB : B ≤ W.heap.size) (n : Nat) (os : Array Obj) : Below B w0 (grow (W.drewN n) os) := hb.trans ((below_grow W n os).mono hB)
theorem below_drewN {B : Nat} {w0 W : World} (hb : Below B w0 W) (n : Nat) : Below B w0 (W.drewN n) := ⟨hb.os, hb.tape, hb.output, hb.size, hb.block⟩

set_option maxRecDepth 100000 in
set_option maxHeartbeats 2000000 in
theorem insert_any {w : World} {v : Value} {l : List M} (h : Own w v l) (hlen : l.length ≤ 1000) (m : M) :
    Calls Tryz.prog 74 #[v, mv m] w fun e w' => ∃ v', e = .returned v' ∧ Own w' v' (ins l m) ∧ (∀ k, v'.ownBlock = some k → w.heap.size ≤ k) ∧ Below w.heap.size w w' := by
  have mixed : Tryz.prog.follows .mixedOrders = true := by kernel_rfl
  obtain ⟨w0, hw0⟩ : ∃ w0, w0 = w.alloc (.cells #[.int .i64 m.1.1, .int .i64 m.1.2.1, .int .i64 m.1.2.2, .int .i64 m.2.1, .int .i64 m.2.2.1, .int .i64 m.2.2.2] 39) := ⟨_, rfl⟩
  have s0 : w0.heap.size = w.heap.size + 1 := by rw [hw0]; simp
  have b0 : Below w.heap.size w w0 := by rw [hw0]; exact (Below.refl _ _).alloc (Nat.le_refl _) _
  have xc : ∀ j, j < 6 → w0.cell? ⟨w.heap.size, j, none⟩ = (enc m)[j]? := fun j hj => by
    rw [hw0]
    simp only [World.cell?, heap_alloc_new]
    simp [enc]
  have hown0 : Own w0 v l := h.keep (S := fun _ => False) (Fr.of_below b0) (fun _ _ g => g)
  obtain ⟨a, cap, rfl, _⟩ := h.rd
  have HW : Hid _ := hw0
  clear hw0
  go_enter Tryz.func74, Tryz.ntmps74
  go_wp2_with fail
  rw [← HW.out]
  go_loopw [5, 6, 7] (fun v5 v6 si wr => ∃ k : Nat, k ≤ l.length ∧ si = .int .i64 k ∧ v6 = .bool (anyLt (l.take k) m) ∧ Own wr v5 (if anyLt (l.take k) m = true then ins (l.take k) m else l.take k) ∧ (∀ j, v5.ownBlock = some j → w0.heap.size ≤ j) ∧ Below w0.heap.size w0 wr) (fun _ _ si _ => l.length - (intOf si).toNat)
  case atStart =>
    refine ⟨0, Nat.zero_le _, rfl, rfl, ?_, ?_, ?_⟩
    · have := own_empty w0
      rw [s0] at this
      exact this
    · intro j hj
      simp [Value.ownBlock] at hj
      omega
    · exact (Below.refl _ _).alloc (Nat.le_refl _) _
  case round =>
    obtain ⟨k, hk, rfl, rfl, hown5, hblk, hb⟩ := hrel
    have htk : (l.take k).length = k := by rw [List.length_take]; omega
    have MF : ∀ W : World, Below w0.heap.size w0 W → W.cell? ⟨w.heap.size, 0, none⟩ = some (.int .i64 m.1.1) ∧ W.cell? ⟨w.heap.size, 1, none⟩ = some (.int .i64 m.1.2.1) ∧ W.cell? ⟨w.heap.size, 2, none⟩ = some (.int .i64 m.1.2.2) ∧ W.cell? ⟨w.heap.size, 3, none⟩ = some (.int .i64 m.2.1) ∧ W.cell? ⟨w.heap.size, 4, none⟩ = some (.int .i64 m.2.2.1) ∧ W.cell? ⟨w.heap.size, 5, none⟩ = some (.int .i64 m.2.2.2) := fun W hW => by
      have c := fun j (hj : j < 6) => (hW.cell (p := ⟨w.heap.size, j, none⟩) (by rw [s0]; exact Nat.lt_succ_self _)).trans (xc j hj)
      exact ⟨c 0 (by omega), c 1 (by omega), c 2 (by omega), c 3 (by omega), c 4 (by omega), c 5 (by omega)⟩
    by_cases hlt : k < l.length
    · obtain ⟨g, cap', hv, hg⟩ := own_nonempty hown0 hlt
      obtain ⟨rfl, rfl⟩ : a = some ⟨g, 0, none⟩ ∧ cap = cap' := by simpa using hv
      obtain ⟨x, hx⟩ : ∃ x, nth l k = x := ⟨_, rfl⟩
      have XF := fun (W : World) (hW : Below w0.heap.size w0 W) => own_cell (hown0.keep (S := fun _ => False) (Fr.of_below hW) (fun _ _ g => g)) (x := x) hlt (by rw [← nth_get]; exact hx)
      have tk := take_nth l k hlt
      rw [hx] at tk
      have hany := anyLt_snoc (l.take k) m x
      rw [← tk] at hany
      have hlt' : (k : Int) < (l.length : Int) := by omega
      have hlI : (ins (l.take k) m).length = k + 1 := by rw [ins_len, htk]
      -- one more behind: the end of the round
      have TK : Hid _ := tk
      clear tk hx hv
      cases hd : anyLt (l.take k) m
      · rw [hd] at hown5 hany
        simp only [Bool.false_eq_true, if_false] at hown5
        simp only [Bool.false_or] at hany
        have HC := fun W => refg_any m.1 x.1 W
        have hkk : klt m.1 x.1 = decide (kcmp m.1 x.1 < 0) := rfl
        obtain ⟨r, hr⟩ : ∃ r, kcmp m.1 x.1 = r := ⟨_, rfl⟩
        rw [hr] at HC hkk
        obtain ⟨x0, x1, x2, x3, x4, x5⟩ := XF wr hb
        obtain ⟨m0, m1, m2, m3, m4, m5⟩ := MF wr hb
        have hgw := Nat.lt_of_lt_of_le hg hb.size
        have hBw : w.heap.size < wr.heap.size := by have := hb.size; omega
        have X0 := fun n os => cell_grown (n := n) (os := os) (a := ⟨g, k * 6, none⟩) hgw x0
        have X1 := fun n os => cell_grown (n := n) (os := os) (a := ⟨g, k * 6 + 1, none⟩) hgw x1
        have X2 := fun n os => cell_grown (n := n) (os := os) (a := ⟨g, k * 6 + 2, none⟩) hgw x2
        have Y0 := fun n os => cell_grown (n := n) (os := os) (a := ⟨w.heap.size, 0, none⟩) hBw m0
        have Y1 := fun n os => cell_grown (n := n) (os := os) (a := ⟨w.heap.size, 1, none⟩) hBw m1
        have Y2 := fun n os => cell_grown (n := n) (os := os) (a := ⟨w.heap.size, 2, none⟩) hBw m2
        clear x0 x1 x2 x3 x4 x5 m0 m1 m2 m3 m4 m5
        by_cases hrl : r < 0
        · rw [show klt m.1 x.1 = true by rw [hkk]; simpa using hrl] at hany
          have IH := ins_here x hd (show klt m.1 x.1 = true by rw [hkk]; simpa using hrl)
          rw [← TK.out] at IH
          have IHH : Hid _ := IH
          clear IH hkk hr
          go_wp2_with fail
          go_quiet_grown (first | (go_at_call 107; refine Calls.grown_of (HC _)))
          generalize hwq : grow (World.drewN _ _) _ = wq
          have hbq : Below w0.heap.size w0 wq := by rw [← hwq]; exact below_grown hb hb.size _ _
          have hownq : Own wq u5 (l.take k) := by rw [← hwq]; exact hown5.keep (S := fun _ => False) (Fr.of_below (below_grow _ _ _)) (fun _ _ g => g)
          obtain ⟨m0, m1, m2, m3, m4, m5⟩ := MF wq hbq
          clear hwq hown5 hb X0 X1 X2 Y0 Y1 Y2 HC
          go_wp2_with (at_builtin; refine wpList_append_msg _ rfl (.tmp 28) (.tmp 30) rfl _ (l.take k) rfl ?c1 ?c2 (m) ⟨wq.heap.size, 0, none⟩ rfl ?c3 ?_)
          case c1 => exact hownq.keep (S := fun _ => False) ((Fr.refl _ _).alloc _) (fun _ _ g => g)
          case c2 => first | omega | (simp; omega)
          case c3 => first | exact (fun j u hj => hj) | exact cells_new1 _ (m) 39
          intro a1 cap1 w1 hown1 hfr1 hloc1
          obtain ⟨hb1, hblk1⟩ := stage hbq hblk hfr1 hloc1
          obtain ⟨x0, x1, x2, x3, x4, x5⟩ := XF w1 hb1
          clear m0 m1 m2 m3 m4 m5 hfr1 hloc1 hownq hbq hblk
          go_wp2_with (at_builtin; refine wpList_append_msg _ rfl (.tmp 32) (.tmp 37) rfl _ (l.take k ++ [m]) rfl ?c1 ?c2 (x) ⟨w1.heap.size, 0, none⟩ rfl ?c3 ?_)
          case c1 => exact hown1.keep (S := fun _ => False) ((Fr.refl _ _).alloc _) (fun _ _ g => g)
          case c2 => first | omega | (simp; omega)
          case c3 => first | exact (fun j u hj => hj) | exact cells_new1 _ (x) 39
          intro a2 cap2 w2 hown2 hfr2 hloc2
          obtain ⟨hb2, hblk2⟩ := stage hb1 hblk1 hfr2 hloc2
          clear x0 x1 x2 x3 x4 x5 hfr2 hloc2 hown1 hb1 hblk1 XF MF
          go_wp2
          go_roundw
          case rel => exact ⟨k + 1, by omega, by go_num, by rw [hany], by rw [hany, if_pos rfl, IHH.out, List.append_assoc]; exact hown2, hblk2, hb2⟩
          case measure => simp [intOf]; omega
        · rw [show klt m.1 x.1 = false by rw [hkk]; simpa using hrl] at hany
          clear hkk hr
          go_wp2_with fail
          go_quiet_grown (first | (go_at_call 107; refine Calls.grown_of (HC _)))
          generalize hwq : grow (World.drewN _ _) _ = wq
          have hbq : Below w0.heap.size w0 wq := by rw [← hwq]; exact below_grown hb hb.size _ _
          have hownq : Own wq u5 (l.take k) := by rw [← hwq]; exact hown5.keep (S := fun _ => False) (Fr.of_below (below_grow _ _ _)) (fun _ _ g => g)
          obtain ⟨x0, x1, x2, x3, x4, x5⟩ := XF wq hbq
          clear hwq hown5 hb X0 X1 X2 Y0 Y1 Y2 HC
          go_wp2_with (at_builtin; refine wpList_append_msg _ rfl (.tmp 32) (.tmp 37) rfl _ (l.take k) rfl ?c1 ?c2 (x) ⟨wq.heap.size, 0, none⟩ rfl ?c3 ?_)
          case c1 => exact hownq.keep (S := fun _ => False) ((Fr.refl _ _).alloc _) (fun _ _ g => g)
          case c2 => first | omega | (simp; omega)
          case c3 => first | exact (fun j u hj => hj) | exact cells_new1 _ (x) 39
          intro a1 cap1 w1 hown1 hfr1 hloc1
          obtain ⟨hb1, hblk1⟩ := stage hbq hblk hfr1 hloc1
          clear x0 x1 x2 x3 x4 x5 hfr1 hloc1 hownq hbq hblk XF MF
          go_wp2
          go_roundw
          case rel => exact ⟨k + 1, by omega, by go_num, by rw [hany], by rw [hany, if_neg (by simp), TK.out]; exact hown1, hblk1, hb1⟩
          case measure => simp [intOf]; omega
      · rw [hd] at hown5 hany
        simp only [if_true] at hown5
        simp only [Bool.true_or] at hany
        have IH := ins_later x hd
        rw [← TK.out] at IH
        have IHH : Hid _ := IH
        clear IH
        go_wp2_with fail
        go_quiet (fail)
        generalize hwq : World.drewN _ _ = wq
        have hbq : Below w0.heap.size w0 wq := by rw [← hwq]; exact below_drewN hb _
        have hownq : Own wq u5 (ins (l.take k) m) := by rw [← hwq]; exact hown5
        obtain ⟨x0, x1, x2, x3, x4, x5⟩ := XF wq hbq
        clear hwq hown5 hb
        go_wp2_with (at_builtin; refine wpList_append_msg _ rfl (.tmp 32) (.tmp 37) rfl _ (ins (l.take k) m) rfl ?c1 ?c2 (x) ⟨wq.heap.size, 0, none⟩ rfl ?c3 ?_)
        case c1 => exact hownq.keep (S := fun _ => False) ((Fr.refl _ _).alloc _) (fun _ _ g => g)
        case c2 => first | omega | (simp; omega)
        case c3 => first | exact (fun j u hj => hj) | exact cells_new1 _ (x) 39
        intro a1 cap1 w1 hown1 hfr1 hloc1
        obtain ⟨hb1, hblk1⟩ := stage hbq hblk hfr1 hloc1
        clear x0 x1 x2 x3 x4 x5 hfr1 hloc1 hownq hbq hblk XF MF
        go_wp2
        go_roundw
        case rel => exact ⟨k + 1, by omega, by go_num, by rw [hany], by rw [hany, if_pos rfl, IHH.out]; exact hown1, hblk1, hb1⟩
        case measure => simp [intOf]; omega
    · have hkd : k = l.length := by omega
      subst hkd
      rw [List.take_length] at hown5
      have hgt : ¬ ((l.length : Int) < (l.length : Int)) := by omega
      have tl : l.take l.length = l := List.take_length
      cases hd : anyLt l m
      · rw [hd] at hown5
        simp only [Bool.false_eq_true, if_false] at hown5
        have hd' : anyLt (l.take l.length) m = false := by rw [tl]; exact hd
        obtain ⟨m0, m1, m2, m3, m4, m5⟩ := MF wr hb
        have IE : Hid _ := ins_end hd
        go_wp2_with (at_builtin; refine wpList_append_msg _ rfl (.tmp 41) (.tmp 43) rfl _ (l) rfl ?c1 ?c2 (m) ⟨wr.heap.size, 0, none⟩ rfl ?c3 ?_)
        case c1 => exact hown5.keep (S := fun _ => False) ((Fr.refl _ _).alloc _) (fun _ _ g => g)
        case c2 => first | omega | (simp; omega)
        case c3 => first | exact (fun j u hj => hj) | exact cells_new1 _ (m) 39
        intro a1 cap1 w1 hown1 hfr1 hloc1
        obtain ⟨hb1, hblk1⟩ := stage hb hblk hfr1 hloc1
        clear m0 m1 m2 m3 m4 m5 hfr1 hloc1 hown5 hb hblk MF
        go_wp2
        go_ret
        refine ⟨_, rfl, by rw [IE.out]; exact hown1, fun j hj => by have := hblk1 j hj; omega, b0.trans (hb1.mono (by omega))⟩
      · rw [hd] at hown5
        simp only [if_true] at hown5
        have hd' : anyLt (l.take l.length) m = true := by rw [tl]; exact hd
        clear MF
        go_wp2
        go_ret
        exact ⟨_, rfl, hown5, fun j hj => by have := hblk j hj; omega, b0.trans (hb.mono (by omega))⟩
end Go.Proofs.YtadmojehemdoaaaGreat.Q
/- Proved: contracts of the document's Without and of its look for a key. -/
namespace Go.Proofs.YtadmojehemdoaaaGreat.Q
open Go.RowKit Go.Sort
set_option linter.unusedVariables false
set_option maxRecDepth 100000

theorem del_snoc (d : List M) (i : Nat) (k : K) (h : i < d.length) : del (d.take (i + 1)) k = if (nth d i).1 = k then del (d.take i) k else del (d.take i) k ++ [nth d i] := by
  rw [take_nth d i h]
  unfold del
  rw [List.filter_append]
  split <;> simp [*]
theorem del_len (d : List M) (k : K) : (del d k).length ≤ d.length := List.length_filter_le _ _
theorem equal28 (a1 a2 a3 b1 b2 b3 : Int) (w : World) : (Op.equalIn 10000 37 (.agg #[.int .i64 a1, .int .i64 a2, .int .i64 a3]) (.agg #[.int .i64 b1, .int .i64 b2, .int .i64 b3])).run Tryz.prog w = .ok (decide (((a1, a2, a3) : K) = (b1, b2, b3))) w := by
  have u3 := Tryz.underlying3
  have a3' := Tryz.isAgg3
  have z3 := Tryz.sizeOf3
  have hS : Tryz.prog.underlying 37 = some (.struct (Tryz.prog.fieldsOf 37)) := by kernel_rfl
  have hp : Tryz.prog.stoodInHeld 37 = false := by kernel_rfl
  rw [show (10000 : Nat) = 9999 + 1 from rfl, run_equalIn_agg w 9999 37 _ _ hS hp]
  simp only [Program.fieldsOf, Tryz.underlying37]
  go_simp
  by_cases h1 : a1 = b1 <;> by_cases h2 : a2 = b2 <;> by_cases h3 : a3 = b3 <;> simp [h1, h2, h3]
theorem neq28 (a1 a2 a3 b1 b2 b3 : Int) (w : World) : (binOp .neq 37 (.agg #[.int .i64 a1, .int .i64 a2, .int .i64 a3]) (.agg #[.int .i64 b1, .int .i64 b2, .int .i64 b3])).run Tryz.prog w = .ok (.bool (!decide (((a1, a2, a3) : K) = (b1, b2, b3)))) w := by
  rw [run_neq_struct, equal28]; rfl
theorem eql28 (a1 a2 a3 b1 b2 b3 : Int) (w : World) : (binOp .eql 37 (.agg #[.int .i64 a1, .int .i64 a2, .int .i64 a3]) (.agg #[.int .i64 b1, .int .i64 b2, .int .i64 b3])).run Tryz.prog w = .ok (.bool (decide (((a1, a2, a3) : K) = (b1, b2, b3)))) w := by
  rw [run_eql_struct, equal28]; rfl

set_option maxRecDepth 100000 in
set_option maxHeartbeats 2000000 in
theorem without_any {w : World} {v : Value} {l : List M} (h : Own w v l) (hlen : l.length ≤ 1000) (k1 k2 k3 : Int) :
    Calls Tryz.prog 80 #[v, .agg #[.int .i64 k1, .int .i64 k2, .int .i64 k3]] w fun e w' => ∃ v', e = .returned v' ∧ Own w' v' (del l (k1, k2, k3)) ∧ (∀ k, v'.ownBlock = some k → w.heap.size ≤ k) ∧ Below w.heap.size w w' := by
  have mixed : Tryz.prog.follows .mixedOrders = true := by kernel_rfl
  obtain ⟨w0, hw0⟩ : ∃ w0, w0 = w.alloc (.cells #[.int .i64 k1, .int .i64 k2, .int .i64 k3] 37) := ⟨_, rfl⟩
  have s0 : w0.heap.size = w.heap.size + 1 := by rw [hw0]; simp
  have b0 : Below w.heap.size w w0 := by rw [hw0]; exact (Below.refl _ _).alloc (Nat.le_refl _) _
  have xc : ∀ j, j < 3 → w0.cell? ⟨w.heap.size, j, none⟩ = [Value.int .i64 k1, .int .i64 k2, .int .i64 k3][j]? := fun j hj => by
    rw [hw0]
    simp only [World.cell?, heap_alloc_new]
    simp
  have hown0 : Own w0 v l := h.keep (S := fun _ => False) (Fr.of_below b0) (fun _ _ g => g)
  obtain ⟨a, cap, rfl, _⟩ := h.rd
  have HW : Hid _ := hw0
  clear hw0
  go_enter Tryz.func80, Tryz.ntmps80
  go_wp2_with fail
  rw [← HW.out]
  go_loopw [5, 6] (fun v5 si wr => ∃ k : Nat, k ≤ l.length ∧ si = .int .i64 k ∧ Own wr v5 (del (l.take k) (k1, k2, k3)) ∧ (∀ j, v5.ownBlock = some j → w0.heap.size ≤ j) ∧ Below w0.heap.size w0 wr) (fun _ si _ => l.length - (intOf si).toNat)
  case atStart =>
    refine ⟨0, Nat.zero_le _, rfl, ?_, ?_, ?_⟩
    · have := own_empty w0
      rw [s0] at this
      exact this
    · intro j hj
      simp [Value.ownBlock] at hj
      omega
    · exact (Below.refl _ _).alloc (Nat.le_refl _) _
  case round =>
    obtain ⟨k, hk, rfl, hown5, hblk, hb⟩ := hrel
    have htk : (l.take k).length = k := by rw [List.length_take]; omega
    have hdl := del_len (l.take k) (k1, k2, k3)
    have MF : ∀ W : World, Below w0.heap.size w0 W → W.cell? ⟨w.heap.size, 0, none⟩ = some (.int .i64 k1) ∧ W.cell? ⟨w.heap.size, 1, none⟩ = some (.int .i64 k2) ∧ W.cell? ⟨w.heap.size, 2, none⟩ = some (.int .i64 k3) := fun W hW => by
      have c := fun j (hj : j < 3) => (hW.cell (p := ⟨w.heap.size, j, none⟩) (by rw [s0]; exact Nat.lt_succ_self _)).trans (xc j hj)
      exact ⟨c 0 (by omega), c 1 (by omega), c 2 (by omega)⟩
    by_cases hlt : k < l.length
    · obtain ⟨g, cap', hv, hg⟩ := own_nonempty hown0 hlt
      obtain ⟨rfl, rfl⟩ : a = some ⟨g, 0, none⟩ ∧ cap = cap' := by simpa using hv
      obtain ⟨x, hx⟩ : ∃ x, nth l k = x := ⟨_, rfl⟩
      have XF := fun (W : World) (hW : Below w0.heap.size w0 W) => own_cell (hown0.keep (S := fun _ => False) (Fr.of_below hW) (fun _ _ g => g)) (x := x) hlt (by rw [← nth_get]; exact hx)
      have hsn := del_snoc l k (k1, k2, k3) hlt
      rw [hx] at hsn
      have HSN : Hid _ := hsn
      have hlt' : (k : Int) < (l.length : Int) := by omega
      clear hx hv hsn
      obtain ⟨⟨b1, b2, b3⟩, b4, b5, b6⟩ := x
      obtain ⟨m0, m1, m2⟩ := MF wr hb
      obtain ⟨x0, x1, x2, _, _, _⟩ := XF wr hb
      dsimp only at x0 x1 x2
      by_cases e : (b1, b2, b3) = ((k1, k2, k3) : K)
      · have R1 : del (l.take (k + 1)) (k1, k2, k3) = del (l.take k) (k1, k2, k3) := by rw [HSN.out, if_pos e]
        obtain ⟨rfl, rfl, rfl⟩ : b1 = k1 ∧ b2 = k2 ∧ b3 = k3 := by simpa using e
        clear e
        go_wp2_with fail
        go_quiet (fail)
        generalize hwq : World.drewN _ _ = wq
        have hbq : Below w0.heap.size w0 wq := by rw [← hwq]; exact below_drewN hb _
        have hownq : Own wq u5 (del (l.take k) (b1, b2, b3)) := by rw [← hwq]; exact hown5
        clear hwq hown5 hb XF MF x0 x1 x2 m0 m1 m2
        go_wp2
        go_roundw
        case rel => exact ⟨k + 1, by omega, by go_num, by rw [R1]; exact hownq, hblk, hbq⟩
        case measure => simp [intOf]; omega
      · have R1 : del (l.take (k + 1)) (k1, k2, k3) = del (l.take k) (k1, k2, k3) ++ [((b1, b2, b3), b4, b5, b6)] := by rw [HSN.out, if_neg e]
        have hne := fun W => neq28 b1 b2 b3 k1 k2 k3 W
        rw [decide_eq_false e] at hne
        simp only [Bool.not_false] at hne
        clear e
        go_wp2_with fail
        go_quiet (fail)
        generalize hwq : World.drewN _ _ = wq
        have hbq : Below w0.heap.size w0 wq := by rw [← hwq]; exact below_drewN hb _
        have hownq : Own wq u5 (del (l.take k) (k1, k2, k3)) := by rw [← hwq]; exact hown5
        clear x0 x1 x2 m0 m1 m2
        obtain ⟨x0, x1, x2, x3, x4, x5⟩ := XF wq hbq
        clear hwq hown5 hb
        go_wp2_with (at_builtin; refine wpList_append_msg _ rfl (.tmp 21) (.tmp 26) rfl _ (del (l.take k) (k1, k2, k3)) rfl ?c1 ?c2 ((b1, b2, b3), b4, b5, b6) ⟨wq.heap.size, 0, none⟩ rfl ?c3 ?_)
        case c1 => exact hownq.keep (S := fun _ => False) ((Fr.refl _ _).alloc _) (fun _ _ g => g)
        case c2 => first | omega | (simp; omega)
        case c3 => first | exact (fun j u hj => hj) | exact cells_new1 _ ((b1, b2, b3), b4, b5, b6) 39
        intro a1 cap1 w1 hown1 hfr1 hloc1
        obtain ⟨hb1, hblk1⟩ := stage hbq hblk hfr1 hloc1
        clear x0 x1 x2 x3 x4 x5 hfr1 hloc1 hownq hbq hblk XF MF
        go_wp2
        go_roundw
        case rel => exact ⟨k + 1, by omega, by go_num, by rw [R1]; exact hown1, hblk1, hb1⟩
        case measure => simp [intOf]; omega
    · have hkd : k = l.length := by omega
      subst hkd
      rw [List.take_length] at hown5
      have hgt : ¬ ((l.length : Int) < (l.length : Int)) := by omega
      clear MF
      go_wp2
      go_ret
      exact ⟨_, rfl, hown5, fun j hj => by have := hblk j hj; omega, b0.trans (hb.mono (by omega))⟩

theorem hasK_snoc (d : List M) (i : Nat) (k : K) (h : i < d.length) : hasK (d.take (i + 1)) k = (hasK (d.take i) k || decide ((nth d i).1 = k)) := by
  rw [take_nth d i h]
  simp [hasK]
theorem hasK_take {d : List M} {i : Nat} {k : K} (h : i < d.length) (e : (nth d i).1 = k) : hasK d k = true := by
  rw [hasK_iff, ← e, nth_get d i h]
  exact List.mem_map.2 ⟨_, List.getElem_mem h, rfl⟩

set_option maxRecDepth 100000 in
set_option maxHeartbeats 2000000 in
theorem find_any {w : World} {v : Value} {l : List M} {rb : Nat} (c1 : w.cell? ⟨rb, 1, none⟩ = some v) (h : Own w v l) (hlen : l.length ≤ 1000) (k1 k2 k3 : Int) :
    Calls Tryz.prog 73 #[.pointer (some ⟨rb, 0, none⟩), .agg #[.int .i64 k1, .int .i64 k2, .int .i64 k3]] w fun e w' => ∃ r : Int, e = .returned (.int .i64 r) ∧ (hasK l (k1, k2, k3) = true → ∃ i : Nat, i < l.length ∧ r = i ∧ (nth l i).1 = (k1, k2, k3)) ∧ (hasK l (k1, k2, k3) = false → r = -1) ∧ Below w.heap.size w w' := by
  have mixed : Tryz.prog.follows .mixedOrders = true := by kernel_rfl
  obtain ⟨w0, hw0⟩ : ∃ w0, w0 = w.alloc (.cells #[.int .i64 k1, .int .i64 k2, .int .i64 k3] 37) := ⟨_, rfl⟩
  have s0 : w0.heap.size = w.heap.size + 1 := by rw [hw0]; simp
  have b0 : Below w.heap.size w w0 := by rw [hw0]; exact (Below.refl _ _).alloc (Nat.le_refl _) _
  have xc : ∀ j, j < 3 → w0.cell? ⟨w.heap.size, j, none⟩ = [Value.int .i64 k1, .int .i64 k2, .int .i64 k3][j]? := fun j hj => by
    rw [hw0]
    simp only [World.cell?, heap_alloc_new]
    simp
  have hown0 : Own w0 v l := h.keep (S := fun _ => False) (Fr.of_below b0) (fun _ _ g => g)
  have c1' := (b0.cell (p := ⟨rb, 1, none⟩) (cell_lt c1)).trans c1
  have hrb : rb < w0.heap.size := cell_lt c1'
  obtain ⟨a, cap, rfl, _⟩ := h.rd
  have HW : Hid _ := hw0
  clear hw0
  go_enter Tryz.func73, Tryz.ntmps73
  go_wp2_with fail
  rw [← HW.out]
  go_loopw [5] (fun si wr => ∃ k : Nat, k ≤ l.length ∧ si = .int .i64 k ∧ hasK (l.take k) (k1, k2, k3) = false ∧ Below w0.heap.size w0 wr) (fun si _ => l.length - (intOf si).toNat)
  case atStart => exact ⟨0, Nat.zero_le _, rfl, rfl, Below.refl _ _⟩
  case round =>
    obtain ⟨k, hk, rfl, hno, hb⟩ := hrel
    have MF : ∀ W : World, Below w0.heap.size w0 W → W.cell? ⟨w.heap.size, 0, none⟩ = some (.int .i64 k1) ∧ W.cell? ⟨w.heap.size, 1, none⟩ = some (.int .i64 k2) ∧ W.cell? ⟨w.heap.size, 2, none⟩ = some (.int .i64 k3) := fun W hW => by
      have c := fun j (hj : j < 3) => (hW.cell (p := ⟨w.heap.size, j, none⟩) (by rw [s0]; exact Nat.lt_succ_self _)).trans (xc j hj)
      exact ⟨c 0 (by omega), c 1 (by omega), c 2 (by omega)⟩
    have r1 := (hb.cell (p := ⟨rb, 1, none⟩) hrb).trans c1'
    by_cases hlt : k < l.length
    · obtain ⟨g, cap', hv, hg⟩ := own_nonempty hown0 hlt
      obtain ⟨rfl, rfl⟩ : a = some ⟨g, 0, none⟩ ∧ cap = cap' := by simpa using hv
      obtain ⟨x, hx⟩ : ∃ x, nth l k = x := ⟨_, rfl⟩
      obtain ⟨x0, x1, x2, _, _, _⟩ := own_cell (hown0.keep (S := fun _ => False) (Fr.of_below hb) (fun _ _ g => g)) (x := x) hlt (by rw [← nth_get]; exact hx)
      have hsn := hasK_snoc l k (k1, k2, k3) hlt
      rw [hx, hno] at hsn
      simp only [Bool.false_or] at hsn
      have hlt' : (k : Int) < (l.length : Int) := by omega
      have HX : Hid _ := hx
      have HN : Hid _ := hno
      clear hx hv hno
      obtain ⟨⟨b1, b2, b3⟩, b4, b5, b6⟩ := x
      obtain ⟨m0, m1, m2⟩ := MF wr hb
      dsimp only at x0 x1 x2 hsn
      have heq := fun W => eql28 b1 b2 b3 k1 k2 k3 W
      by_cases e : (b1, b2, b3) = ((k1, k2, k3) : K)
      · rw [decide_eq_true e] at heq
        have R1 : ∀ W : World, Below w0.heap.size w0 W → ∃ r : Int, Ending.returned (.int .i64 (k : Int)) = .returned (.int .i64 r) ∧ (hasK l (k1, k2, k3) = true → ∃ i : Nat, i < l.length ∧ r = i ∧ (nth l i).1 = (k1, k2, k3)) ∧ (hasK l (k1, k2, k3) = false → r = -1) ∧ Below w.heap.size w W := fun W hW =>
          ⟨k, rfl, fun _ => ⟨k, hlt, rfl, by rw [HX.out]; exact e⟩, fun g => (by rw [hasK_take hlt (by rw [HX.out]; exact e)] at g; cases g), b0.trans (hW.mono (by omega))⟩
        have RA : Aside _ := R1
        clear e R1 hsn MF
        go_wp2_with fail
        go_quiet (fail)
        go_wp2_with fail
        go_ret
        exact RA.out _ (below_drewN hb _)
      · rw [decide_eq_false e] at heq hsn
        have HSN : Hid _ := hsn
        clear e hsn MF
        go_wp2_with fail
        go_quiet (fail)
        go_wp2_with fail
        go_roundw
        case rel => exact ⟨k + 1, by omega, by go_num, HSN.out, below_drewN hb _⟩
        case measure => simp [intOf]; omega
    · have hkd : k = l.length := by omega
      subst hkd
      rw [List.take_length] at hno
      have hgt : ¬ ((l.length : Int) < (l.length : Int)) := by omega
      have HN : Hid _ := hno
      clear MF hno
      go_wp2
      go_ret
      exact ⟨_, rfl, fun g => (by rw [HN.out] at g; cases g), fun _ => rfl, b0.trans (hb.mono (by omega))⟩
end Go.Proofs.YtadmojehemdoaaaGreat.Q
/- Proved: contracts of the document's queue: New, Len, First, Push. -/
namespace Go.Proofs.YtadmojehemdoaaaGreat.Q
open Go.RowKit Go.Sort
set_option linter.unusedVariables false
set_option maxRecDepth 100000

/-- The document's queue at block rb. -/
def IsR (w : World) (G : Nat → Prop) (rb room : Nat) (s : List M) : Prop :=
  ∃ v, w.cell? ⟨rb, 0, none⟩ = some (.int .i64 room) ∧ w.cell? ⟨rb, 1, none⟩ = some v ∧ w.frozen? ⟨rb, 1, none⟩ = false ∧ Own w v s ∧ Srt s ∧ v.ownBlock ≠ some rb ∧ room ≤ 64 ∧ s.length ≤ room ∧ G = fun k => k = rb ∨ v.ownBlock = some k
theorem IsR.lt {w : World} {G : Nat → Prop} {rb room : Nat} {s : List M} (h : IsR w G rb room s) : ∀ k, G k → k < w.heap.size := by
  obtain ⟨v, c0, c1, f1, ho, hs, hn, hr, hl, rfl⟩ := h
  rintro k (rfl | hk)
  · exact cell_lt c0
  · exact ho.lt hk
theorem IsR.keep {S G : Nat → Prop} {w w' : World} {rb room : Nat} {s : List M} (h : IsR w G rb room s) (hf : Fr S w w') (hd : ∀ k, G k → ¬ S k) : IsR w' G rb room s := by
  obtain ⟨v, c0, c1, f1, ho, hs, hn, hr, hl, rfl⟩ := h
  exact ⟨v, (hf.cell (p := ⟨rb, 0, none⟩) (cell_lt c0) (hd rb (.inl rfl))).trans c0, (hf.cell (p := ⟨rb, 1, none⟩) (cell_lt c1) (hd rb (.inl rfl))).trans c1, (hf.frozen (p := ⟨rb, 1, none⟩) (cell_lt c1) (hd rb (.inl rfl))).trans f1, ho.keep hf (fun k hk => hd k (.inr hk)), hs, hn, hr, hl, rfl⟩
theorem IsR.below {G : Nat → Prop} {w w' : World} {rb room : Nat} {s : List M} (h : IsR w G rb room s) (hb : Below w.heap.size w w') : IsR w' G rb room s :=
  h.keep (Fr.of_below (S := fun _ => False) hb) (fun _ _ g => g)
/-- Another slice is put into the queue. -/
theorem IsR.put {w0 w : World} {rb room : Nat} {v v' : Value} {s' : List M} (hb : Below w0.heap.size w0 w) (hrb : rb < w0.heap.size) (c0 : w.cell? ⟨rb, 0, none⟩ = some (.int .i64 room)) (c1 : w.cell? ⟨rb, 1, none⟩ = some v) (f1 : w.frozen? ⟨rb, 1, none⟩ = false)
    (ho : Own w v' s') (hblk : ∀ k, v'.ownBlock = some k → w0.heap.size ≤ k) (hs : Srt s') (hr : room ≤ 64) (hl : s'.length ≤ room) :
    IsR (w.setCell ⟨rb, 1, none⟩ v') (fun k => k = rb ∨ v'.ownBlock = some k) rb room s' ∧ Step (fun k => k = rb ∨ v.ownBlock = some k) (fun k => k = rb ∨ v'.ownBlock = some k) w0 (w.setCell ⟨rb, 1, none⟩ v') := by
  have f3 : Fr (fun k => k = rb) w (w.setCell ⟨rb, 1, none⟩ v') := (Fr.refl _ _).setCell _ _ (.inl rfl)
  refine ⟨⟨v', ?_, World.cell?_setCell_same _ _ _ c1, ?_, ho.keep f3 (fun k hk e => by have := hblk k hk; omega), hs, fun e => by have := hblk _ e; omega, hr, hl, rfl⟩, ?_, ?_⟩
  · rw [World.cell?_setCell_other _ _ _ _ (by simp)]; exact c0
  · rw [World.frozen?_setCell]; exact f1
  · exact (Fr.of_below hb).trans (f3.wide (fun k hk => .inl hk)) (fun _ _ g => g)
  · rintro k (rfl | hk)
    · exact .inl (.inl rfl)
    · exact .inr (hblk k hk)

set_option maxHeartbeats 400000 in
theorem rnew_any (r : Int) (w : World) (hr : i64 r) :
    Calls Tryz.prog 36 #[.int .i64 r] w fun e w' => ∃ rb G, e = .returned (.pointer (some ⟨rb, 0, none⟩)) ∧ IsR w' G rb (clampR r) [] ∧ (∀ k, G k → w.heap.size ≤ k) ∧ Below w.heap.size w w' := by
  have hc : (clampR r : Int) = max 0 (min r 64) := by unfold clampR; omega
  have hcl := clampR_le r
  unfold i64 at hr
  go_enter Tryz.func36, Tryz.ntmps36
  go_wp2
  go_ret
  refine ⟨w.heap.size, _, rfl, ⟨.slice none 0 0, ?_, ?_, ?_, World.ownsRow_nil _ _ _ _, List.Pairwise.nil, by simp [Value.ownBlock], hcl, by simp, rfl⟩, ?_, ?_⟩
  · rw [hc, World.cell?_alloc_new]; rfl
  · rw [World.cell?_alloc_new]; rfl
  · unfold World.frozen?
    rw [heap_alloc_new]
    simp
  · rintro k (rfl | g)
    · omega
    · simp [Value.ownBlock] at g
  · exact (Below.refl _ w).alloc (Nat.le_refl _) _

set_option maxHeartbeats 400000 in
theorem rlen_any {w : World} {G : Nat → Prop} {rb room : Nat} {s : List M} (h : IsR w G rb room s) :
    Calls Tryz.prog 184 #[.pointer (some ⟨rb, 0, none⟩)] w fun e w' => e = .returned (.int .i64 s.length) ∧ w' = w := by
  obtain ⟨v, c0, c1, f1, ho, hs, hn, hr, hl, rfl⟩ := h
  obtain ⟨a, cap, rfl, _⟩ := ho.rd
  clear ho hs
  go_enter Tryz.func184, Tryz.ntmps184
  go_wp2
  go_ret
  exact ⟨rfl, rfl⟩

set_option maxHeartbeats 1000000 in
theorem rfirst_any {w : World} {G : Nat → Prop} {rb room : Nat} {s : List M} (h : IsR w G rb room s) :
    Calls Tryz.prog 51 #[.pointer (some ⟨rb, 0, none⟩)] w fun e w' => e = .returned (.tuple #[mv (s.headD zeroM), .bool (!s.isEmpty)]) ∧ Below w.heap.size w w' := by
  obtain ⟨v, c0, c1, f1, ho, hs, hn, hr, hl, rfl⟩ := h
  have hrb := cell_lt c1
  cases s with
  | nil =>
    obtain ⟨a, cap, rfl, _⟩ := ho.rd
    clear ho hs
    simp only [List.length_nil] at c1
    go_enter Tryz.func51, Tryz.ntmps51
    go_wp2
    exact bodyPost_ret (v := .tuple #[mv zeroM, .bool false]) (by simp [results, Tryz.results51, go_sem]) rfl ⟨rfl, (Below.refl _ _).alloc (Nat.le_refl _) _⟩
  | cons x r =>
    obtain ⟨g, cap, rfl, hg⟩ := own_nonempty ho (i := 0) (by simp)
    obtain ⟨x0, x1, x2, x3, x4, x5⟩ := own_cell ho (i := 0) (x := x) (by simp) (by simp)
    have g0 : ¬ ((r.length : Int) + 1 = 0) := by omega
    have g1 : (((r.length : Int) + 1) == 0) = false := by simpa using g0
    have g2 : (0 : Int) < ((r.length + 1 : Nat) : Int) := by omega
    simp only [Nat.zero_mul, Nat.zero_add] at x0 x1 x2 x3 x4 x5
    simp only [List.length_cons] at c1 hl
    clear ho hs
    obtain ⟨⟨a1, a2, a3⟩, a4, a5, a6⟩ := x
    dsimp only at x0 x1 x2 x3 x4 x5
    go_enter Tryz.func51, Tryz.ntmps51
    go_wp2
    exact bodyPost_ret (v := .tuple #[mv ((a1, a2, a3), a4, a5, a6), .bool true]) (by simp [results, Tryz.results51, go_sem]) rfl ⟨rfl, (Below.refl _ _).alloc (Nat.le_refl _) _⟩

set_option maxRecDepth 100000 in
set_option maxHeartbeats 1000000 in
theorem rpush_any {w : World} {G : Nat → Prop} {rb room : Nat} {s : List M} (h : IsR w G rb room s) (m : M) :
    Calls Tryz.prog 41 #[.pointer (some ⟨rb, 0, none⟩), mv m] w fun e w' => e = .returned (.int .i64 (if hasK s m.1 = true then 3 else if room ≤ s.length then 2 else 0)) ∧ ∃ G2, IsR w' G2 rb room (if hasK s m.1 = true then s else if room ≤ s.length then s else ins s m) ∧ Step G G2 w w' := by
  have mixed : Tryz.prog.follows .mixedOrders = true := by kernel_rfl
  have h00 := h
  obtain ⟨v, c0, c1, f1, ho, hs, hn, hr, hl, rfl⟩ := h
  have hrb := cell_lt c1
  obtain ⟨W0, hW0⟩ : ∃ W0, W0 = w.alloc (.cells #[.int .i64 m.1.1, .int .i64 m.1.2.1, .int .i64 m.1.2.2, .int .i64 m.2.1, .int .i64 m.2.2.1, .int .i64 m.2.2.2] 39) := ⟨_, rfl⟩
  have hb0 : Below w.heap.size w W0 := by rw [hW0]; exact (Below.refl _ _).alloc (Nat.le_refl _) _
  have s0 : W0.heap.size = w.heap.size + 1 := by rw [hW0]; simp
  have xc : ∀ j, j < 6 → W0.cell? ⟨w.heap.size, j, none⟩ = (enc m)[j]? := fun j hj => by
    rw [hW0]
    simp only [World.cell?, heap_alloc_new]
    simp [enc]
  have x0 : W0.cell? ⟨w.heap.size, 0, none⟩ = some (.int .i64 m.1.1) := xc 0 (by omega)
  have x1 : W0.cell? ⟨w.heap.size, 1, none⟩ = some (.int .i64 m.1.2.1) := xc 1 (by omega)
  have x2 : W0.cell? ⟨w.heap.size, 2, none⟩ = some (.int .i64 m.1.2.2) := xc 2 (by omega)
  have ho0 : Own W0 v s := ho.keep (S := fun _ => False) (Fr.of_below hb0) (fun _ _ g => g)
  have FI := find_any ((hb0.cell (p := ⟨rb, 1, none⟩) hrb).trans c1) ho0 (by omega) m.1.1 m.1.2.1 m.1.2.2
  have HW : Hid _ := hW0
  have CF : ∀ W : World, Below w.heap.size w W → W.cell? ⟨rb, 0, none⟩ = some (.int .i64 room) ∧ W.cell? ⟨rb, 1, none⟩ = some v ∧ W.frozen? ⟨rb, 1, none⟩ = false ∧ Own W v s := fun W hW =>
    ⟨(hW.cell (p := ⟨rb, 0, none⟩) hrb).trans c0, (hW.cell (p := ⟨rb, 1, none⟩) hrb).trans c1, (hW.frozen (p := ⟨rb, 1, none⟩) hrb).trans f1, ho.keep (S := fun _ => False) (Fr.of_below hW) (fun _ _ g => g)⟩
  have MF : ∀ W : World, Below W0.heap.size W0 W → ∀ j, j < 6 → W.cell? ⟨w.heap.size, j, none⟩ = (enc m)[j]? := fun W hW j hj => (hW.cell (p := ⟨w.heap.size, j, none⟩) (by rw [s0]; exact Nat.lt_succ_self _)).trans (xc j hj)
  clear hW0 xc
  cases hk : hasK s m.1
  · have hsI := hs.ins (fun e => by rw [(hasK_iff s m.1).2 e] at hk; cases hk)
    have hk' : hasK s (m.1.1, m.1.2.1, m.1.2.2) = false := hk
    simp only [Bool.false_eq_true, if_false]
    by_cases hfull : room ≤ s.length
    · simp only [hfull, if_true]
      have hf : (room : Int) ≤ (s.length : Int) := by omega
      have RA : Aside (∀ W : World, Below w.heap.size w W → IsR W (fun k => k = rb ∨ v.ownBlock = some k) rb room s ∧ Step (fun k => k = rb ∨ v.ownBlock = some k) (fun k => k = rb ∨ v.ownBlock = some k) w W) := fun W hW => ⟨h00.below hW, Fr.of_below hW, fun k hk => .inl hk⟩
      obtain ⟨a, cap, rfl, _⟩ := ho.rd
      clear h00 ho ho0 hs hsI hk
      go_enter Tryz.func41, Tryz.ntmps41
      go_wp2_with fail
      rw [← HW.out]
      go_wp2_with fail
      refine FI.mono ?_
      rintro e w1 ⟨r, rfl, _, hr1, hb1⟩
      have hr1' := hr1 hk'
      subst hr1'
      have hb1' : Below w.heap.size w w1 := hb0.trans (hb1.mono (by omega))
      obtain ⟨d0, d1, d2, _⟩ := CF w1 hb1'
      clear hr1 hk' FI
      go_wp2_with fail
      go_quiet (fail)
      go_wp2_with fail
      go_ret
      exact ⟨rfl, _, RA.out _ (below_drewN hb1' _)⟩
    · simp only [hfull, if_false]
      have hf : ¬ (room : Int) ≤ (s.length : Int) := by omega
      have IA : Aside (∀ W : World, Below w.heap.size w W → Calls Tryz.prog 74 #[v, mv m] W fun e w' => ∃ a' cap', e = .returned (.slice a' (s.length + 1) cap') ∧ (w'.cell? ⟨rb, 1, none⟩ = some v ∧ w'.frozen? ⟨rb, 1, none⟩ = false) ∧ (∃ G2, IsR (w'.setCell ⟨rb, 1, none⟩ (.slice a' (s.length + 1) cap')) G2 rb room (ins s m) ∧ Step (fun k => k = rb ∨ v.ownBlock = some k) G2 w (w'.setCell ⟨rb, 1, none⟩ (.slice a' (s.length + 1) cap')))) := fun W hW => by
        refine (insert_any (CF W hW).2.2.2 (by omega) m).mono ?_
        rintro e w' ⟨v', rfl, ho', hblk', hb'⟩
        obtain ⟨a', cap', rfl, _⟩ := ho'.rd
        rw [ins_len] at ho' hblk' ⊢
        have hbb : Below w.heap.size w w' := hW.trans (hb'.mono hW.size)
        obtain ⟨d0, d1, d2, _⟩ := CF w' hbb
        refine ⟨a', cap', rfl, ⟨d1, d2⟩, _, IsR.put hbb hrb d0 d1 d2 ho' (fun k hk => Nat.le_trans hW.size (hblk' k hk)) hsI hr (by rw [ins_len]; omega)⟩
      obtain ⟨a, cap, rfl, _⟩ := ho.rd
      clear h00 ho ho0 hs hsI hk
      obtain ⟨⟨a1, a2, a3⟩, a4, a5, a6⟩ := m
      dsimp only at x0 x1 x2 FI hk'
      dsimp only [mv] at IA
      go_enter Tryz.func41, Tryz.ntmps41
      go_wp2_with fail
      rw [← HW.out]
      go_wp2_with fail
      refine FI.mono ?_
      rintro e w1 ⟨r, rfl, _, hr1, hb1⟩
      have hr1' := hr1 hk'
      subst hr1'
      have hb1' : Below w.heap.size w w1 := hb0.trans (hb1.mono (by omega))
      obtain ⟨d0, d1, d2, _⟩ := CF w1 hb1'
      clear hr1 hk' FI
      go_wp2_with fail
      go_quiet (fail)
      go_wp2_with fail
      generalize hwq : World.drewN _ _ = wq
      have hbq : Below w.heap.size w wq := by rw [← hwq]; exact below_drewN hb1' _
      have hbq0 : Below W0.heap.size W0 wq := by rw [← hwq]; exact below_drewN hb1 _
      obtain ⟨e0, e1, e2, _⟩ := CF wq hbq
      have y := MF wq hbq0
      have y0 : wq.cell? ⟨w.heap.size, 0, none⟩ = some (.int .i64 a1) := y 0 (by omega)
      have y1 : wq.cell? ⟨w.heap.size, 1, none⟩ = some (.int .i64 a2) := y 1 (by omega)
      have y2 : wq.cell? ⟨w.heap.size, 2, none⟩ = some (.int .i64 a3) := y 2 (by omega)
      have y3 : wq.cell? ⟨w.heap.size, 3, none⟩ = some (.int .i64 a4) := y 3 (by omega)
      have y4 : wq.cell? ⟨w.heap.size, 4, none⟩ = some (.int .i64 a5) := y 4 (by omega)
      have y5 : wq.cell? ⟨w.heap.size, 5, none⟩ = some (.int .i64 a6) := y 5 (by omega)
      have HH := IA.out wq.drew hbq.drew
      clear hwq x0 x1 x2 y d0 d1 d2 CF MF
      go_region_with (go_at_call 74; refine HH.mono ?_; rintro e w' ⟨a', cap', rfl, ⟨f1, f2⟩, hR⟩)
      all_goals (go_wp2_with fail; go_ret; exact ⟨rfl, hR⟩)
  · simp only [if_true]
    have RA : Aside (∀ W : World, Below w.heap.size w W → IsR W (fun k => k = rb ∨ v.ownBlock = some k) rb room s ∧ Step (fun k => k = rb ∨ v.ownBlock = some k) (fun k => k = rb ∨ v.ownBlock = some k) w W) := fun W hW => ⟨h00.below hW, Fr.of_below hW, fun k hk => .inl hk⟩
    have hk' : hasK s (m.1.1, m.1.2.1, m.1.2.2) = true := hk
    clear h00 ho ho0 hs hk
    go_enter Tryz.func41, Tryz.ntmps41
    go_wp2_with fail
    rw [← HW.out]
    go_wp2_with fail
    refine FI.mono ?_
    rintro e w1 ⟨r, rfl, hr1, _, hb1⟩
    obtain ⟨i, _, hr1', _⟩ := hr1 hk'
    subst hr1'
    clear hr1 hk' FI
    have hb1' : Below w.heap.size w w1 := hb0.trans (hb1.mono (by omega))
    go_wp2_with fail
    go_ret
    exact ⟨rfl, _, RA.out _ hb1'⟩
end Go.Proofs.YtadmojehemdoaaaGreat.Q
/- Proved: contracts of the document's queue: Pop and Remove. -/
namespace Go.Proofs.YtadmojehemdoaaaGreat.Q
open Go.RowKit Go.Sort
set_option linter.unusedVariables false
set_option maxRecDepth 100000

theorem del_head {x : M} {r : List M} (h : Srt (x :: r)) : del (x :: r) x.1 = r := by
  have h1 := (List.pairwise_cons.1 h).1
  unfold del
  rw [List.filter_cons_of_neg (by simp), List.filter_eq_self]
  intro y hy
  simp only [ne_eq, decide_eq_true_eq]
  intro e
  have := h1 y hy
  rw [e, klt_irrefl] at this
  cases this

theorem six_cell {W : World} {B : Nat} (hz : ∀ j, j < 6 → ∃ u, W.cell? ⟨B, j, none⟩ = some u) (a1 a2 a3 a4 a5 a6 : Value) (o : Obj) (hB : B < W.heap.size) :
    ((six W B a1 a2 a3 a4 a5 a6).alloc o).cell? ⟨B, 0, none⟩ = some a1 ∧ ((six W B a1 a2 a3 a4 a5 a6).alloc o).cell? ⟨B, 1, none⟩ = some a2 ∧ ((six W B a1 a2 a3 a4 a5 a6).alloc o).cell? ⟨B, 2, none⟩ = some a3 ∧
    ((six W B a1 a2 a3 a4 a5 a6).alloc o).cell? ⟨B, 3, none⟩ = some a4 ∧ ((six W B a1 a2 a3 a4 a5 a6).alloc o).cell? ⟨B, 4, none⟩ = some a5 ∧ ((six W B a1 a2 a3 a4 a5 a6).alloc o).cell? ⟨B, 5, none⟩ = some a6 := by
  obtain ⟨u0, z0⟩ := hz 0 (by omega)
  obtain ⟨u1, z1⟩ := hz 1 (by omega)
  obtain ⟨u2, z2⟩ := hz 2 (by omega)
  obtain ⟨u3, z3⟩ := hz 3 (by omega)
  obtain ⟨u4, z4⟩ := hz 4 (by omega)
  obtain ⟨u5, z5⟩ := hz 5 (by omega)
  have hs : B < (six W B a1 a2 a3 a4 a5 a6).heap.size := by simpa using hB
  have al := fun j => World.cell?_alloc_lt (six W B a1 a2 a3 a4 a5 a6) o ⟨B, j, none⟩ hs
  simp only [al]
  refine ⟨?_, ?_, ?_, ?_, ?_, ?_⟩ <;> go_simp

set_option maxRecDepth 100000 in
set_option maxHeartbeats 1000000 in
theorem rpop_any {w : World} {G : Nat → Prop} {rb room : Nat} {s : List M} (h : IsR w G rb room s) :
    Calls Tryz.prog 46 #[.pointer (some ⟨rb, 0, none⟩)] w fun e w' => e = .returned (.tuple #[mv (s.headD zeroM), .bool (!s.isEmpty)]) ∧ ∃ G2, IsR w' G2 rb room s.tail ∧ Step G G2 w w' := by
  have mixed : Tryz.prog.follows .mixedOrders = true := by kernel_rfl
  have h00 := h
  obtain ⟨v, c0, c1, f1, ho, hs, hn, hr, hl, rfl⟩ := h
  have hrb := cell_lt c1
  have hb0 : Below w.heap.size w (w.alloc zobj) := (Below.refl _ _).alloc (Nat.le_refl _) _
  have FI := rfirst_any (h00.below hb0)
  have hlt := h00.lt
  have CF : ∀ W : World, Below w.heap.size w W → W.cell? ⟨rb, 0, none⟩ = some (.int .i64 room) ∧ W.cell? ⟨rb, 1, none⟩ = some v ∧ W.frozen? ⟨rb, 1, none⟩ = false ∧ Own W v s := fun W hW =>
    ⟨(hW.cell (p := ⟨rb, 0, none⟩) hrb).trans c0, (hW.cell (p := ⟨rb, 1, none⟩) hrb).trans c1, (hW.frozen (p := ⟨rb, 1, none⟩) hrb).trans f1, ho.keep (S := fun _ => False) (Fr.of_below hW) (fun _ _ g => g)⟩
  cases s with
  | nil =>
    have RA : Aside (∀ W : World, Below w.heap.size w W → ∀ b1 b2 b3 b4 b5 b6 o, IsR ((six W w.heap.size b1 b2 b3 b4 b5 b6).alloc o) (fun k => k = rb ∨ v.ownBlock = some k) rb room [] ∧ Step (fun k => k = rb ∨ v.ownBlock = some k) (fun k => k = rb ∨ v.ownBlock = some k) w ((six W w.heap.size b1 b2 b3 b4 b5 b6).alloc o)) := fun W hW b1 b2 b3 b4 b5 b6 o =>
      ⟨(h00.below hW).keep ((fr6 W w.heap.size b1 b2 b3 b4 b5 b6).alloc o) (fun k hk e => by have := hlt k hk; omega), (show Step _ _ w W from ⟨Fr.of_below hW, fun k hk => .inl hk⟩).out (Nat.le_refl _) ((fr6 W w.heap.size b1 b2 b3 b4 b5 b6).alloc o)⟩
    dsimp only [List.headD, List.isEmpty, mv, Bool.not_true] at FI
    clear h00 ho hs CF
    go_enter Tryz.func46, Tryz.ntmps46
    go_wp2_with fail
    refine FI.mono ?_
    rintro e w1 ⟨rfl, hb1⟩
    have hb1' : Below w.heap.size w w1 := hb0.trans (hb1.mono (by simp))
    have zc : ∀ j, j < 6 → w1.cell? ⟨w.heap.size, j, none⟩ = some (.int .i64 0) := fun j hj => (hb1.cell (p := ⟨w.heap.size, j, none⟩) (by simp)).trans (zcell w j hj)
    have zf : ∀ j, w1.frozen? ⟨w.heap.size, j, none⟩ = false := fun j => (hb1.frozen (p := ⟨w.heap.size, j, none⟩) (by simp)).trans (zfrozen w j)
    have z0 := zc 0 (by omega)
    have z1 := zc 1 (by omega)
    have z2 := zc 2 (by omega)
    have z3 := zc 3 (by omega)
    have z4 := zc 4 (by omega)
    have z5 := zc 5 (by omega)
    have hz1 : w.heap.size < w1.heap.size := by have := hb1.size; simp at this; omega
    have SC : Aside _ := fun a1 a2 a3 a4 a5 a6 o => six_cell (W := w1) (B := w.heap.size) (fun j hj => ⟨_, zc j hj⟩) a1 a2 a3 a4 a5 a6 o hz1
    clear zc FI
    go_wp2_with fail
    obtain ⟨q0, q1, q2, q3, q4, q5⟩ := SC.out (.int .i64 0) (.int .i64 0) (.int .i64 0) (.int .i64 0) (.int .i64 0) (.int .i64 0) zobj
    exact bodyPost_ret (v := .tuple #[mv zeroM, .bool false]) (by simp [results, Tryz.results46, go_sem, q0, q1, q2, q3, q4, q5]) rfl ⟨rfl, _, RA.out _ hb1' _ _ _ _ _ _ _⟩
  | cons x r =>
    have hdh := del_head hs
    have WA : Aside (∀ W : World, Below w.heap.size w W → w.heap.size < W.heap.size → Calls Tryz.prog 80 #[v, .agg #[.int .i64 x.1.1, .int .i64 x.1.2.1, .int .i64 x.1.2.2]] W fun e w' => ∃ a' cap', e = .returned (.slice a' r.length cap') ∧ (w'.cell? ⟨rb, 1, none⟩ = some v ∧ w'.frozen? ⟨rb, 1, none⟩ = false) ∧ Below W.heap.size W w' ∧
        (∃ G2, ∀ b1 b2 b3 b4 b5 b6, IsR (six (w'.setCell ⟨rb, 1, none⟩ (.slice a' r.length cap')) w.heap.size b1 b2 b3 b4 b5 b6) G2 rb room r ∧ Step (fun k => k = rb ∨ v.ownBlock = some k) G2 w (six (w'.setCell ⟨rb, 1, none⟩ (.slice a' r.length cap')) w.heap.size b1 b2 b3 b4 b5 b6))) := fun W hW hWs => by
      refine (without_any (CF W hW).2.2.2 (by omega) x.1.1 x.1.2.1 x.1.2.2).mono ?_
      rintro e w' ⟨v', rfl, ho', hblk', hb'⟩
      have ho'' : Own w' v' r := by rw [← hdh]; exact ho'
      obtain ⟨a', cap', rfl, _⟩ := ho''.rd
      have hbb : Below w.heap.size w w' := hW.trans (hb'.mono hW.size)
      obtain ⟨d0, d1, d2, _⟩ := CF w' hbb
      obtain ⟨R1, R2⟩ := IsR.put hbb hrb d0 d1 d2 ho'' (fun k hk => Nat.le_trans hW.size (hblk' k hk)) (List.pairwise_cons.1 hs).2 hr (by simp at hl; omega)
      refine ⟨a', cap', rfl, ⟨d1, d2⟩, hb', _, fun b1 b2 b3 b4 b5 b6 => ⟨R1.keep (fr6 _ w.heap.size b1 b2 b3 b4 b5 b6) ?_, R2.out (Nat.le_refl _) (fr6 _ w.heap.size b1 b2 b3 b4 b5 b6)⟩⟩
      rintro k (rfl | hk) e
      · omega
      · have := hblk' k hk; omega
    obtain ⟨a, cap, rfl, _⟩ := ho.rd
    dsimp only [List.headD, List.isEmpty, mv, Bool.not_false] at FI
    clear h00 ho hs hdh
    obtain ⟨⟨a1, a2, a3⟩, a4, a5, a6⟩ := x
    dsimp only at FI WA
    go_enter Tryz.func46, Tryz.ntmps46
    go_wp2_with fail
    refine FI.mono ?_
    rintro e w1 ⟨rfl, hb1⟩
    have hb1' : Below w.heap.size w w1 := hb0.trans (hb1.mono (by simp))
    have zc : ∀ j, j < 6 → w1.cell? ⟨w.heap.size, j, none⟩ = some (.int .i64 0) := fun j hj => (hb1.cell (p := ⟨w.heap.size, j, none⟩) (by simp)).trans (zcell w j hj)
    have zf : ∀ j, w1.frozen? ⟨w.heap.size, j, none⟩ = false := fun j => (hb1.frozen (p := ⟨w.heap.size, j, none⟩) (by simp)).trans (zfrozen w j)
    have hz1 : w.heap.size < w1.heap.size := by have := hb1.size; simp at this; omega
    clear FI
    go_wp2_with fail
    generalize hwq : World.alloc w1 _ = wq
    have hbq1 : Below w1.heap.size w1 wq := by rw [← hwq]; exact (Below.refl _ _).alloc (Nat.le_refl _) _
    have hbq : Below w.heap.size w wq := hb1'.trans (hbq1.mono (by omega))
    have hqs : w1.heap.size < wq.heap.size := by rw [← hwq]; simp
    have mc : ∀ j, j < 6 → wq.cell? ⟨w1.heap.size, j, none⟩ = (enc ((a1, a2, a3), a4, a5, a6))[j]? := fun j hj => by
      rw [← hwq]
      simp only [World.cell?, heap_alloc_new]
      simp [enc]
    have y0 : wq.cell? ⟨w1.heap.size, 0, none⟩ = some (.int .i64 a1) := mc 0 (by omega)
    have y1 : wq.cell? ⟨w1.heap.size, 1, none⟩ = some (.int .i64 a2) := mc 1 (by omega)
    have y2 : wq.cell? ⟨w1.heap.size, 2, none⟩ = some (.int .i64 a3) := mc 2 (by omega)
    obtain ⟨e0, e1, e2, _⟩ := CF wq hbq
    have HH := WA.out wq.drew hbq.drew (show w.heap.size < wq.heap.size by omega)
    have hsd : wq.drew.heap.size = wq.heap.size := rfl
    have zq : ∀ W : World, Below wq.drew.heap.size wq.drew W → (∀ j, j < 6 → W.cell? ⟨w.heap.size, j, none⟩ = some (.int .i64 0)) ∧ (∀ j, W.frozen? ⟨w.heap.size, j, none⟩ = false) ∧ (∀ j, j < 6 → W.cell? ⟨w1.heap.size, j, none⟩ = (enc ((a1, a2, a3), a4, a5, a6))[j]?) := fun W hW =>
      ⟨fun j hj => (hW.cell (p := ⟨w.heap.size, j, none⟩) (by rw [hsd]; show w.heap.size < wq.heap.size; omega)).trans ((hbq1.cell (p := ⟨w.heap.size, j, none⟩) hz1).trans (zc j hj)), fun j => (hW.frozen (p := ⟨w.heap.size, j, none⟩) (by rw [hsd]; show w.heap.size < wq.heap.size; omega)).trans ((hbq1.frozen (p := ⟨w.heap.size, j, none⟩) hz1).trans (zf j)), fun j hj => (hW.cell (p := ⟨w1.heap.size, j, none⟩) (by rw [hsd]; exact hqs)).trans (mc j hj)⟩
    have ZQ : Aside _ := zq
    have hne1 : rb ≠ w.heap.size := by omega
    have hne2 : rb ≠ w1.heap.size := by omega
    clear hwq zc zf CF mc zq
    go_region_with (go_at_call 80; refine HH.mono ?_; rintro e w' ⟨a', cap', rfl, ⟨f1, f2⟩, hbw, hR⟩)
    all_goals
      obtain ⟨zc, zf, mc⟩ := ZQ.out _ hbw
      have z0 := zc 0 (by omega)
      have z1 := zc 1 (by omega)
      have z2 := zc 2 (by omega)
      have z3 := zc 3 (by omega)
      have z4 := zc 4 (by omega)
      have z5 := zc 5 (by omega)
      have m0 : w'.cell? ⟨w1.heap.size, 0, none⟩ = some (.int .i64 a1) := mc 0 (by omega)
      have m1 : w'.cell? ⟨w1.heap.size, 1, none⟩ = some (.int .i64 a2) := mc 1 (by omega)
      have m2 : w'.cell? ⟨w1.heap.size, 2, none⟩ = some (.int .i64 a3) := mc 2 (by omega)
      have m3 : w'.cell? ⟨w1.heap.size, 3, none⟩ = some (.int .i64 a4) := mc 3 (by omega)
      have m4 : w'.cell? ⟨w1.heap.size, 4, none⟩ = some (.int .i64 a5) := mc 4 (by omega)
      have m5 : w'.cell? ⟨w1.heap.size, 5, none⟩ = some (.int .i64 a6) := mc 5 (by omega)
      obtain ⟨G2, hR⟩ := hR
      have RA : Aside _ := hR
      clear zc mc hR hbw y0 y1 y2 e0 e1 e2
      go_wp2_with fail
      exact bodyPost_ret (v := .tuple #[mv ((a1, a2, a3), a4, a5, a6), .bool true]) (by simp [results, Tryz.results46, go_sem, z0, z1, z2, z3, z4, z5]) rfl ⟨rfl, _, RA.out _ _ _ _ _ _⟩

end Go.Proofs.YtadmojehemdoaaaGreat.Q
/- Proved: contracts of the document's queue: List and Below; that two slices of the same messages are told to be the same. -/
namespace Go.Proofs.YtadmojehemdoaaaGreat.Q
open Go.RowKit Go.Sort
set_option linter.unusedVariables false
set_option maxRecDepth 100000

set_option maxRecDepth 100000 in
set_option maxHeartbeats 1000000 in
theorem same_any {w : World} {va vb : Value} {s : List M} (ha : Own w va s) (hb : Own w vb s) (hlen : s.length ≤ 1000) :
    Calls Tryz.prog 15 #[va, vb] w fun e w' => e = .returned (.bool true) ∧ Below w.heap.size w w' := by
  have mixed : Tryz.prog.follows .mixedOrders = true := by kernel_rfl
  have ha0 := ha
  have hb0 := hb
  obtain ⟨a, ca, rfl, _⟩ := ha.rd
  obtain ⟨b, cb, rfl, _⟩ := hb.rd
  go_enter Tryz.func15, Tryz.ntmps15
  go_wp2_with fail
  go_loopw [5] (fun si wr => ∃ k : Nat, k ≤ s.length ∧ si = .int .i64 k ∧ Below w.heap.size w wr) (fun si _ => s.length - (intOf si).toNat)
  case atStart => exact ⟨0, Nat.zero_le _, rfl, Below.refl _ _⟩
  case round =>
    obtain ⟨k, hk, rfl, hB⟩ := hrel
    by_cases hlt : k < s.length
    · obtain ⟨g, ca', hv, _⟩ := own_nonempty ha0 hlt
      obtain ⟨rfl, rfl⟩ : a = some ⟨g, 0, none⟩ ∧ ca = ca' := by simpa using hv
      obtain ⟨g', cb', hv', _⟩ := own_nonempty hb0 hlt
      obtain ⟨rfl, rfl⟩ : b = some ⟨g', 0, none⟩ ∧ cb = cb' := by simpa using hv'
      obtain ⟨x, hx⟩ : ∃ x, s[k] = x := ⟨_, rfl⟩
      obtain ⟨x0, x1, x2, x3, x4, x5⟩ := own_cell (ha0.keep (S := fun _ => False) (Fr.of_below hB) (fun _ _ g => g)) hlt hx
      obtain ⟨y0, y1, y2, y3, y4, y5⟩ := own_cell (hb0.keep (S := fun _ => False) (Fr.of_below hB) (fun _ _ g => g)) hlt hx
      have hlt' : (k : Int) < (s.length : Int) := by omega
      clear hx hv hv'
      obtain ⟨⟨b1, b2, b3⟩, b4, b5, b6⟩ := x
      dsimp only at x0 x1 x2 x3 x4 x5 y0 y1 y2 y3 y4 y5
      go_wp2_with fail
      go_quiet (fail)
      go_wp2_with fail
      go_roundw
      case rel => exact ⟨k + 1, by omega, by go_num, below_drewN hB _⟩
      case measure => simp [intOf]; omega
    · have hkd : k = s.length := by omega
      subst hkd
      have hgt : ¬ ((s.length : Int) < (s.length : Int)) := by omega
      go_wp2
      go_ret
      exact ⟨rfl, hB⟩

set_option maxRecDepth 100000 in
set_option maxHeartbeats 1000000 in
theorem rlist_any {w : World} {G : Nat → Prop} {rb room : Nat} {s : List M} (h : IsR w G rb room s) :
    Calls Tryz.prog 56 #[.pointer (some ⟨rb, 0, none⟩)] w fun e w' => ∃ v, e = .returned v ∧ Own w' v s ∧ (∀ k, v.ownBlock = some k → w.heap.size ≤ k) ∧ Below w.heap.size w w' := by
  obtain ⟨v, c0, c1, f1, ho, hs, hn, hr, hl, rfl⟩ := h
  have hrb := cell_lt c1
  have hown := ho
  obtain ⟨i0, hi0, hz0, hz1, hz2⟩ := info_parts info30
  rcases ho.2 with ⟨rfl, hn0⟩ | ⟨g, cap, cur, rfl, _, hg, hnc, hcm, hcs, ht⟩
  · have hs0 : s = [] := List.length_eq_zero_iff.1 hn0
    subst hs0
    clear ho hs
    go_enter Tryz.func56, Tryz.ntmps56
    go_wp2_with (at_builtin; refine wpList_append_own_none rfl (.tmp 5) (.tmp 9) 47 rfl 0 39 i0 6 Tryz.underlying47 hi0 _ 0 [] rfl (own_empty w) rfl ?_)
    go_wp2
    go_ret
    exact ⟨_, rfl, own_empty w, fun k hk => by simp [Value.ownBlock] at hk; omega, (Below.refl _ _).alloc (Nat.le_refl _) _⟩
  · have hgl := (Array.getElem?_eq_some_iff.1 hg).1
    have HC : Aside (∀ j u, (flat s)[j]? = some u → (w.alloc (.cells #[] 39)).cell? ((⟨g, 0, none⟩ : Addr).add j) = some u) := fun j u hj => by
      have hj' : j < s.length * 6 := by have := (List.getElem?_eq_some_iff.1 hj).1; rwa [flat_len] at this
      rw [Addr.add_lit, Nat.zero_add, World.cell?_alloc_lt _ _ _ hgl, World.ownsRow.cellAt hown j hj', hj]
    clear ho hs hg ht
    go_enter Tryz.func56, Tryz.ntmps56
    go_wp2_with (at_builtin; refine wpList_append_own_at _ rfl (.tmp 5) (.tmp 9) 47 rfl 0 39 i0 (mv zeroM) 6 48 Tryz.underlying47 hi0 hz0 hz1 hz2 rfl (by decide) _ 0 [] rfl (own_empty w) ⟨g, 0, none⟩ s.length cap (flat s) rfl (flat_len s) HC.out (flat_one_cell s) ?c1 ?c2 ?c3 ?_)
    case c1 => unfold maxLen; omega
    case c2 => omega
    case c3 => omega
    intro v' w1 hown1 hgrow hnil hat
    have ho1 : Own w1 v' s := by simpa [Own] using hown1
    have hb1 : Below w.heap.size w w1 := ((Below.refl _ w).alloc (Nat.le_refl _) _).trans ((Fr.of_grown hgrow).below (by simp) (fun k hk => by simp [Value.ownBlock] at hk; omega))
    have hblk1 : ∀ k, v'.ownBlock = some k → w.heap.size ≤ k := fun k hk => by
      rcases hat with e | e
      · rw [e] at hk; simp [Value.ownBlock] at hk; omega
      · rw [e] at hk; simp at hk; omega
    clear hown1 hgrow hnil hat
    go_wp2
    go_ret
    exact ⟨_, rfl, ho1, hblk1, hb1⟩
end Go.Proofs.YtadmojehemdoaaaGreat.Q
