/- Joined: the texts that follow, each with its own sentence. -/
import Derived.Test.YtiaopafkfadmkaaGreatZAa
set_option linter.unusedVariables false
set_option maxRecDepth 100000
namespace Go.Proofs.YtiaopafkfadmkaaGreat.A
open Go.Proofs.YtiaopafkfadmkaaGreat.B
open Go.RowKit Go.Shelf Go.Sort
theorem new_ge {w W w2 : World} {v v' : Value} (hs : w.heap.size ≤ W.heap.size) (h : ∀ k, v.ownBlock = some k → w.heap.size ≤ k) (hm : Mw (fun k => v.ownBlock = some k) (fun k => v'.ownBlock = some k) W w2) {k : Nat} (e : v'.ownBlock = some k) : w.heap.size ≤ k := by
 rcases Nat.lt_or_ge k W.heap.size with g | g
 ·exact h k (hm.new k g e)
 ·omega
def keyE (x : E) : K := x.p.m.1
set_option maxHeartbeats 2000000 in
theorem keysE {w : World} {b : Nat} {a : Option Addr} {c : Nat} {l : List E} (c0 : w.cell? ⟨b, 0, none⟩ = some (.slice a l.length c)) (hr : OwR cE 126 w (.slice a l.length c) l) (hl : l.length ≤ 64) :
  Calls Tryz.prog 202 #[.pointer (some ⟨b, 0, none⟩)] w fun e w' => ∃ a' c', e = .returned (.slice a' l.length c') ∧ OwR cK 37 w' (.slice a' l.length c') (l.map keyE) ∧ (∀ k, (Value.slice a' l.length c').ownBlock = some k → w.heap.size ≤ k) ∧ Below w.heap.size w w' := by
 have HR : Hid (OwR cE 126 w (.slice a l.length c) l) := hr
 clear hr
 go_enter Tryz.func202, Tryz.ntmps202
 go_wp2
 go_loopw [3, 11] (fun s3 s11 wr => ∃ (i : Nat) (ka : Option Addr) (kc : Nat), s11 = .int .i64 i ∧ i ≤ l.length ∧ s3 = .slice ka i kc ∧ Hid (OwR cK 37 wr (.slice ka i kc) ((l.take i).map keyE)) ∧ Hid (∀ k, (Value.slice ka i kc).ownBlock = some k → w.heap.size ≤ k) ∧ Hid (Below w.heap.size w wr)) (fun _ s11 _ => l.length - (intOf s11).toNat)
 case atStart => exact ⟨0, none, 0, rfl, Nat.zero_le _, rfl, (OwR.nil cK _ _ : OwR cK 37 w (.slice none 0 0) []), (fun k e => by simp [Value.ownBlock] at e : ∀ k, (Value.slice none 0 0).ownBlock = some k → w.heap.size ≤ k), Below.refl _ _⟩
 case round =>
  obtain ⟨i, ka, kc, rfl, hi, rfl, HO, HN, HB⟩ := hrel
  by_cases hlt : i < l.length
  ·have hlt' : (i : Int) < (l.length : Int) := by omega
   obtain ⟨x, hx⟩ : ∃ x, nth cE l i = x := ⟨_, rfl⟩
   obtain ⟨g, rfl, hg, x0, x1, x2, x3, x4, x5, x6, x7, x8, x9⟩ := (HR.out.below HB.out).entry hlt hx
   have hX : (l.take i).map keyE ++ [keyE x] = (l.take (i + 1)).map keyE := by
    rw [List.take_add_one, List.map_append, List.getElem?_eq_getElem hlt]
    rw [nth_get hlt] at hx
    simp [hx]
   obtain ⟨X, hXe⟩ : ∃ X, X = (l.take (i + 1)).map keyE := ⟨_, rfl⟩
   rw [← hXe] at hX
   have HX : Hid ((l.take i).map keyE ++ [keyE x] = X) := hX
   have HL : Hid (X.length = i + 1) := by rw [hXe]; show ((l.take (i + 1)).map keyE).length = i + 1; rw [List.length_map, List.length_take]; omega
   have HXE : Hid (X = (l.take (i + 1)).map keyE) := hXe
   obtain ⟨⟨⟨⟨y1, y2, y3⟩, y4, y5, y6⟩, y7, y8, y9, yos⟩, yoa, yoc⟩ := x
   obtain ⟨n, hn⟩ : ∃ n, yos.length = n := ⟨_, rfl⟩
   simp only [hn] at x9
   clear hX hx hXe
   have HB2 : Hid (∀ o1 o2, Below w.heap.size w ((wr.alloc o1).alloc o2)) := fun o1 o2 => Below.on HB.out (Below.on (al _ _) (al _ _))
   go_wp2_with (at_builtin; refine wpList_append_R tyK (fun _ => True) _ rfl (.tmp 15) (.tmp 19) rfl _ _ _ ((l.take i).map keyE) [(y1, y2, y3)] rfl rfl (HO.out.below (Below.on (al _ _) (al _ _))) (RdN.newAt cK _ _ _ _ _ (by simp) rfl trivial) (by simp; omega) (by simp) X HX.out ?_; intro a' c' w2 ho hm; have HO2 : Hid (OwR cK 37 w2 (.slice a' X.length c') X) := ho; have HB3 : Hid (Below w.heap.size w w2) := (HB2.out _ _).trans (hm.fr.below (HB2.out _ _).size HN.out); have HN2 : Hid (∀ k, (Value.slice a' X.length c').ownBlock = some k → w.heap.size ≤ k) := (fun k e => new_ge (HB2.out _ _).size HN.out hm e); clear ho hm)
   go_roundw
   case rel =>
    refine ⟨i + 1, a', c', by go_num, by omega, by rw [HL.out], ?_, ?_, HB3.out⟩
    ·have h1 : OwR cK 37 w2 (.slice a' X.length c') X := HO2.out
     rw [HL.out, HXE.out] at h1
     exact h1
    ·have h1 : ∀ k, (Value.slice a' X.length c').ownBlock = some k → w.heap.size ≤ k := HN2.out
     rw [HL.out] at h1
     exact h1
   case measure => simp [intOf]; omega
  ·obtain rfl : i = l.length := by omega
   go_wp2
   go_ret
   refine ⟨_, _, rfl, ?_, HN.out, HB.out⟩
   have := HO.out
   rwa [List.take_of_length_le (Nat.le_refl _)] at this
def keysP (L : List P) : List K := L.map (fun x => x.m.1)
theorem keys_any {X : Nat → Prop} {w : World} {fl : Int} {L : List P} {b : Nat} {v : Value} (h : PP X w fl L b v) :
  Calls Tryz.prog 202 #[.pointer (some ⟨b, 0, none⟩)] w fun e w' => ∃ a c, e = .returned (.slice a L.length c) ∧ OwR cK 37 w' (.slice a L.length c) (keysP L) ∧ (∀ k, (Value.slice a L.length c).ownBlock = some k → w.heap.size ≤ k) ∧ Below w.heap.size w w' := by
 obtain ⟨l, rfl, hq, hs⟩ := h
 obtain ⟨a, c, rfl, _⟩ := hq.row.rd (N := fun _ => True) (fun _ _ => trivial)
 have := keysE hq.c0 hq.row hq.cap
 have e : keysP (l.map E.p) = l.map keyE := by unfold keysP keyE; simp
 rw [e, List.length_map]
 exact this
end Go.Proofs.YtiaopafkfadmkaaGreat.A
namespace Go.Proofs.YtiaopafkfadmkaaGreat.A
open Go.Proofs.YtiaopafkfadmkaaGreat.B
open Go.RowKit Go.Shelf Go.Sort Go.Lib
theorem run_clearK {P : Program} {sz : Nat} (w : World) (t e : TypeId) (z : Value) (ht : P.underlying t = some (.slice e)) (hv : ∀ w, (zeroValue e).run P w = .ok z w) (hz : z.cells.size = sz) (hs0 : 0 < sz) (h1 : ∀ v ∈ z.cells, v.oneCell' = true) (g o n : Nat) (hn : 0 < n)
  (cur : Array Value) (tt : TypeId) (hg : w.heap[g]? = some (.cells cur tt (0, 0))) (hfit : o + n * sz ≤ cur.size) :
  ∃ row : Array Value, row.size = cur.size ∧ (∀ k, k ≤ o → row.toList.take k = cur.toList.take k) ∧ ∀ ty c, (Builtin.clear_ #[t] ty #[.slice (some ⟨g, o, none⟩) n c]).run P w = .ok (.tuple #[]) (w.setRow g row) := by
 obtain ⟨m, rfl⟩ : ∃ m, n = m + 1 := ⟨n - 1, by omega⟩
 have hlen : (Builtin.zeroCells z.cells (m + 1)).toList.length = (m + 1) * sz := by simp [Builtin.zeroCells, hz]
 have hone : ∀ v ∈ (Builtin.zeroCells z.cells (m + 1)).toList, v.oneCell' = true := by
  intro v hv
  simp only [Builtin.zeroCells, Array.toList_map, List.mem_map, Array.mem_toList_iff, Array.mem_range] at hv
  obtain ⟨j, hj, rfl⟩ := hv
  have hj6 : j % z.cells.size < z.cells.size := Nat.mod_lt _ (by omega)
  rw [getElem!_pos z.cells _ hj6]
  exact h1 _ (Array.getElem_mem _)
 have hst := run_storeCells_at P g o tt (Builtin.zeroCells z.cells (m + 1)).toList 0 cur w hg (by rw [hlen]; omega) hone
 simp only [Nat.add_zero] at hst
 refine ⟨_, ?_, ?_, fun ty c => by simp [Builtin.clear_, run_underlying ht, hv, hst]; rfl⟩
 ·simp only [List.size_toArray, List.length_append, List.length_take, List.length_drop, Array.length_toList]
  rw [Array.length_toList] at hlen
  omega
 ·intro k hk
  rw [List.take_append_of_le_length (by simp; omega), List.take_take, Nat.min_eq_left hk]
theorem zeroE (w : World) : (zeroValue 126).run Tryz.prog w = .ok (ev e0) w := by kernel_rfl
theorem cells_cut {w : World} {g cap n j : Nat} {l : List E} (h : OwR cE 126 w (.slice (some ⟨g, 0, none⟩) n cap) l) (hj : j ≤ l.length) : ∃ A : Addr, (if cap = j then some (⟨g, 0, none⟩ : Addr) else some ⟨g, j * 10, none⟩) = some A ∧ ∀ i u, (flat cE (l.drop j))[i]? = some u → w.cell? (A.add i) = some u := by
 obtain ⟨hk, cur, hg, hc1, hc2, hc3, hc4⟩ := h.block
 by_cases e : cap = j
 ·refine ⟨⟨g, 0, none⟩, by simp [e], fun i u hi => ?_⟩
  rw [List.drop_of_length_le (by omega)] at hi
  simp [flat] at hi
 ·refine ⟨⟨g, j * 10, none⟩, by simp [e], fun i u hi => ?_⟩
  rw [Addr.add_lit]
  rw [flat_drop, List.getElem?_drop] at hi
  have hlt : j * 10 + i < l.length * 10 := by
   have := (List.getElem?_eq_some_iff.1 hi).1
   rwa [flat_len] at this
  subst hk
  exact (World.ownsRow.cellAt h _ hlt).trans hi
set_option maxHeartbeats 2000000 in
theorem sdel_some {w : World} {g n cap i j : Nat} {l : List E} (h : OwR cE 126 w (.slice (some ⟨g, 0, none⟩) n cap) l) (hlen : l.length ≤ 1000) (hij : i < j) (hj : j ≤ l.length) :
  Calls Tryz.prog 164 #[.slice (some ⟨g, 0, none⟩) n cap, .int .i64 i, .int .i64 j] w fun e w' =>
   e = .returned (.slice (some ⟨g, 0, none⟩) (i + (n - j)) cap) ∧ OwR cE 126 w' (.slice (some ⟨g, 0, none⟩) (i + (n - j)) cap) (l.take i ++ l.drop j) ∧ Fr (fun k => k = g) w w' := by
 have mixed : Tryz.prog.follows .mixedOrders = true := by kernel_rfl
 obtain ⟨hk, cur, hg, hc1, hc2, hc3, hc4⟩ := h.block
 have hc3' : cur.size = cap * 10 := hc3
 have hc4' : cur.toList.take (l.length * 10) = flat cE l := hc4
 obtain ⟨A, hA, hsrc⟩ := cells_cut h hj
 obtain ⟨i0, hi0, hz0, hzs, hzb⟩ := info_parts tyE.hi
 have hzs' : i0.size = 10 := hzs
 have hd : (flat cE (l.drop j)).length = (n - j) * 10 := by rw [flat_len, List.length_drop, ← hk]; rfl
 obtain ⟨row1, hr1⟩ : ∃ row1, row1 = (cur.toList.take (i * 10) ++ (flat cE (l.drop j) ++ cur.toList.drop (i * 10 + (flat cE (l.drop j)).length))).toArray := ⟨_, rfl⟩
 have hs1 : row1.size = cap * 10 := by
  rw [hr1]
  simp only [List.size_toArray, List.length_append, List.length_take, List.length_drop, Array.length_toList, hd]
  omega
 have hrun : ∀ ty c, (Builtin.append_ #[135, 135] ty #[.slice (some ⟨g, 0, none⟩) i cap, .slice (some A) (n - j) c]).run Tryz.prog w.drew = .ok (.slice (some ⟨g, 0, none⟩) (i + (n - j)) cap) (w.drew.setRow g row1) := fun ty c => by
  have h := run_append_room (P := Tryz.prog) w.drew 135 ty 126 i0 Tryz.underlying135 hi0 g i cap cur hg A (n - j) c (flat cE (l.drop j)) (by rw [hzs']; exact hd) hsrc (flat_one cE _) (by omega) (by rw [hzs', hd]; omega)
  rw [hzs'] at h
  rw [h, hr1, List.append_assoc]
 obtain ⟨W1, hW1⟩ : ∃ W1, W1 = w.drew.setRow g row1 := ⟨_, rfl⟩
 have hg1 : W1.heap[g]? = some (.cells row1 126 (0, 0)) := by rw [hW1]; exact setRow_heap w.drew g cur _ 126 _ hg
 have f1 : Fr (fun k => k = g) w W1 := by rw [hW1]; exact (Fr.refl _ w).drew.then (fr_setRow _ _ _)
 obtain ⟨k, hkk⟩ : ∃ k, i + (n - j) = k := ⟨_, rfl⟩
 obtain ⟨row2, hs2, ht2, hcl⟩ := run_clearK (P := Tryz.prog) (sz := 10) W1 135 126 (ev e0) Tryz.underlying135 zeroE rfl (by decide) (by intro v hv; simp [Value.cells] at hv; rcases hv with rfl | rfl | rfl | rfl | rfl | rfl | rfl | rfl | rfl | rfl <;> rfl) g (k * 10) (n - k) (by omega) row1 126 hg1 (by rw [hs1]; omega)
 have hg2 : (W1.setRow g row2).heap[g]? = some (.cells row2 126 (0, 0)) := setRow_heap W1 g row1 _ 126 _ hg1
 have f2 : Fr (fun k => k = g) w (W1.setRow g row2) := f1.then (fr_setRow _ _ _)
 have hl2 : (l.take i ++ l.drop j).length = k := by simp; omega
 have hF : OwR cE 126 (W1.setRow g row2) (.slice (some ⟨g, 0, none⟩) k cap) (l.take i ++ l.drop j) := by
  have := own_of_block (C := cE) (W := W1.setRow g row2) (g := g) (cap := cap) (l := l.take i ++ l.drop j) hg2 (by omega) hc2 (by rw [hs2, hs1]; rfl) ?_
  ·rwa [hl2] at this
  ·have e1 : cur.toList.take (i * 10) = flat cE (l.take i) := by rw [flat_take, ← hc4', List.take_take]; show _ = List.take (min (i * 10) _) _; congr 1; omega
   have e2 : (flat cE (l.take i)).length = i * 10 := by rw [flat_len, List.length_take, Nat.min_eq_left (by omega)]; rfl
   rw [hl2]
   show row2.toList.take (k * 10) = _
   rw [ht2 _ (Nat.le_refl _), hr1, flat_append]
   rw [e1, ← List.append_assoc]
   rw [List.take_append_of_le_length (by rw [List.length_append, e2, hd]; omega)]
   rw [List.take_of_length_le (by rw [List.length_append, e2, hd]; omega)]
 obtain ⟨W2, hW2⟩ : ∃ W2, W2 = W1.setRow g row2 := ⟨_, rfl⟩
 rw [← hW2] at hcl hF f2
 rw [← hW1] at hrun
 rw [hkk] at hrun ⊢
 have HF : Aside _ := hF
 have Hf : Aside _ := f2
 unfold maxLen at hc2
 rw [← hk] at hj hc1 hlen
 have hcap : n ≤ cap := hc1
 have hkn : k < n := by omega
 clear hF f2 hW2 hg2 hs2 ht2 f1 hg1 hW1 hr1 hs1 hd hsrc hg hc1 hc3 hc4 hc3' hc4' h hk hl2 hzs hzs'
 have h9 : i ≤ cap := by omega
 have h10 : j ≤ cap := by omega
 have h1 : (i : Int) ≤ (j : Int) := by omega
 have h2 : (j : Int) ≤ (n : Int) := by omega
 have h3 : (n : Int) ≤ (cap : Int) := by omega
 have h4 : ¬ ((i : Int) = (j : Int)) := by omega
 have h4' : ((i : Int) == (j : Int)) = false := by simp; omega
 have h6 : (k : Int) ≤ (n : Int) := by omega
 have h8 : ¬ (cap = k) := by omega
 by_cases hci : cap = j
 ·rw [if_pos hci] at hA
  obtain rfl : A = ⟨g, 0, none⟩ := by simpa using hA.symm
  subst hci
  obtain rfl : n = cap := by omega
  have hz : n - n = 0 := by omega
  rw [hz] at hrun
  clear hA
  go_enter Tryz.func164, Tryz.ntmps164
  go_wp2_with fail
  go_region_law (refine step_append_run rfl (.tmp 22) (.tmp 25) 135 rfl (by simp [Act.eval, Act.put]) (by simp [Act.eval, Act.put]) (hrun _ 0) ?_)
  go_wp2
  go_ret
  exact ⟨rfl, HF.out, Hf.out⟩
 ·rw [if_neg hci] at hA
  obtain rfl : A = ⟨g, j * 10, none⟩ := by simpa using hA.symm
  clear hA
  go_enter Tryz.func164, Tryz.ntmps164
  go_wp2_with fail
  go_region_law (refine step_append_run rfl (.tmp 22) (.tmp 25) 135 rfl (by simp [Act.eval, Act.put]) (by simp [Act.eval, Act.put]) (hrun _ (cap - j)) ?_)
  go_wp2
  go_ret
  exact ⟨rfl, HF.out, Hf.out⟩
end Go.Proofs.YtiaopafkfadmkaaGreat.A
namespace Go.Proofs.YtiaopafkfadmkaaGreat.A
open Go.Proofs.YtiaopafkfadmkaaGreat.B
open Go.RowKit Go.Shelf Go.Sort
set_option maxHeartbeats 1000000 in
theorem sdel_same {w : World} {a : Option Addr} {n cap i : Nat} (ha : a = none → n = 0 ∧ cap = 0) (hn : n ≤ cap) (hm : cap ≤ maxLen) (hi : i ≤ n) :
  Calls Tryz.prog 164 #[.slice a n cap, .int .i64 i, .int .i64 i] w fun e w' => e = .returned (.slice a n cap) ∧ w' = w := by
 unfold maxLen at hm
 cases a with
 | none =>
  obtain ⟨rfl, rfl⟩ := ha rfl
  obtain rfl : i = 0 := by omega
  clear ha hn hm hi
  go_enter Tryz.func164, Tryz.ntmps164
  go_wp2
  go_ret
  exact ⟨rfl, rfl⟩
 | some ad =>
  have h1 : (i : Int) ≤ (n : Int) := by omega
  have h2 : (n : Int) ≤ (cap : Int) := by omega
  have h3 : i ≤ cap := by omega
  clear ha
  go_enter Tryz.func164, Tryz.ntmps164
  go_wp2
  all_goals
   go_ret
   exact ⟨rfl, rfl⟩
theorem sdel_any {w : World} {a : Option Addr} {n c i j : Nat} {l : List E} (h : OwR cE 126 w (.slice a n c) l) (hlen : l.length ≤ 1000) (hij : i ≤ j) (hj : j ≤ l.length) :
  Calls Tryz.prog 164 #[.slice a n c, .int .i64 i, .int .i64 j] w fun e w' => ∃ m, e = .returned (.slice a m c) ∧ OwR cE 126 w' (.slice a m c) (l.take i ++ l.drop j) ∧ Fr (fun k => (Value.slice a n c).ownBlock = some k) w w' := by
 by_cases e : i = j
 ·subst e
  have h0 := h
  rcases h.2 with ⟨e, hn⟩ | ⟨g, cap, cur, e, _, hg, h1, h2, _⟩
  ·simp at e
   obtain ⟨rfl, rfl, rfl⟩ := e
   refine (sdel_same (fun _ => ⟨rfl, rfl⟩) (Nat.le_refl _) (Nat.zero_le _) (by omega)).mono fun e w' ⟨he, hw⟩ => ⟨0, he, ?_, by rw [hw]; exact Fr.refl _ _⟩
   rw [hw, List.take_append_drop]
   exact h0
  ·simp at e
   obtain ⟨rfl, rfl, rfl⟩ := e
   refine (sdel_same (fun e => by cases e) h1 h2 hj).mono fun e w' ⟨he, hw⟩ => ⟨l.length, he, ?_, by rw [hw]; exact Fr.refl _ _⟩
   rw [hw, List.take_append_drop]
   exact h0
 ·have hl0 : l ≠ [] := by intro e; subst e; simp at hj; omega
  rcases h.2 with ⟨e, hn⟩ | ⟨g, cap, cur, e, _⟩
  ·exact absurd (List.length_eq_zero_iff.1 hn) hl0
  ·simp at e
   obtain ⟨rfl, rfl, rfl⟩ := e
   exact (sdel_some h hlen (by omega) hj).mono fun e w' ⟨he, ho, hf⟩ => ⟨_, he, ho, hf.wide (fun k e => by subst e; rfl)⟩
def XG (X : Nat → Prop) (v : Value) (k : Nat) : Prop := X k ∨ v.ownBlock = some k
def TakenP (X : Nat → Prop) (w : World) (fl : Int) (l : List E) (b : Nat) (v : Value) (i j : Nat) (e : Ending) (w' : World) : Prop :=
 ∃ a c v', e = .returned (.slice a (j - i) c) ∧ OwR cE 126 w' (.slice a (j - i) c) ((l.drop i).take (j - i)) ∧ (∀ k, (Value.slice a (j - i) c).ownBlock = some k → w.heap.size ≤ k) ∧ PQ (XG X (.slice a (j - i) c)) w' fl (l.take i ++ l.drop j) b v' ∧ Mw (D b v) (D b v') w w' ∧ ∀ x ∈ (l.drop i).take (j - i), Out (fun k => ¬ XG X (.slice a (j - i) c) k ∧ ¬ D b v' k) w' x
theorem taken_fin0 {X : Nat → Prop} {w w1 w2 : World} {fl : Int} {l : List E} {b i j m : Nat} {a ga : Option Addr} {n c gc : Nat} (h : PQ X w fl l b (.slice a n c)) (hij : i ≤ j) (hj : j ≤ l.length)
  (hg : OwR cE 126 w1 (.slice ga (j - i) gc) ((l.drop i).take (j - i))) (hn : ∀ k, (Value.slice ga (j - i) gc).ownBlock = some k → w.heap.size ≤ k) (hb : Below w.heap.size w w1)
  (ho : OwR cE 126 w2 (.slice a m c) (l.take i ++ l.drop j)) (hf : Fr (fun k => (Value.slice a n c).ownBlock = some k) w1 w2) :
  TakenP X w fl l b (.slice a n c) i j (.returned (.slice ga (j - i) gc)) (w2.setCell ⟨b, 0, none⟩ (.slice a m c)) := by
 have own : ∀ k, (Value.slice a m c).ownBlock = some k ↔ (Value.slice a n c).ownBlock = some k := fun k => by cases a <;> simp [Value.ownBlock]
 have h1 : PQ (XG X (.slice ga (j - i) gc)) w1 fl l b (.slice a n c) := h.keep (Fr.of_below (S := fun _ => False) hb) (fun _ e => e.elim) (fun k hk e => by
   rcases e with e | e
   ·exact e
   ·have := hn k e; omega) (fun k e => by
   rcases e with e | e
   ·exact Nat.lt_of_lt_of_le (h.xl k e) hb.size
   ·exact hg.lt e)
 have hm : Mw (fun k => (Value.slice a n c).ownBlock = some k) (fun k => (Value.slice a m c).ownBlock = some k) w1 w2 := ⟨hf, fun k _ e => (own k).1 e⟩
 have hmem : ∀ x ∈ l.take i ++ l.drop j, x ∈ l := fun x hx => by
  rcases List.mem_append.1 hx with g | g
  ·exact List.mem_of_mem_take g
  ·exact List.mem_of_mem_drop g
 obtain ⟨hp, hM⟩ := h1.put hm ho (fun x hx => (h1.outs x (hmem x hx)).move hm) (by have := h.cap; simp; omega)
 have hM2 : Mw (D b (.slice a n c)) (D b (.slice a m c)) w (w2.setCell ⟨b, 0, none⟩ (.slice a m c)) := (Mw.below hb).trans hM
 have f1 : Fr (fun k => k = b) w2 (w2.setCell ⟨b, 0, none⟩ (.slice a m c)) := (Fr.refl _ _).setCell _ _ (Or.inl rfl)
 have nd : ∀ k, (Value.slice ga (j - i) gc).ownBlock = some k → ¬ D b (.slice a m c) k := fun k e d => by
  have h2 := hn k e
  have := h.dlt (k := k) (by rcases d with d | d; exact Or.inl d; exact Or.inr ((own k).1 d))
  omega
 refine ⟨ga, gc, _, rfl, ?_, hn, hp, hM2, fun x hx => ?_⟩
 ·exact (hg.keep hf (fun g e s => nd g e (Or.inr ((own g).2 s)))).keep f1 (fun g e s => nd g e (Or.inl s))
 ·exact ((h1.outs x (List.mem_of_mem_drop (List.mem_of_mem_take hx))).move hm).keep f1 (fun k _ g => ⟨fun e => g.2 (Or.inl e), g⟩)
theorem taken_fin {X : Nat → Prop} {w w1 w2 : World} {fl : Int} {l : List E} {b i j m d : Nat} {a ga : Option Addr} {n c gc : Nat} (h : PQ X w fl l b (.slice a n c)) (hd : j - i = d) (hij : i ≤ j) (hj : j ≤ l.length)
  (hg : OwR cE 126 w1 (.slice ga d gc) ((l.drop i).take d)) (hn : ∀ k, (Value.slice ga d gc).ownBlock = some k → w.heap.size ≤ k) (hb : Below w.heap.size w w1)
  (ho : OwR cE 126 w2 (.slice a m c) (l.take i ++ l.drop j)) (hf : Fr (fun k => (Value.slice a n c).ownBlock = some k) w1 w2) :
  TakenP X w fl l b (.slice a n c) i j (.returned (.slice ga d gc)) (w2.setCell ⟨b, 0, none⟩ (.slice a m c)) := by
 subst hd
 exact taken_fin0 h hij hj hg hn hb ho hf
set_option maxHeartbeats 2000000 in
theorem taken_any {X : Nat → Prop} {w : World} {fl : Int} {l : List E} {b : Nat} {v : Value} (h : PQ X w fl l b v) {i j : Nat} (hij : i ≤ j) (hj : j ≤ l.length) :
  Calls Tryz.prog 120 #[.pointer (some ⟨b, 0, none⟩), .int .i64 i, .int .i64 j] w (TakenP X w fl l b v i j) := by
 have c0 := h.c0
 have hb := h.lt
 have hrow := h.row
 have hcap := h.cap
 have hgl : ((l.drop i).take (j - i)).length = j - i := by simp; omega
 obtain ⟨a, c, rfl, hrd⟩ := hrow.rd (N := fun _ => True) (fun _ _ => trivial)
 obtain ⟨d, hd⟩ : ∃ d, j - i = d := ⟨_, rfl⟩
 rw [hd] at hgl
 obtain ⟨G, hG⟩ : ∃ G, (l.drop i).take d = G := ⟨_, rfl⟩
 obtain ⟨R, hR⟩ : ∃ R, l.take i ++ l.drop j = R := ⟨_, rfl⟩
 obtain ⟨n, hn⟩ : ∃ n, l.length = n := ⟨_, rfl⟩
 have CL : ∀ A cc m, m = d → RdN cE (fun _ => True) w A G → Calls Tryz.prog 163 #[.slice A m cc] w fun e w' => ∃ a' c', e = .returned (.slice a' d c') ∧ OwR cE 126 w' (.slice a' d c') G ∧ (∀ k, (Value.slice a' d c').ownBlock = some k → w.heap.size ≤ k) ∧ Below w.heap.size w w' := fun A cc m hm hA => by
  subst hm
  have hA2 := hA
  rw [← hG] at hA2 ⊢
  have := cloneE_any w A cc _ hA2 (by omega)
  rwa [hgl] at this
 have HDL : Hid (∀ w1, Below w.heap.size w w1 → Calls Tryz.prog 164 #[.slice a n c, .int .i64 i, .int .i64 j] w1 fun e w' => ∃ m, e = .returned (.slice a m c) ∧ OwR cE 126 w' (.slice a m c) R ∧ Fr (fun k => (Value.slice a n c).ownBlock = some k) w1 w') := fun w1 hb1 => by
  rw [← hR, ← hn]
  exact sdel_any (hrow.below hb1) (by omega) hij hj
 have HFIN : Hid (∀ {w1 w2 : World} {ga : Option Addr} {gc m : Nat}, OwR cE 126 w1 (.slice ga d gc) G → (∀ k, (Value.slice ga d gc).ownBlock = some k → w.heap.size ≤ k) → Below w.heap.size w w1 → OwR cE 126 w2 (.slice a m c) R → Fr (fun k => (Value.slice a n c).ownBlock = some k) w1 w2 → TakenP X w fl l b (.slice a n c) i j (.returned (.slice ga d gc)) (w2.setCell ⟨b, 0, none⟩ (.slice a m c))) := by
  intro w1 w2 ga gc m h1 h2 h3 h4 h5
  rw [← hG] at h1
  rw [← hR] at h4
  rw [← hn] at h5 ⊢
  exact taken_fin h hd hij hj h1 h2 h3 h4 h5
 have hi2 : (i : Int) ≤ (j : Int) := by omega
 have hj2 : (j : Int) ≤ (n : Int) := by omega
 have HP : Hid (PQ X w fl l b (.slice a n c)) := by rw [← hn]; exact h
 rw [hn] at c0 ⊢
 rcases hrow.2 with ⟨e, hn0⟩ | ⟨g, cap, cur, e, _, hg, h1, h2, _⟩
 ·simp at e
  obtain ⟨rfl, e0, rfl⟩ := e
  obtain rfl : n = 0 := by rw [← hn]; exact hn0
  obtain rfl : j = 0 := by omega
  obtain rfl : i = 0 := by omega
  have C0 := CL none 0 0 (by omega) (by rw [← hG, ← hd]; exact RdN.nil _ _ _ _)
  clear CL hrow hrd hgl h hi2 hj2 hij hj hcap hd hG hR hn hn0 e0
  go_enter Tryz.func120, Tryz.ntmps120
  go_wp2_with (first | (go_at_call 163; refine C0.mono ?_; rintro e w1 ⟨ga, gc, rfl, hg, hn, hb1⟩; have d0 := (hb1.cell (p := ⟨b, 0, none⟩) hb).trans c0; have d1 := (HP.out.below hb1).froz 0; have HG : Hid (OwR cE 126 w1 (.slice ga d gc) G) := hg; have HN : Hid (∀ k, (Value.slice ga d gc).ownBlock = some k → w.heap.size ≤ k) := hn; have HB : Hid (Below w.heap.size w w1) := hb1; clear hg hn hb1 C0) | (go_at_call 164; refine (HDL.out _ (Hid.out HB)).mono ?_; rintro e w2 ⟨m, rfl, ho, hf⟩; have d0 := ((hf.cell (p := ⟨b, 0, none⟩) (Nat.lt_of_lt_of_le hb (Hid.out HB).size) HP.out.nb).trans d0); have d1 := ((hf.frozen (p := ⟨b, 0, none⟩) (Nat.lt_of_lt_of_le hb (Hid.out HB).size) HP.out.nb).trans d1); have HO : Hid (OwR cE 126 w2 (.slice none m 0) R) := ho; have HF : Hid (Fr (fun k => (Value.slice none 0 0).ownBlock = some k) w1 w2) := hf; clear ho hf))
  go_ret
  exact HFIN.out HG.out HN.out HB.out HO.out HF.out
 ·simp at e
  obtain ⟨rfl, rfl⟩ := e
  unfold maxLen at h2
  rw [hn] at h1 hj hcap
  have hcc : (n : Int) ≤ (c : Int) := by omega
  have hic : i ≤ c := by omega
  have hjc : j ≤ c := by omega
  have hcap' : c ≤ 9223372036854775807 := by omega
  by_cases hci : c = i
  ·obtain rfl : j = i := by omega
   obtain rfl : n = j := by omega
   obtain rfl : c = n := by omega
   have C0 := CL (some ⟨g, 0, none⟩) 0 0 (by omega) (by rw [← hG, ← hd, Nat.sub_self]; exact RdN.nil _ _ _ _)
   clear CL hrow hrd hgl h hd hG hR hn hg h1 hci hi2 hj2 hij hj hcc hic hjc h2
   go_enter Tryz.func120, Tryz.ntmps120
   go_wp2_with (first | (go_at_call 163; refine C0.mono ?_; rintro e w1 ⟨ga, gc, rfl, hg, hn, hb1⟩; have d0 := (hb1.cell (p := ⟨b, 0, none⟩) hb).trans c0; have d1 := (HP.out.below hb1).froz 0; have HG : Hid (OwR cE 126 w1 (.slice ga d gc) G) := hg; have HN : Hid (∀ k, (Value.slice ga d gc).ownBlock = some k → w.heap.size ≤ k) := hn; have HB : Hid (Below w.heap.size w w1) := hb1; clear hg hn hb1 C0) | (go_at_call 164; refine (HDL.out _ (Hid.out HB)).mono ?_; rintro e w2 ⟨m, rfl, ho, hf⟩; have d0 := ((hf.cell (p := ⟨b, 0, none⟩) (Nat.lt_of_lt_of_le hb (Hid.out HB).size) HP.out.nb).trans d0); have d1 := ((hf.frozen (p := ⟨b, 0, none⟩) (Nat.lt_of_lt_of_le hb (Hid.out HB).size) HP.out.nb).trans d1); have HO : Hid (OwR cE 126 w2 (.slice (some ⟨g, 0, none⟩) m c) R) := ho; have HF : Hid (Fr (fun k => (Value.slice (some ⟨g, 0, none⟩) c c).ownBlock = some k) w1 w2) := hf; clear ho hf))
   go_ret
   exact HFIN.out HG.out HN.out HB.out HO.out HF.out
  ·have C0 := CL (some ⟨g, i * 10, none⟩) (c - i) (j - i) hd (by have := hrd.part i d; rw [hG] at this; simpa [cE] using this)
   clear CL hrow hrd hgl h hd hG hR hn hg h1 h2
   go_enter Tryz.func120, Tryz.ntmps120
   go_wp2_with (first | (go_at_call 163; refine C0.mono ?_; rintro e w1 ⟨ga, gc, rfl, hg, hn, hb1⟩; have d0 := (hb1.cell (p := ⟨b, 0, none⟩) hb).trans c0; have d1 := (HP.out.below hb1).froz 0; have HG : Hid (OwR cE 126 w1 (.slice ga d gc) G) := hg; have HN : Hid (∀ k, (Value.slice ga d gc).ownBlock = some k → w.heap.size ≤ k) := hn; have HB : Hid (Below w.heap.size w w1) := hb1; clear hg hn hb1 C0) | (go_at_call 164; refine (HDL.out _ (Hid.out HB)).mono ?_; rintro e w2 ⟨m, rfl, ho, hf⟩; have d0 := ((hf.cell (p := ⟨b, 0, none⟩) (Nat.lt_of_lt_of_le hb (Hid.out HB).size) HP.out.nb).trans d0); have d1 := ((hf.frozen (p := ⟨b, 0, none⟩) (Nat.lt_of_lt_of_le hb (Hid.out HB).size) HP.out.nb).trans d1); have HO : Hid (OwR cE 126 w2 (.slice (some ⟨g, 0, none⟩) m c) R) := ho; have HF : Hid (Fr (fun k => (Value.slice (some ⟨g, 0, none⟩) n c).ownBlock = some k) w1 w2) := hf; clear ho hf))
   go_ret
   exact HFIN.out HG.out HN.out HB.out HO.out HF.out
end Go.Proofs.YtiaopafkfadmkaaGreat.A
namespace Go.Proofs
open Go.Shelf
def Tryz.revE_ren : Go.Shelf.Ren := ⟨fun | 35 => 224 | n => n, fun | 22 => 135 | 23 => 126 | n => n, fun | n => n⟩
theorem Tryz.revE : Go.Proofs.SlLaysE0.n35 Tryz.prog Tryz.revE_ren := {
 mixed := by kernel_rfl
 f35 := ⟨Tryz.f224.name, by decide, Tryz.func224.trans (congrArg some (by kernel_rfl))⟩
 t0 := Tryz.underlying0
 a0 := Tryz.isAgg0
 z0 := Tryz.sizeOf0
 v0 := Tryz.zeroValue0
 t3 := Tryz.underlying3
 a3 := Tryz.isAgg3
 z3 := Tryz.sizeOf3
 v3 := Tryz.zeroValue3
 t4 := Tryz.underlying4
 a4 := Tryz.isAgg4
 z4 := Tryz.sizeOf4
 v4 := Tryz.zeroValue4
 t22 := Tryz.underlying135
 a22 := Tryz.isAgg135
 z22 := Tryz.sizeOf135
 v22 := Tryz.zeroValue135 }
end Go.Proofs
namespace Go.Proofs.YtiaopafkfadmkaaGreat.A
open Go.Proofs.YtiaopafkfadmkaaGreat.B
open Go.RowKit Go.Shelf Go.Sort
abbrev inhE : Inhabited E := ⟨e0⟩
theorem _root_.Go.Proofs.YtiaopafkfadmkaaGreat.B.OwR.holdsE {e : TypeId} {w : World} {g cap : Nat} {l : List E} (h : OwR cE e w (.slice (some ⟨g, 0, none⟩) l.length cap) l) : @HoldsK E inhE encE 10 w g 0 l.toArray := by
 letI : Inhabited E := inhE
 intro j hj
 rw [size_flatK] at hj
 simp only [List.size_toArray] at hj
 have hq : j / 10 < l.length := Nat.div_lt_of_lt_mul (by omega)
 have hr : j % 10 < 10 := Nat.mod_lt _ (by omega)
 refine ⟨?_, World.ownsRow.frozenAt h (0 + j)⟩
 rw [get_flatK _ _ _ _ (by simpa using hj), Nat.zero_add]
 have e1 := World.ownsRow.cellAt h j hj
 have e2 := flat_get cE l (j / 10) (j % 10) hq hr
 have e3 : j / 10 * 10 + j % 10 = j := by omega
 have e4 : (flat cE l)[j / 10 * 10 + j % 10]? = (encE (nth cE l (j / 10)))[j % 10]? := e2
 rw [e3] at e4
 rw [e1, e4]
 simp only [id]
 rw [List.getElem?_eq_getElem (show j % 10 < (encE (nth cE l (j / 10))).length from hr)]
 congr 1
 rw [getElem!_pos l.toArray (j / 10) (by simpa using hq)]
 simp only [List.getElem_toArray]
 rw [getElem!_pos (encE l[j / 10]) (j % 10) hr]
 have e5 := nth_get (C := cE) hq
 congr 1
 rw [e5]
theorem size_putCells (off : Nat) (F c : Array Value) : (putCells id off F c).size = c.size := by simp [putCells]
theorem fr_mapBlock (w : World) (n g : Nat) (f : Array Value → Array Value) : Fr (fun k => k = g) w (mapBlock (Sort.ahead w n) g f) :=
 ⟨rfl, rfl, rfl, by simp [mapBlock], fun k hk hn => by simp [mapBlock, Array.getElem?_modify, Ne.symm hn]⟩
theorem mapBlock_shape (w : World) (g : Nat) (f : Array Value → Array Value) (hf : ∀ c, (f c).size = c.size) (cur : Array Value) (e : TypeId) (fr : Nat × Nat) (h : w.heap[g]? = some (.cells cur e fr)) : ∃ cur', (mapBlock w g f).heap[g]? = some (.cells cur' e fr) ∧ cur'.size = cur.size := by
 refine ⟨f cur, ?_, hf cur⟩
 simp [mapBlock, Array.getElem?_modify, h, onCells]
theorem own_of_holds {e : TypeId} {w w' : World} {g cap : Nat} {l l' : List E} (h : OwR cE e w (.slice (some ⟨g, 0, none⟩) l.length cap) l) (hl : l'.length = l.length) (hs : ∀ cur, w.heap[g]? = some (.cells cur e (0, 0)) → ∃ cur', w'.heap[g]? = some (.cells cur' e (0, 0)) ∧ cur'.size = cur.size)
  (hH : @HoldsK E inhE encE 10 w' g 0 l'.toArray) : OwR cE e w' (.slice (some ⟨g, 0, none⟩) l'.length cap) l' := by
 letI : Inhabited E := inhE
 obtain ⟨_, cur, hg, h1, h2, h3, h4⟩ := h.block
 obtain ⟨cur', hg', hsz⟩ := hs cur hg
 have h3' : cur.size = cap * 10 := h3
 refine own_of_block hg' (by omega) h2 (by rw [hsz]; exact h3) ?_
 show cur'.toList.take (l'.length * 10) = _
 apply List.ext_getElem?
 intro j
 by_cases hj : j < l'.length * 10
 ·have hq : j / 10 < l'.length := Nat.div_lt_of_lt_mul (by omega)
  have hr : j % 10 < 10 := Nat.mod_lt _ (by omega)
  rw [List.getElem?_take_of_lt hj]
  have h1 := (hH j (by rw [size_flatK]; simpa using hj)).1
  rw [get_flatK _ _ _ _ (by simpa using hj), Nat.zero_add] at h1
  simp only [World.cell?, hg', id] at h1
  have h2 : cur'.toList[j]? = cur'[j]? := by simp
  rw [h2]
  have h3 : cur'[j]? = some ((encE (l'.toArray[j / 10]!))[j % 10]!) := by simpa using h1
  rw [h3]
  have e2 := flat_get cE l' (j / 10) (j % 10) hq hr
  have e3 : j / 10 * 10 + j % 10 = j := by omega
  have e4 : (flat cE l')[j / 10 * 10 + j % 10]? = (encE (nth cE l' (j / 10)))[j % 10]? := e2
  rw [e3] at e4
  rw [e4, List.getElem?_eq_getElem (show j % 10 < (encE (nth cE l' (j / 10))).length from hr)]
  congr 1
  rw [getElem!_pos l'.toArray (j / 10) (by simpa using hq)]
  simp only [List.getElem_toArray]
  rw [getElem!_pos (encE l'[j / 10]) (j % 10) hr]
  have e5 := nth_get (C := cE) hq
  congr 1
  rw [e5]
 ·rw [List.getElem?_eq_none (by rw [List.length_take]; omega), List.getElem?_eq_none (by rw [flat_len]; show l'.length * 10 ≤ j; omega)]
theorem rev_any {w : World} {a : Option Addr} {n c : Nat} {l : List E} (h : OwR cE 126 w (.slice a n c) l) (hl : l.length ≤ 64) :
  Calls Tryz.prog 224 #[.slice a n c] w fun e w' => e = .returned (.tuple #[]) ∧ OwR cE 126 w' (.slice a n c) l.reverse ∧ Fr (fun k => (Value.slice a n c).ownBlock = some k) w w' := by
 letI : Inhabited E := inhE
 rcases h.2 with ⟨e, hn⟩ | ⟨g, cap, cur, e, _, hg, _⟩
 ·simp at e
  obtain ⟨rfl, rfl, rfl⟩ := e
  obtain rfl : l = [] := List.length_eq_zero_iff.1 hn
  exact (AnyQ.slices_Reverse_empty Tryz.revE none 0 w).mono fun e w' ⟨he, hw⟩ => ⟨he, by rw [hw]; exact h, by rw [hw]; exact Fr.refl _ _⟩
 ·simp at e
  obtain ⟨rfl, rfl, rfl⟩ := e
  have H := AnyQ.slices_Reverse Tryz.revE 10 Tryz.isAgg126 Tryz.sizeOf126 encE (fun _ => rfl) encE_one g 0 c l.toArray w h.holdsE (by simp; omega)
  simp only [List.size_toArray] at H
  refine H.mono fun e w' ⟨he, m, hw⟩ => ⟨he, ?_, ?_⟩
  ·have e1 : l.toArray.reverse = l.reverse.toArray := by simp
   rw [e1] at hw
   have := own_of_holds (w' := w') (l' := l.reverse) h (by simp) (fun cur hc => by rw [hw]; exact mapBlock_shape (Sort.ahead w m) g _ (fun c => size_putCells 0 _ c) cur _ (0, 0) hc) (by rw [hw]; exact holdsK_putRowK encE 10 (Sort.ahead w m) g 0 l.toArray l.reverse.toArray (holdsK_ahead encE 10 w m g 0 _ h.holdsE) (by simp))
   rwa [List.length_reverse] at this
  ·rw [hw]
   exact (fr_mapBlock w m g _).wide (fun i e => by subst e; rfl)
end Go.Proofs.YtiaopafkfadmkaaGreat.A
