/- Proved: the document's past: how it lies in memory; rows that a call makes; contracts of New and of Last. -/
import Derived.Test.YtgifanioeeacdaaCut
import Derived.Test.YtgifanioeeacdaaCop
import Derived.Test.YtgifanioeeacdaaPa5
namespace Go.Proofs.Ytgifanioeeacdaa
open Go.RowKit Go.Shelf Go.Sort
set_option linter.unusedVariables false

def tyD : Ty cE 44 40 := ⟨.agg #[.int .i64 0, .int .i64 0, .int .i64 0, .int .i64 0, .int .i64 0, .int .i64 0, .int .i64 0, .int .i64 0, .int .i64 0, .slice none 0 0], 96, Try.underlying44, by kernel_rfl, rfl, by decide⟩
/-- The document's past at block b; Y: blocks that are others'. -/
structure RQ (Y : Nat → Prop) (W : World) (fl : Int) (l : List E) (b : Nat) (ra : Option Addr) (rc : Nat) : Prop where
  blk : W.heap[b]? = some (.cells #[.int .i64 fl, .slice ra l.length rc] 57 (0, 0))
  yb : ¬ Y b
  row : RdN cE (fun k => k ≠ b ∧ ¬ Y k) W ra l
  outs : ∀ x ∈ l, Out (fun k => k ≠ b ∧ ¬ Y k) W x
  yl : ∀ k, Y k → k < W.heap.size
  cap : l.length ≤ 64
theorem RQ.lt {Y : Nat → Prop} {W : World} {fl : Int} {l : List E} {b : Nat} {ra : Option Addr} {rc : Nat} (h : RQ Y W fl l b ra rc) : b < W.heap.size := (Array.getElem?_eq_some_iff.1 h.blk).1
theorem RQ.c0 {Y : Nat → Prop} {W : World} {fl : Int} {l : List E} {b : Nat} {ra : Option Addr} {rc : Nat} (h : RQ Y W fl l b ra rc) : W.cell? ⟨b, 0, none⟩ = some (.int .i64 fl) := cellB h.blk 0
theorem RQ.c1 {Y : Nat → Prop} {W : World} {fl : Int} {l : List E} {b : Nat} {ra : Option Addr} {rc : Nat} (h : RQ Y W fl l b ra rc) : W.cell? ⟨b, 1, none⟩ = some (.slice ra l.length rc) := cellB h.blk 1
theorem RQ.keep {Y Y' S : Nat → Prop} {W W' : World} {fl : Int} {l : List E} {b : Nat} {ra : Option Addr} {rc : Nat} (h : RQ Y W fl l b ra rc) (hf : Fr S W W') (hS : ∀ k, S k → Y k) (hY : ∀ k, k < W.heap.size → Y' k → Y k) (hl : ∀ k, Y' k → k < W'.heap.size) : RQ Y' W' fl l b ra rc :=
  ⟨(hf.block b h.lt (fun e => h.yb (hS _ e))).trans h.blk, fun e => h.yb (hY _ h.lt e), h.row.keep hf (fun k hk g => ⟨fun s => g.2 (hS k s), g.1, fun e => g.2 (hY k hk e)⟩), fun x hx => (h.outs x hx).keep hf (fun k hk g => ⟨fun s => g.2 (hS k s), g.1, fun e => g.2 (hY k hk e)⟩), hl, h.cap⟩
theorem RQ.below {Y : Nat → Prop} {W W' : World} {fl : Int} {l : List E} {b : Nat} {ra : Option Addr} {rc : Nat} (h : RQ Y W fl l b ra rc) (hb : Below W.heap.size W W') : RQ Y W' fl l b ra rc :=
  h.keep (Fr.of_below (S := fun _ => False) hb) (fun _ e => e.elim) (fun _ _ e => e) (fun k e => Nat.lt_of_lt_of_le (h.yl k e) hb.size)
def RP (Y : Nat → Prop) (W : World) (fl : Int) (L : List P) (b : Nat) : Prop := ∃ l ra rc, l.map E.p = L ∧ RQ Y W fl l b ra rc ∧ SrtP L
theorem RP.keep {Y Y' S : Nat → Prop} {W W' : World} {fl : Int} {L : List P} {b : Nat} (h : RP Y W fl L b) (hf : Fr S W W') (hS : ∀ k, S k → Y k) (hY : ∀ k, k < W.heap.size → Y' k → Y k) (hl : ∀ k, Y' k → k < W'.heap.size) : RP Y' W' fl L b := by
  obtain ⟨l, ra, rc, e, hq, hs⟩ := h
  exact ⟨l, ra, rc, e, hq.keep hf hS hY hl, hs⟩
theorem RP.below {Y : Nat → Prop} {W W' : World} {fl : Int} {L : List P} {b : Nat} (h : RP Y W fl L b) (hb : Below W.heap.size W W') : RP Y W' fl L b := by
  obtain ⟨l, ra, rc, e, hq, hs⟩ := h
  exact ⟨l, ra, rc, e, hq.below hb, hs⟩
/-- A row that was made since w. -/
structure RwS {α : Type} (C : Cd α) (t : TypeId) (w W : World) (v : Value) (l : List α) : Prop where
  own : OwR C t W v l
  new : ∀ k, v.ownBlock = some k → w.heap.size ≤ k
  bel : Below w.heap.size w W
theorem RwS.on {α : Type} {C : Cd α} {t : TypeId} {w W W2 : World} {v : Value} {l : List α} (h : RwS C t w W v l) (hb : Below W.heap.size W W2) : RwS C t w W2 v l := ⟨h.own.below hb, h.new, Below.on h.bel hb⟩
theorem RwS.app {α : Type} {C : Cd α} {t : TypeId} {w W w' : World} {v v' : Value} {l X : List α} (h : RwS C t w W v l) (ho : OwR C t w' v' X) (hm : Mw (fun k => v.ownBlock = some k) (fun k => v'.ownBlock = some k) W w') : RwS C t w w' v' X :=
  ⟨ho, fun k e => by
    rcases Nat.lt_or_ge k W.heap.size with g | g
    · exact h.new k (hm.new k g e)
    · have := h.bel.size; omega, h.bel.trans (hm.fr.below h.bel.size h.new)⟩
theorem RwS.keep {α : Type} {C : Cd α} {t : TypeId} {w W w' : World} {v u u' : Value} {l : List α} (h : RwS C t w W v l) (hu : ∀ k, v.ownBlock = some k → u.ownBlock ≠ some k) (hn : ∀ k, u.ownBlock = some k → w.heap.size ≤ k) (hm : Mw (fun k => u.ownBlock = some k) (fun k => u'.ownBlock = some k) W w') : RwS C t w w' v l ∧ ∀ k, v.ownBlock = some k → u'.ownBlock ≠ some k :=
  ⟨⟨h.own.keep hm.fr (fun g e s => hu g e s), h.new, h.bel.trans (hm.fr.below h.bel.size hn)⟩, fun k e s => hu k e (hm.new k (h.own.lt e) s)⟩
theorem RwS.made {α : Type} (C : Cd α) (t : TypeId) {w W : World} (hb : Below w.heap.size w W) : RwS C t w (W.alloc (.cells #[] t)) (.slice (some ⟨W.heap.size, 0, none⟩) 0 0) [] :=
  ⟨OwR.made C t W, fun k e => by have := hb.size; simp [Value.ownBlock] at e; omega, Below.on hb (al _ _)⟩
/-- What is stored as the entries of the document's past. -/
theorem RQ.put {Y : Nat → Prop} {w W : World} {fl : Int} {l l' : List E} {b : Nat} {ra a' : Option Addr} {rc c' : Nat} (h : RQ Y w fl l b ra rc) (hr : RwS cE 40 w W (.slice a' l'.length c') l') (ho : ∀ x ∈ l', Out (fun k => k ≠ b ∧ ¬ Y k) w x) (hl : l'.length ≤ 64) :
    RQ Y (W.setCell ⟨b, 1, none⟩ (.slice a' l'.length c')) fl l' b a' c' ∧ Fr (fun k => k = b) w (W.setCell ⟨b, 1, none⟩ (.slice a' l'.length c')) := by
  have hb := (hr.bel.block b h.lt).trans h.blk
  have f1 : Fr (fun k => k = b) W (W.setCell ⟨b, 1, none⟩ (.slice a' l'.length c')) := (Fr.refl _ _).setCell _ _ (Or.inl rfl)
  have f2 : Fr (fun k => k = b) w (W.setCell ⟨b, 1, none⟩ (.slice a' l'.length c')) := (Fr.of_below hr.bel).then f1
  have hN : ∀ k, (Value.slice a' l'.length c').ownBlock = some k → k ≠ b ∧ ¬ Y k := fun k e => by
    have h1 := hr.new k e
    have h2 := h.lt
    exact ⟨by omega, fun y => by have := h.yl k y; omega⟩
  refine ⟨⟨?_, h.yb, ?_, fun x hx => (ho x hx).keep f2 (fun k _ g => ⟨g.1, g⟩), fun k e => Nat.lt_of_lt_of_le (h.yl k e) f2.size, hl⟩, f2⟩
  · rw [heap_setCell_same W b 1 _ _ _ hb]
    rfl
  · exact (hr.own.look.2.wide (fun k _ e => hN k e)).keep f1 (fun k _ g => ⟨g.1, g⟩)
theorem RQ.floor {Y : Nat → Prop} {W : World} {fl : Int} {l : List E} {b : Nat} {ra : Option Addr} {rc : Nat} (h : RQ Y W fl l b ra rc) (t : Int) : RQ Y (W.setCell ⟨b, 0, none⟩ (.int .i64 t)) t l b ra rc ∧ Fr (fun k => k = b) W (W.setCell ⟨b, 0, none⟩ (.int .i64 t)) := by
  have f1 : Fr (fun k => k = b) W (W.setCell ⟨b, 0, none⟩ (.int .i64 t)) := (Fr.refl _ _).setCell _ _ (Or.inl rfl)
  refine ⟨⟨?_, h.yb, h.row.keep f1 (fun k _ g => ⟨g.1, g⟩), fun x hx => (h.outs x hx).keep f1 (fun k _ g => ⟨g.1, g⟩), fun k e => Nat.lt_of_lt_of_le (h.yl k e) f1.size, h.cap⟩, f1⟩
  rw [heap_setCell_same W b 0 _ _ _ h.blk]
  rfl
theorem rnew_any {Y : Nat → Prop} (w : World) (hY : ∀ k, Y k → k < w.heap.size) :
    Calls Try.prog 10 #[] w fun e w' => e = .returned (.pointer (some ⟨w.heap.size, 0, none⟩)) ∧ RP Y w' 0 [] w.heap.size ∧ Below w.heap.size w w' := by
  have HY : Aside _ := hY
  clear hY
  go_enter Try.func10, Try.ntmps10
  go_wp2
  go_ret
  have hB : Below w.heap.size w (w.alloc (.cells #[.int .i64 0, .slice none 0 0] 57)) := al _ _
  exact ⟨rfl, ⟨[], none, 0, rfl, ⟨newB _ _, fun e => by have := HY.out _ e; omega, RdN.nil _ _ _ _, fun x hx => (by cases hx), fun k e => Nat.lt_of_lt_of_le (HY.out k e) hB.size, by simp⟩, List.Pairwise.nil⟩, hB⟩
set_option maxRecDepth 100000 in
set_option maxHeartbeats 2000000 in
theorem rlast_none {Y : Nat → Prop} {w : World} {fl : Int} {b : Nat} (h : RP Y w fl [] b) :
    Calls Try.prog 19 #[.pointer (some ⟨b, 0, none⟩)] w fun e w' => e = .returned (.tuple #[ev e0, .bool false]) ∧ Below w.heap.size w w' := by
  obtain ⟨l, ra, rc, hl, hq, hs⟩ := h
  obtain rfl : l = [] := by simpa using hl
  have c1 := hq.c1
  have hb := hq.lt
  have B1 : (w.alloc (.cells #[.int .i64 0, .int .i64 0, .int .i64 0, .int .i64 0, .int .i64 0, .int .i64 0, .int .i64 0, .int .i64 0, .int .i64 0, .slice none 0 0] 40)).heap[w.heap.size]? = some (.cells #[.int .i64 0, .int .i64 0, .int .i64 0, .int .i64 0, .int .i64 0, .int .i64 0, .int .i64 0, .int .i64 0, .int .i64 0, .slice none 0 0] 40 (0, 0)) := newB _ _
  have HB1 : Hid _ := B1
  clear hq hs hl B1
  go_enter Try.func19, Try.ntmps19
  go_wp2
  refine bodyPost_ret (v := .tuple #[ev e0, .bool false]) (by rw [results_cell_tmp rfl]; simp [asAddr, Result.andThen]; rw [run_loadVar_row _ w.heap.size _ _ _ _ _ HB1.out Try.underlying40 rfl (by kernel_rfl)]; rfl) rfl ⟨rfl, al _ _⟩
set_option maxRecDepth 100000 in
set_option maxHeartbeats 4000000 in
theorem rlast_some {Y : Nat → Prop} {w : World} {fl : Int} {L : List P} {b : Nat} (h : RP Y w fl L b) (hL : L ≠ []) :
    Calls Try.prog 19 #[.pointer (some ⟨b, 0, none⟩)] w fun e w' => ∃ x : E, e = .returned (.tuple #[ev x, .bool true]) ∧ x.p = lastP L ∧ Out (fun k => k ≠ b ∧ ¬ Y k) w' x ∧ Below w.heap.size w w' := by
  have mixed : Try.prog.follows .mixedOrders = true := by kernel_rfl
  obtain ⟨l, ra, rc, hl, hq, hs⟩ := h
  obtain ⟨n, hn⟩ : ∃ n, l.length = n := ⟨_, rfl⟩
  have hLl : L.length = n := by rw [← hl, ← hn]; simp
  have hn0 : 0 < n := by rw [← hLl]; exact List.length_pos_iff.2 hL
  obtain ⟨j, hj⟩ : ∃ j, n = j + 1 := ⟨n - 1, by omega⟩
  obtain ⟨x', hx'⟩ : ∃ x', nth cE l j = x' := ⟨_, rfl⟩
  have hlast : x'.p = lastP L := by
    unfold lastP
    rw [← hl, nthP_map, List.length_map, hn, hj, ← hx']
    rfl
  have hout := hq.outs x' (by rw [← hx']; exact nth_mem (by omega))
  have c1 := hq.c1
  rw [hn] at c1
  obtain ⟨g, go, rfl, hgl, hgb, u0, u1, u2, u3, u4, u5, u6, u7, u8, u9⟩ := hq.row.entry (i := j) (by omega) hx'
  have b0 := hq.lt
  have hcap : n ≤ 64 := by rw [← hn]; exact hq.cap
  obtain ⟨⟨⟨⟨y1, y2, y3⟩, y4, y5, y6⟩, y7, y8, y9, yos⟩, yoa, yoc⟩ := x'
  obtain ⟨m, hm⟩ : ∃ m, yos.length = m := ⟨_, rfl⟩
  dsimp only at u0 u1 u2 u3 u4 u5 u6 u7 u8 u9
  rw [hm] at u9
  have e1 : (n : Int) - 1 = (j : Int) := by omega
  have e2 : IntKind.i64.wrap ((n : Int) - 1) = (j : Int) := by rw [e1]; exact wrapN j (by omega)
  have e3 : IntKind.i64.wrap (j : Int) = (j : Int) := wrapN j (by omega)
  have e4 : (0 : Int) ≤ (j : Int) := by omega
  have e5 : (j : Int) < (n : Int) := by omega
  have e6 : ((n : Int) == 0) = false := by simp; omega
  have e7 : ¬ n = 0 := by omega
  have hbel : Below w.heap.size w (w.alloc (.cells #[.int .i64 y1, .int .i64 y2, .int .i64 y3, .int .i64 y4, .int .i64 y5, .int .i64 y6, .int .i64 y7, .int .i64 y8, .int .i64 y9, .slice yoa m yoc] 40)).drew := (al _ _).drew
  have HOUT : Hid (Out (fun k => k ≠ b ∧ ¬ Y k) (w.alloc (.cells #[.int .i64 y1, .int .i64 y2, .int .i64 y3, .int .i64 y4, .int .i64 y5, .int .i64 y6, .int .i64 y7, .int .i64 y8, .int .i64 y9, .slice yoa m yoc] 40)).drew ⟨⟨((y1, y2, y3), y4, y5, y6), y7, y8, y9, yos⟩, yoa, yoc⟩) := hout.below hbel
  have HBEL : Hid (Below w.heap.size w (w.alloc (.cells #[.int .i64 y1, .int .i64 y2, .int .i64 y3, .int .i64 y4, .int .i64 y5, .int .i64 y6, .int .i64 y7, .int .i64 y8, .int .i64 y9, .slice yoa m yoc] 40)).drew) := hbel
  have HBL : Hid ((w.alloc (.cells #[.int .i64 y1, .int .i64 y2, .int .i64 y3, .int .i64 y4, .int .i64 y5, .int .i64 y6, .int .i64 y7, .int .i64 y8, .int .i64 y9, .slice yoa m yoc] 40)).drew.heap[w.heap.size]? = some (.cells #[.int .i64 y1, .int .i64 y2, .int .i64 y3, .int .i64 y4, .int .i64 y5, .int .i64 y6, .int .i64 y7, .int .i64 y8, .int .i64 y9, .slice yoa m yoc] 40 (0, 0))) := newB w _
  have HM : Hid (yos.length = m) := hm
  have HLAST : Hid ((⟨((y1, y2, y3), y4, y5, y6), y7, y8, y9, yos⟩ : P) = lastP L) := hlast
  clear hq hs hl hm hlast hx' hj hn0 hLl hn hL hout hbel
  go_enter Try.func19, Try.ntmps19
  go_wp2_with fail
  go_region
  go_wp2
  refine bodyPost_ret (v := .tuple #[.agg #[.int .i64 y1, .int .i64 y2, .int .i64 y3, .int .i64 y4, .int .i64 y5, .int .i64 y6, .int .i64 y7, .int .i64 y8, .int .i64 y9, .slice yoa m yoc], .bool true]) (by rw [results_cell_tmp rfl]; simp [asAddr, Result.andThen]; rw [run_loadVar_row _ w.heap.size _ _ _ _ _ HBL.out Try.underlying40 rfl (by kernel_rfl)]) rfl ?_
  refine ⟨⟨⟨((y1, y2, y3), y4, y5, y6), y7, y8, y9, yos⟩, yoa, yoc⟩, ?_, HLAST.out, HOUT.out, HBEL.out⟩
  dsimp only [ev]
  rw [HM.out]
theorem rlast_any {Y : Nat → Prop} {w : World} {fl : Int} {L : List P} {b : Nat} (h : RP Y w fl L b) :
    Calls Try.prog 19 #[.pointer (some ⟨b, 0, none⟩)] w fun e w' => ∃ x : E, e = .returned (.tuple #[ev x, .bool (decide (0 < L.length))]) ∧ x.p = lastP L ∧ Out (fun k => k ≠ b ∧ ¬ Y k) w' x ∧ Below w.heap.size w w' := by
  by_cases e : L = []
  · subst e
    exact (rlast_none h).mono fun e w' ⟨he, hb⟩ => ⟨e0, by rw [he]; rfl, rfl, out_e0 _ _, hb⟩
  · exact (rlast_some h e).mono fun e' w' ⟨x, he, hx⟩ => ⟨x, by rw [he, show decide (0 < L.length) = true by simpa using List.length_pos_iff.2 e], hx⟩
end Go.Proofs.Ytgifanioeeacdaa
