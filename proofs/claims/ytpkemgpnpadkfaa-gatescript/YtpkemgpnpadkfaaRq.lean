/- Proved: the document's gate: how it lies in memory; contracts of its New, Held, Hold. -/
import Derived.Test.YtpkemgpnpadkfaaTwo
import Derived.BigQuiet
import Derived.Deep.QuietTactic
namespace Go.Proofs.Ytpkemgpnpadkfaa
open Go.RowKit Go.Shelf Go.Sort
set_option linter.unusedVariables false

/-- The document's gate at block b, that holds L, which lies in v; X: blocks that are others'. -/
structure RQ (X : Nat → Prop) (W : World) (fl : Int) (L : List H) (b : Nat) (v : Value) : Prop where
  blk : W.heap[b]? = some (.cells #[.int .i64 fl, v] 44 (0, 0))
  row : OwR cH 58 W v L
  nb : v.ownBlock ≠ some b
  xb : ¬ X b
  xv : ∀ k, v.ownBlock = some k → ¬ X k
  xl : ∀ k, X k → k < W.heap.size
  cap : L.length ≤ 256
theorem RQ.lt {X : Nat → Prop} {W : World} {fl : Int} {l : List H} {b : Nat} {v : Value} (h : RQ X W fl l b v) : b < W.heap.size := (Array.getElem?_eq_some_iff.1 h.blk).1
theorem RQ.dlt {X : Nat → Prop} {W : World} {fl : Int} {l : List H} {b : Nat} {v : Value} (h : RQ X W fl l b v) {k : Nat} (hk : D b v k) : k < W.heap.size := by
  rcases hk with rfl | hk
  · exact h.lt
  · exact h.row.lt hk
theorem RQ.dx {X : Nat → Prop} {W : World} {fl : Int} {l : List H} {b : Nat} {v : Value} (h : RQ X W fl l b v) {k : Nat} (hk : D b v k) : ¬ X k := by
  rcases hk with rfl | hk
  · exact h.xb
  · exact h.xv k hk
theorem RQ.c1 {X : Nat → Prop} {W : World} {fl : Int} {l : List H} {b : Nat} {v : Value} (h : RQ X W fl l b v) : W.cell? ⟨b, 1, none⟩ = some v := cellB h.blk 1
theorem RQ.c0 {X : Nat → Prop} {W : World} {fl : Int} {l : List H} {b : Nat} {v : Value} (h : RQ X W fl l b v) : W.cell? ⟨b, 0, none⟩ = some (.int .i64 fl) := cellB h.blk 0
theorem RQ.froz {X : Nat → Prop} {W : World} {fl : Int} {l : List H} {b : Nat} {v : Value} (h : RQ X W fl l b v) (i : Nat) : W.frozen? ⟨b, i, none⟩ = false := by simp [World.frozen?, h.blk]
theorem RQ.keep {X X' S : Nat → Prop} {W W' : World} {fl : Int} {l : List H} {b : Nat} {v : Value} (h : RQ X W fl l b v) (hf : Fr S W W') (hS : ∀ k, S k → ¬ D b v k) (hX : ∀ k, k < W.heap.size → X' k → ¬ D b v k) (hl : ∀ k, X' k → k < W'.heap.size) : RQ X' W' fl l b v :=
  ⟨(hf.block b h.lt (fun e => hS _ e (Or.inl rfl))).trans h.blk, h.row.keep hf (fun g e s => hS _ s (Or.inr e)), h.nb, fun e => hX _ h.lt e (Or.inl rfl), fun k e s => hX k (h.row.lt e) s (Or.inr e), hl, h.cap⟩
theorem RQ.below {X : Nat → Prop} {W W' : World} {fl : Int} {l : List H} {b : Nat} {v : Value} (h : RQ X W fl l b v) (hb : Below W.heap.size W W') : RQ X W' fl l b v :=
  h.keep (Fr.of_below (S := fun _ => False) hb) (fun _ e => e.elim) (fun k _ e d => h.dx d e) (fun k e => Nat.lt_of_lt_of_le (h.xl k e) hb.size)
theorem RQ.put {X : Nat → Prop} {W w2 : World} {fl : Int} {l l' : List H} {b : Nat} {v v' : Value} (h : RQ X W fl l b v) (hm : Mw (fun k => v.ownBlock = some k) (fun k => v'.ownBlock = some k) W w2) (hr : OwR cH 58 w2 v' l') (hl : l'.length ≤ 256) :
    RQ X (w2.setCell ⟨b, 1, none⟩ v') fl l' b v' ∧ Mw (D b v) (D b v') W (w2.setCell ⟨b, 1, none⟩ v') := by
  have hb := (hm.fr.block b h.lt (fun e => h.nb e)).trans h.blk
  have nb' : v'.ownBlock ≠ some b := fun e => h.nb (hm.new b h.lt e)
  have f1 : Fr (fun k => k = b) w2 (w2.setCell ⟨b, 1, none⟩ v') := (Fr.refl _ _).setCell _ _ (Or.inl rfl)
  refine ⟨⟨?_, hr.keep f1 (fun g e s => nb' (by rw [← s]; exact e)), nb', h.xb, fun k e s => h.xv k (hm.new k (h.xl k s) e) s, fun k e => Nat.lt_of_lt_of_le (h.xl k e) (Nat.le_trans hm.fr.size f1.size), hl⟩, ⟨?_, ?_⟩⟩
  · have := heap_setCell_same w2 b 1 _ _ v' hb
    rw [this]
    rfl
  · exact (hm.fr.wide (fun i e => Or.inr e)).then (f1.wide (fun i e => Or.inl e))
  · intro k hk e
    rcases e with e | e
    · exact Or.inl e
    · exact Or.inr (hm.new k hk e)
theorem RQ.floor {X : Nat → Prop} {W : World} {fl : Int} {l : List H} {b : Nat} {v : Value} (h : RQ X W fl l b v) (t : Int) :
    RQ X (W.setCell ⟨b, 0, none⟩ (.int .i64 t)) t l b v ∧ Mw (D b v) (D b v) W (W.setCell ⟨b, 0, none⟩ (.int .i64 t)) := by
  have f1 : Fr (fun k => k = b) W (W.setCell ⟨b, 0, none⟩ (.int .i64 t)) := (Fr.refl _ _).setCell _ _ (Or.inl rfl)
  refine ⟨⟨?_, h.row.keep f1 (fun g e s => h.nb (by rw [← s]; exact e)), h.nb, h.xb, h.xv, fun k e => Nat.lt_of_lt_of_le (h.xl k e) f1.size, h.cap⟩, ⟨f1.wide (fun i e => Or.inl e), fun _ _ e => e⟩⟩
  have := heap_setCell_same W b 0 _ _ (.int .i64 t) h.blk
  rw [this]
  rfl
theorem kpR : Kp RQ := ⟨fun h => h.keep, fun h => h.dlt, fun h => h.dx, fun h => h.xl⟩
theorem rnew_any {X : Nat → Prop} (w : World) (hX : ∀ k, X k → k < w.heap.size) :
    Calls Try.prog 10 #[] w fun e w' => e = .returned (.pointer (some ⟨w.heap.size, 0, none⟩)) ∧ RQ X w' 0 [] w.heap.size (.slice none 0 0) ∧ Below w.heap.size w w' := by
  have HX : Aside _ := hX
  clear hX
  go_enter Try.func10, Try.ntmps10
  go_wp2
  go_ret
  have hB : Below w.heap.size w (w.alloc (.cells #[.int .i64 0, .slice none 0 0] 44)) := al _ _
  refine ⟨rfl, ⟨newB _ _, OwR.nil _ _ _, by simp [Value.ownBlock], fun e => by have := HX.out _ e; omega, fun k e => by simp [Value.ownBlock] at e, fun k e => Nat.lt_of_lt_of_le (HX.out k e) hB.size, by simp⟩, hB⟩
set_option maxRecDepth 100000 in
set_option maxHeartbeats 2000000 in
theorem rheld_any {X : Nat → Prop} {w : World} {fl : Int} {l : List H} {b : Nat} {v : Value} (h : RQ X w fl l b v) :
    Calls Try.prog 22 #[.pointer (some ⟨b, 0, none⟩)] w fun e w' => ∃ a c, e = .returned (.slice a l.length c) ∧ OwR cM 30 w' (.slice a l.length c) (msgs l) ∧ (∀ k, (Value.slice a l.length c).ownBlock = some k → w.heap.size ≤ k) ∧ Below w.heap.size w w' := by
  have c1 := h.c1
  have hbl := h.lt
  have HC : Hid (∀ W, Below w.heap.size w W → W.cell? ⟨b, 1, none⟩ = some v) := fun W hW => (hW.cell (p := ⟨b, 1, none⟩) hbl).trans c1
  have hl := h.cap
  obtain ⟨a, c, rfl, hr⟩ := h.row.rd (N := fun _ => True) (fun _ _ => trivial)
  have HR : Hid (RdN cH (fun _ => True) w a l) := hr
  clear hr h
  go_enter Try.func22, Try.ntmps22
  go_wp2
  go_loopw [3, 4] (fun s3 s4 wr => ∃ (i : Nat) (ka : Option Addr) (kc : Nat), s4 = .int .i64 i ∧ i ≤ l.length ∧ s3 = .slice ka i kc ∧ Hid (OwR cM 30 wr (.slice ka i kc) (msgs (l.take i))) ∧ Hid (∀ k, (Value.slice ka i kc).ownBlock = some k → w.heap.size ≤ k) ∧ Hid (Below w.heap.size w wr)) (fun _ s4 _ => l.length - (intOf s4).toNat)
  case atStart => exact ⟨0, _, 0, rfl, Nat.zero_le _, rfl, (OwR.made cM _ w : OwR cM 30 _ _ []), (fun k e => by simp [Value.ownBlock] at e; omega : ∀ k, (Value.slice (some ⟨w.heap.size, 0, none⟩) 0 0).ownBlock = some k → w.heap.size ≤ k), (al w _ : Below w.heap.size w _)⟩
  case round =>
    clear c1
    obtain ⟨i, ka, kc, rfl, hi, rfl, HO, HN, HB⟩ := hrel
    have c1 := HC.out wr HB.out
    have lbw : b < wr.heap.size := Nat.lt_of_lt_of_le hbl HB.out.size
    by_cases hlt : i < l.length
    · have hlt' : (i : Int) < (l.length : Int) := by omega
      obtain ⟨x, hx⟩ : ∃ x, nth cH l i = x := ⟨_, rfl⟩
      obtain ⟨g, off, rfl, hg, hgN, x0, x1, x2, x3, x4, x5, x6, x7, x8⟩ := (HR.out.below HB.out).held hlt hx
      have hX : msgs (l.take i) ++ [x.2] = msgs (l.take (i + 1)) := by
        unfold msgs
        rw [List.take_add_one, List.map_append, List.getElem?_eq_getElem hlt]
        rw [nth_get hlt] at hx
        simp [hx]
      obtain ⟨Y, hXe⟩ : ∃ Y, Y = msgs (l.take (i + 1)) := ⟨_, rfl⟩
      rw [← hXe] at hX
      have HX : Hid (msgs (l.take i) ++ [x.2] = Y) := hX
      have HL : Hid (Y.length = i + 1) := by rw [hXe]; show (msgs (l.take (i + 1))).length = i + 1; rw [msgs_len, List.length_take]; omega
      have HXE : Hid (Y = msgs (l.take (i + 1))) := hXe
      obtain ⟨⟨y1, y2, y3⟩, ⟨y4, y5, y6⟩, y7, y8, y9⟩ := x
      clear hX hx hXe
      have HB2 : Hid (∀ o1, Below w.heap.size w (wr.alloc o1)) := fun o1 => Below.on HB.out (al _ _)
      go_wp2_with (at_builtin; refine wpList_append_R tyM (fun _ => True) _ rfl (.tmp 15) (.tmp 24) rfl _ _ _ (msgs (l.take i)) [((y4, y5, y6), y7, y8, y9)] rfl rfl (HO.out.below (al _ _)) (RdN.newAt cM _ _ _ _ _ (by simp) rfl trivial) (by simp [msgs]; omega) (by simp) Y HX.out ?_; intro a' c' w2 ho hm; have HO2 : Hid (OwR cM 30 w2 (.slice a' Y.length c') Y) := ho; have HB3 : Hid (Below w.heap.size w w2) := (HB2.out _).trans (hm.fr.below (HB2.out _).size HN.out); have HN2 : Hid (∀ k, (Value.slice a' Y.length c').ownBlock = some k → w.heap.size ≤ k) := (fun k e => new_ge (HB2.out _).size HN.out hm e); clear ho hm)
      go_roundw
      case rel =>
        refine ⟨i + 1, a', c', by go_num, by omega, by rw [HL.out], ?_, ?_, HB3.out⟩
        · have h1 : OwR cM 30 w2 (.slice a' Y.length c') Y := HO2.out
          rw [HL.out, HXE.out] at h1
          exact h1
        · have h1 : ∀ k, (Value.slice a' Y.length c').ownBlock = some k → w.heap.size ≤ k := HN2.out
          rw [HL.out] at h1
          exact h1
      case measure => simp [intOf]; omega
    · obtain rfl : i = l.length := by omega
      go_wp2
      go_ret
      refine ⟨_, _, rfl, ?_, HN.out, HB.out⟩
      have := HO.out
      rwa [List.take_of_length_le (Nat.le_refl _)] at this
/-- What Hold comes to. -/
def RholdP (X : Nat → Prop) (w : World) (fl : Int) (L : List H) (b : Nat) (v : Value) (x : H) (e : Ending) (w' : World) : Prop := ∃ v', e = .returned (.int .i64 (holdE fl L x)) ∧ RQ X w' fl (holdL fl L x) b v' ∧ Mw (D b v) (D b v') w w'
set_option maxRecDepth 100000 in
set_option maxHeartbeats 4000000 in
theorem rhold_any {X : Nat → Prop} {w : World} {fl : Int} {L : List H} {b : Nat} {v : Value} (h : RQ X w fl L b v) (x : H) :
    Calls Try.prog 12 #[.pointer (some ⟨b, 0, none⟩), kv x.1, mv x.2] w fun e w' => ∃ v', e = .returned (.int .i64 (holdE fl L x)) ∧ RQ X w' fl (holdL fl L x) b v' ∧ Mw (D b v) (D b v') w w' := by
  have mixed : Try.prog.follows .mixedOrders = true := by kernel_rfl
  obtain ⟨a, c, rfl, hrd⟩ := h.row.rd (N := fun _ => True) (fun _ _ => trivial)
  obtain ⟨n, hn⟩ : ∃ n, L.length = n := ⟨_, rfl⟩
  obtain ⟨⟨y1, y2, y3⟩, ⟨y4, y5, y6⟩, y7, y8, y9⟩ := x
  obtain ⟨w1, hw1⟩ : ∃ w1, w1 = (w.alloc (.cells #[.int .i64 y1, .int .i64 y2, .int .i64 y3] 28)).alloc (.cells #[.int .i64 y4, .int .i64 y5, .int .i64 y6, .int .i64 y7, .int .i64 y8, .int .i64 y9] 30) := ⟨_, rfl⟩
  obtain ⟨B, hB⟩ : ∃ B, w.heap.size = B := ⟨_, rfl⟩
  have hb1 : Below w.heap.size w w1 := by rw [hw1]; exact Below.on (al _ _) (al _ _)
  have B0 : w1.heap[B]? = some (.cells #[.int .i64 y1, .int .i64 y2, .int .i64 y3] 28) := by rw [hw1, ← hB, (al _ _).block _ (by simp)]; exact newB _ _
  have B1 : w1.heap[B + 1]? = some (.cells #[.int .i64 y4, .int .i64 y5, .int .i64 y6, .int .i64 y7, .int .i64 y8, .int .i64 y9] 30) := by rw [hw1, ← hB]; have h1 := newB (w.alloc (.cells #[.int .i64 y1, .int .i64 y2, .int .i64 y3] 28)) (.cells #[.int .i64 y4, .int .i64 y5, .int .i64 y6, .int .i64 y7, .int .i64 y8, .int .i64 y9] 30); simpa using h1
  have HBX : Hid (∀ W : World, W.heap[B]? = w1.heap[B]? → W.heap[B + 1]? = w1.heap[B + 1]? → W.cell? ⟨B, 0, none⟩ = some (.int .i64 y1) ∧ W.cell? ⟨B, 1, none⟩ = some (.int .i64 y2) ∧ W.cell? ⟨B, 2, none⟩ = some (.int .i64 y3) ∧ W.cell? ⟨B + 1, 0, none⟩ = some (.int .i64 y4) ∧ W.cell? ⟨B + 1, 1, none⟩ = some (.int .i64 y5) ∧ W.cell? ⟨B + 1, 2, none⟩ = some (.int .i64 y6) ∧ W.cell? ⟨B + 1, 3, none⟩ = some (.int .i64 y7) ∧ W.cell? ⟨B + 1, 4, none⟩ = some (.int .i64 y8) ∧ W.cell? ⟨B + 1, 5, none⟩ = some (.int .i64 y9)) := fun W g1 g2 => by
    have b0 := g1.trans B0
    have b1 := g2.trans B1
    exact ⟨cellB b0 0, cellB b0 1, cellB b0 2, cellB b1 0, cellB b1 1, cellB b1 2, cellB b1 3, cellB b1 4, cellB b1 5⟩
  obtain ⟨d0, d1, d2, f0, f1, f2, f3, f4, f5⟩ := HBX.out w1 rfl rfl
  have lB : B < w1.heap.size := (Array.getElem?_eq_some_iff.1 B0).1
  have lB1 : B + 1 < w1.heap.size := (Array.getElem?_eq_some_iff.1 B1).1
  have q1 := h.below hb1
  have g0 := q1.c0
  have g1 := q1.c1
  have lb : b < w1.heap.size := q1.lt
  have HW : Hid (w1 = (w.alloc (.cells #[.int .i64 y1, .int .i64 y2, .int .i64 y3] 28)).alloc (.cells #[.int .i64 y4, .int .i64 y5, .int .i64 y6, .int .i64 y7, .int .i64 y8, .int .i64 y9] 30)) := hw1
  have HBB : Hid (w.heap.size = B) := hB
  have n256 : n ≤ 256 := by rw [← hn]; exact h.cap
  have HNO : Hid (∀ q, holdE fl L ((y1, y2, y3), (y4, y5, y6), y7, y8, y9) ≠ 0 → RholdP X w fl L b (.slice a L.length c) ((y1, y2, y3), (y4, y5, y6), y7, y8, y9) (.returned (.int .i64 (holdE fl L ((y1, y2, y3), (y4, y5, y6), y7, y8, y9)))) (w1.drewN q)) := fun q hne => by
    have hbq : Below w.heap.size w (w1.drewN q) := ⟨hb1.os, hb1.tape, hb1.output, hb1.size, hb1.block⟩
    refine ⟨_, rfl, ?_, Mw.below hbq⟩
    unfold holdL
    rw [if_neg hne]
    exact h.below hbq
  have hpe : holdE fl L ((y1, y2, y3), (y4, y5, y6), y7, y8, y9) = if y1 < fl then 110 else if 256 ≤ n then 2 else 0 := by rw [← hn]; rfl
  show Calls Try.prog 12 #[.pointer (some ⟨b, 0, none⟩), .agg #[.int .i64 y1, .int .i64 y2, .int .i64 y3], .agg #[.int .i64 y4, .int .i64 y5, .int .i64 y6, .int .i64 y7, .int .i64 y8, .int .i64 y9]] w (RholdP X w fl L b (.slice a L.length c) ((y1, y2, y3), (y4, y5, y6), y7, y8, y9))
  by_cases c1 : y1 < fl
  · rw [if_pos c1] at hpe
    have HPE : Hid (holdE fl L ((y1, y2, y3), (y4, y5, y6), y7, y8, y9) = 110) := hpe
    clear hpe hw1 hB hb1 B0 B1 q1 h hn hrd
    go_enter Try.func12, Try.ntmps12
    go_wp2_with fail
    rw [← HW.out]
    simp only [HBB.out]
    go_quiet (fail)
    go_wp2
    go_ret
    have h1 := HNO.out nq (by rw [HPE.out]; decide)
    rw [HPE.out] at h1
    exact h1
  · rw [if_neg c1] at hpe
    by_cases c2 : 256 ≤ n
    · rw [if_pos c2] at hpe
      have HPE : Hid (holdE fl L ((y1, y2, y3), (y4, y5, y6), y7, y8, y9) = 2) := hpe
      have c2' : (256 : Int) ≤ (L.length : Int) := by omega
      clear hpe hw1 hB hb1 B0 B1 q1 h hn hrd
      go_enter Try.func12, Try.ntmps12
      go_wp2_with fail
      rw [← HW.out]
      simp only [HBB.out]
      go_quiet (fail)
      go_wp2
      go_ret
      have h1 := HNO.out nq (by rw [HPE.out]; decide)
      rw [HPE.out] at h1
      exact h1
    · rw [if_neg c2] at hpe
      have c2' : ¬ (256 : Int) ≤ (L.length : Int) := by omega
      have HR : Hid (∀ W, Below w1.heap.size w1 W → RdN cH (fun _ => True) W a L) := fun W hW => hrd.below (Below.on hb1 hW)
      have HL : Hid (L.length ≤ 255) := by show L.length ≤ 255; omega
      have HB1 : Hid (Below w.heap.size w w1) := hb1
      have HRD : Hid (∀ W, Below w1.heap.size w1 W → W.cell? ⟨b, 1, none⟩ = some (.slice a L.length c) ∧ W.frozen? ⟨b, 1, none⟩ = false ∧ W.cell? ⟨B, 0, none⟩ = some (.int .i64 y1) ∧ W.cell? ⟨B, 1, none⟩ = some (.int .i64 y2) ∧ W.cell? ⟨B, 2, none⟩ = some (.int .i64 y3) ∧ W.cell? ⟨B + 1, 0, none⟩ = some (.int .i64 y4) ∧ W.cell? ⟨B + 1, 1, none⟩ = some (.int .i64 y5) ∧ W.cell? ⟨B + 1, 2, none⟩ = some (.int .i64 y6) ∧ W.cell? ⟨B + 1, 3, none⟩ = some (.int .i64 y7) ∧ W.cell? ⟨B + 1, 4, none⟩ = some (.int .i64 y8) ∧ W.cell? ⟨B + 1, 5, none⟩ = some (.int .i64 y9)) := fun W hW => ⟨(q1.below hW).c1, (q1.below hW).froz 1, HBX.out W (hW.block B lB) (hW.block (B + 1) lB1)⟩
      have HFIN : Hid (∀ {W : World} {a' : Option Addr} {n' c' : Nat}, Below w1.heap.size w1 W → OwR cH 58 W (.slice a' n' c') (L ++ [((y1, y2, y3), (y4, y5, y6), y7, y8, y9)]) → (∀ k, (Value.slice a' n' c').ownBlock = some k → w1.heap.size ≤ k) → RholdP X w fl L b (.slice a L.length c) ((y1, y2, y3), (y4, y5, y6), y7, y8, y9) (.returned (.int .i64 0)) (W.setCell ⟨b, 1, none⟩ (.slice a' n' c'))) := fun {W a' n' c'} hW ho hnw => by
        have hbW : Below w.heap.size w W := Below.on hb1 hW
        have hm : Mw (fun k => (Value.slice a L.length c).ownBlock = some k) (fun k => (Value.slice a' n' c').ownBlock = some k) w W := ⟨Fr.of_below hbW, fun k hk e => by have := hnw k e; have := hb1.size; omega⟩
        obtain ⟨g1, g2⟩ := h.put hm ho (by simp; omega)
        refine ⟨_, by rw [hpe], ?_, g2⟩
        unfold holdL
        rw [if_pos hpe]
        exact g1
      have HXE : Hid (∃ Y, L ++ [((y1, y2, y3), (y4, y5, y6), y7, y8, y9)] = Y) := ⟨_, rfl⟩
      clear hpe hw1 hB hb1 B0 B1 q1 h hn hrd
      go_enter Try.func12, Try.ntmps12
      go_wp2_with fail
      rw [← HW.out]
      simp only [HBB.out]
      go_quiet (fail)
      obtain ⟨w2, hw2⟩ : ∃ w2, w1.drewN nq = w2 := ⟨_, rfl⟩
      have hb2 : Below w1.heap.size w1 w2 := by rw [← hw2]; exact ⟨rfl, rfl, rfl, Nat.le_refl _, fun _ _ => rfl⟩
      rw [hw2]
      obtain ⟨j0, j1, j2⟩ := HRD.out w2 hb2
      have j3 := (HRD.out _ (Below.on hb2 (al w2 (.cells #[] 58)))).1
      have lb2 : b < w2.heap.size := Nat.lt_of_lt_of_le lb hb2.size
      have HB2 : Hid (Below w1.heap.size w1 w2) := hb2
      obtain ⟨Y, hY⟩ := HXE.out
      have HY : Hid (L ++ [((y1, y2, y3), (y4, y5, y6), y7, y8, y9)] = Y) := hY
      clear hw2 hb2 j1 j2 hY HXE
      go_wp2_with (first
        | (at_builtin; refine wpList_append_R tyP (fun _ => True) _ rfl (.tmp 29) (.tmp 33) rfl (.slice a5 L.length c5) _ _ L [((y1, y2, y3), (y4, y5, y6), y7, y8, y9)] rfl rfl ((Hid.out HO5).below (al _ _)) (RdN.newAt cH _ _ _ _ _ (by simp) rfl trivial) (by have := HL.out; omega) (by simp) Y HY.out ?_; intro a6 c6 w6 ho hm; have HO6 : Hid (OwR cH 58 w6 (.slice a6 Y.length c6) Y) := ho; have hb6 : Below w1.heap.size w1 w6 := (Below.on (Hid.out HB5) (al _ _)).trans (hm.fr.below (Below.on (Hid.out HB5) (al _ _)).size (Hid.out HN5)); have HB6 : Hid (Below w1.heap.size w1 w6) := hb6; have HN6 : Hid (∀ k, (Value.slice a6 Y.length c6).ownBlock = some k → w1.heap.size ≤ k) := (fun k e => new_ge (Below.on (Hid.out HB5) (al _ _)).size (Hid.out HN5) hm e); obtain ⟨t0, t1, t2⟩ := HRD.out w6 hb6; have lb6 : b < w6.heap.size := Nat.lt_of_lt_of_le lb hb6.size; clear ho hm hb6 t2)
        | (at_builtin; refine wpList_append_R tyP (fun _ => True) _ rfl (.tmp 22) (.tmp 26) rfl (.slice (some ⟨w2.heap.size, 0, none⟩) 0 0) a c [] L rfl rfl (OwR.made cH _ w2) (HR.out _ (Below.on (Hid.out HB2) (al _ _))) (by simp) (by have := HL.out; omega) L rfl ?_; intro a5 c5 w5 ho hm; have HO5 : Hid (OwR cH 58 w5 (.slice a5 L.length c5) L) := ho; have hb5 : Below w1.heap.size w1 w5 := (Below.on (Hid.out HB2) (al _ _)).trans (hm.fr.below (Below.on (Hid.out HB2) (al _ _)).size (fun k e => (by simp [Value.ownBlock] at e; have := (Hid.out HB2).size; omega))); have HB5 : Hid (Below w1.heap.size w1 w5) := hb5; have HN5 : Hid (∀ k, (Value.slice a5 L.length c5).ownBlock = some k → w1.heap.size ≤ k) := (fun k e => new_ge (Below.on (Hid.out HB2) (al _ _)).size (fun k e => (by simp [Value.ownBlock] at e; have := (Hid.out HB2).size; omega)) hm e); obtain ⟨t0, t1, t2, t3, t4, t5, t6, t7, t8, t9, t10⟩ := HRD.out w5 hb5; have lb5 : B < w5.heap.size := Nat.lt_of_lt_of_le lB hb5.size; have lb51 : B + 1 < w5.heap.size := Nat.lt_of_lt_of_le lB1 hb5.size; clear ho hm hb5 t0 t1))
      go_ret
      refine HFIN.out HB6.out ?_ HN6.out
      rw [HY.out]
      exact HO6.out
end Go.Proofs.Ytpkemgpnpadkfaa
