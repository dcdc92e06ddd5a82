/- Joined: the texts that follow, each with its own sentence. -/
import Derived.Test.YtiaopafkfadmkaaGreatZGb
import Derived.BigQuiet
import Derived.Deep.QuietTactic
set_option linter.unusedVariables false
set_option maxRecDepth 100000
namespace Go.Proofs.YtiaopafkfadmkaaGreat.G
open Go.Proofs.YtiaopafkfadmkaaGreat.B
open Go.RowKit Go.Shelf Go.Sort
theorem hold_fin {X : Nat → Prop} {w w8 : World} {fl : Int} {l : List H} {b n : Nat} {a : Option Addr} {c : Nat} (hn : l.length = n) (hq : GQ X w fl l b (.slice a n c)) (hb : Below w.heap.size w w8) (x : H) (hl : l.length < 256) :
  ∃ a' c' w13, (Builtin.append_ #[168, 168] 168 #[.slice a n c, .slice (some ⟨w8.heap.size, 0, none⟩) 1 1]).run Tryz.prog (w8.alloc (.cells (hcs x) 189)) = .ok (.slice a' (n + 1) c') w13 ∧
   GQ X (w13.setCell ⟨b, 0, none⟩ (.slice a' (n + 1) c')) fl (l ++ [x]) b (.slice a' (n + 1) c') ∧ Mw (D b (.slice a n c)) (D b (.slice a' (n + 1) c')) w (w13.setCell ⟨b, 0, none⟩ (.slice a' (n + 1) c')) ∧ ∀ k, k < w8.heap.size → (Value.slice a n c).ownBlock ≠ some k → w13.heap[k]? = w8.heap[k]? := by
 subst hn
 have hb2 : Below w.heap.size w (w8.alloc (.cells (hcs x) 189)) := Below.on hb (al _ _)
 have r1 := hq.row.below hb2
 have r2 : RdN cH (fun _ => True) (w8.alloc (.cells (hcs x) 189)) (some ⟨w8.heap.size, 0, none⟩) [x] := RdN.new cH w8 x _ _ rfl trivial
 obtain ⟨a', c', w13, hr, ho, hm⟩ := append_R (c := 1) tyH r1 r2 (by omega) (by simp) 168 (l ++ [x]) rfl
 have e : (l ++ [x]).length = l.length + 1 := by simp
 rw [e] at hr ho hm
 have hm2 : Mw (fun k => (Value.slice a l.length c).ownBlock = some k) (fun k => (Value.slice a' (l.length + 1) c').ownBlock = some k) w w13 := (Mw.below hb2).trans hm
 obtain ⟨g1, g2⟩ := hq.put hm2 ho (by simp; omega)
 refine ⟨a', c', w13, hr, g1, g2, fun k hk hne => ?_⟩
 rw [hm.fr.block k (by simp; omega) (fun e => hne e), (al w8 _).block k hk]
def HoldP (X : Nat → Prop) (w : World) (fl : Int) (L : List H) (b : Nat) (v : Value) (x : H) (e : Ending) (w' : World) : Prop := ∃ v', e = .returned (.int .i64 (holdE fl L x)) ∧ GQ X w' fl (holdL fl L x) b v' ∧ Mw (D b v) (D b v') w w'
set_option maxHeartbeats 4000000 in
theorem hold_any {X : Nat → Prop} {w : World} {fl : Int} {L : List H} {b : Nat} {v : Value} (h : GQ X w fl L b v) (x : H) :
  Calls Tryz.prog 118 #[.pointer (some ⟨b, 0, none⟩), kv x.1, mv x.2] w fun e w' => ∃ v', e = .returned (.int .i64 (holdE fl L x)) ∧ GQ X w' fl (holdL fl L x) b v' ∧ Mw (D b v) (D b v') w w' := by
 have mixed : Tryz.prog.follows .mixedOrders = true := by kernel_rfl
 obtain ⟨a, c, rfl, _⟩ := h.row.rd (N := fun _ => True) (fun _ _ => trivial)
 obtain ⟨n, hn⟩ : ∃ n, L.length = n := ⟨_, rfl⟩
 rw [hn] at h ⊢
 obtain ⟨⟨y1, y2, y3⟩, ⟨y4, y5, y6⟩, y7, y8, y9⟩ := x
 obtain ⟨w1, hw1⟩ : ∃ w1, w1 = (w.alloc (.cells #[.int .i64 y1, .int .i64 y2, .int .i64 y3] 37)).alloc (.cells #[.int .i64 y4, .int .i64 y5, .int .i64 y6, .int .i64 y7, .int .i64 y8, .int .i64 y9] 39) := ⟨_, rfl⟩
 obtain ⟨B, hB⟩ : ∃ B, w.heap.size = B := ⟨_, rfl⟩
 have hb1 : Below w.heap.size w w1 := by rw [hw1]; exact Below.on (al _ _) (al _ _)
 have B0 : w1.heap[B]? = some (.cells #[.int .i64 y1, .int .i64 y2, .int .i64 y3] 37) := by rw [hw1, ← hB, (al _ _).block _ (by simp)]; exact newB _ _
 have B1 : w1.heap[B + 1]? = some (.cells #[.int .i64 y4, .int .i64 y5, .int .i64 y6, .int .i64 y7, .int .i64 y8, .int .i64 y9] 39) := by rw [hw1, ← hB]; have h1 := newB (w.alloc (.cells #[.int .i64 y1, .int .i64 y2, .int .i64 y3] 37)) (.cells #[.int .i64 y4, .int .i64 y5, .int .i64 y6, .int .i64 y7, .int .i64 y8, .int .i64 y9] 39); simpa using h1
 have HBX : Hid (∀ W : World, W.heap[B]? = w1.heap[B]? → W.heap[B + 1]? = w1.heap[B + 1]? → W.cell? ⟨B, 0, none⟩ = some (.int .i64 y1) ∧ W.cell? ⟨B, 1, none⟩ = some (.int .i64 y2) ∧ W.cell? ⟨B, 2, none⟩ = some (.int .i64 y3) ∧ W.cell? ⟨B + 1, 0, none⟩ = some (.int .i64 y4) ∧ W.cell? ⟨B + 1, 1, none⟩ = some (.int .i64 y5) ∧ W.cell? ⟨B + 1, 2, none⟩ = some (.int .i64 y6) ∧ W.cell? ⟨B + 1, 3, none⟩ = some (.int .i64 y7) ∧ W.cell? ⟨B + 1, 4, none⟩ = some (.int .i64 y8) ∧ W.cell? ⟨B + 1, 5, none⟩ = some (.int .i64 y9)) := fun W g1 g2 => by
  have b0 := g1.trans B0
  have b1 := g2.trans B1
  exact ⟨cellB b0 0, cellB b0 1, cellB b0 2, cellB b1 0, cellB b1 1, cellB b1 2, cellB b1 3, cellB b1 4, cellB b1 5⟩
 obtain ⟨d0, d1, d2, f0, f1, f2, f3, f4, f5⟩ := HBX.out w1 rfl rfl
 have lB : B < w1.heap.size := (Array.getElem?_eq_some_iff.1 B0).1
 have lB1 : B + 1 < w1.heap.size := (Array.getElem?_eq_some_iff.1 B1).1
 have q1 := h.below hb1
 have g0 := q1.c0
 have g1 := q1.c1
 have lb : b < w1.heap.size := q1.lt
 have HQ : Hid (GQ X w fl L b (.slice a n c)) := h
 have HB1 : Hid (Below w.heap.size w w1) := hb1
 have HW : Hid (w1 = (w.alloc (.cells #[.int .i64 y1, .int .i64 y2, .int .i64 y3] 37)).alloc (.cells #[.int .i64 y4, .int .i64 y5, .int .i64 y6, .int .i64 y7, .int .i64 y8, .int .i64 y9] 39)) := hw1
 have HBB : Hid (w.heap.size = B) := hB
 have HN : Hid (L.length = n) := hn
 have n256 : n ≤ 256 := by rw [← hn]; exact h.cap
 have HNO : Hid (∀ q, holdE fl L ((y1, y2, y3), (y4, y5, y6), y7, y8, y9) ≠ 0 → HoldP X w fl L b (.slice a n c) ((y1, y2, y3), (y4, y5, y6), y7, y8, y9) (.returned (.int .i64 (holdE fl L ((y1, y2, y3), (y4, y5, y6), y7, y8, y9)))) (w1.drewN q)) := fun q hne => by
  have hbq : Below w.heap.size w (w1.drewN q) := ⟨hb1.os, hb1.tape, hb1.output, hb1.size, hb1.block⟩
  refine ⟨_, rfl, ?_, Mw.below hbq⟩
  unfold holdL
  rw [if_neg hne]
  exact h.below hbq
 have hpe : holdE fl L ((y1, y2, y3), (y4, y5, y6), y7, y8, y9) = if y1 < fl then 110 else if 256 ≤ n then 2 else 0 := by rw [← hn]; rfl
 show Calls Tryz.prog 118 #[.pointer (some ⟨b, 0, none⟩), .agg #[.int .i64 y1, .int .i64 y2, .int .i64 y3], .agg #[.int .i64 y4, .int .i64 y5, .int .i64 y6, .int .i64 y7, .int .i64 y8, .int .i64 y9]] w (HoldP X w fl L b (.slice a n c) ((y1, y2, y3), (y4, y5, y6), y7, y8, y9))
 by_cases c1 : y1 < fl
 ·rw [if_pos c1] at hpe
  have HPE : Hid (holdE fl L ((y1, y2, y3), (y4, y5, y6), y7, y8, y9) = 110) := hpe
  clear hpe hw1 hB hb1 B0 B1 q1 h hn
  go_enter Tryz.func118, Tryz.ntmps118
  go_wp2_with fail
  rw [← HW.out]
  simp only [HBB.out]
  go_quiet (fail)
  go_wp2
  go_ret
  have h1 := HNO.out nq (by rw [HPE.out]; decide)
  rw [HPE.out] at h1
  exact h1
 ·rw [if_neg c1] at hpe
  by_cases c2 : 256 ≤ n
  ·rw [if_pos c2] at hpe
   have HPE : Hid (holdE fl L ((y1, y2, y3), (y4, y5, y6), y7, y8, y9) = 2) := hpe
   have c2' : (256 : Int) ≤ (n : Int) := by omega
   clear hpe hw1 hB hb1 B0 B1 q1 h hn
   go_enter Tryz.func118, Tryz.ntmps118
   go_wp2_with fail
   rw [← HW.out]
   simp only [HBB.out]
   go_quiet (fail)
   go_wp2
   go_ret
   have h1 := HNO.out nq (by rw [HPE.out]; decide)
   rw [HPE.out] at h1
   exact h1
  ·rw [if_neg c2] at hpe
   have HPE : Hid (holdE fl L ((y1, y2, y3), (y4, y5, y6), y7, y8, y9) = 0) := hpe
   have c2' : ¬ (256 : Int) ≤ (n : Int) := by omega
   have HF8 : Hid (∀ w8 : World, Below w1.heap.size w1 w8 → ∃ a' c' w13, (Builtin.append_ #[168, 168] 168 #[.slice a n c, .slice (some ⟨w8.heap.size, 0, none⟩) 1 1]).run Tryz.prog (w8.alloc (.cells #[.int .i64 y1, .int .i64 y2, .int .i64 y3, .int .i64 y4, .int .i64 y5, .int .i64 y6, .int .i64 y7, .int .i64 y8, .int .i64 y9] 189)) = .ok (.slice a' (n + 1) c') w13 ∧ HoldP X w fl L b (.slice a n c) ((y1, y2, y3), (y4, y5, y6), y7, y8, y9) (.returned (.int .i64 0)) (w13.setCell ⟨b, 0, none⟩ (.slice a' (n + 1) c')) ∧ w8.cell? ⟨b, 0, none⟩ = some (.slice a n c) ∧ (w8.alloc (.cells #[.int .i64 y1, .int .i64 y2, .int .i64 y3, .int .i64 y4, .int .i64 y5, .int .i64 y6, .int .i64 y7, .int .i64 y8, .int .i64 y9] 189)).cell? ⟨b, 0, none⟩ = some (.slice a n c) ∧ b < w8.heap.size ∧ (w8.cell? ⟨B, 0, none⟩ = some (.int .i64 y1) ∧ w8.cell? ⟨B, 1, none⟩ = some (.int .i64 y2) ∧ w8.cell? ⟨B, 2, none⟩ = some (.int .i64 y3) ∧ w8.cell? ⟨B + 1, 0, none⟩ = some (.int .i64 y4) ∧ w8.cell? ⟨B + 1, 1, none⟩ = some (.int .i64 y5) ∧ w8.cell? ⟨B + 1, 2, none⟩ = some (.int .i64 y6) ∧ w8.cell? ⟨B + 1, 3, none⟩ = some (.int .i64 y7) ∧ w8.cell? ⟨B + 1, 4, none⟩ = some (.int .i64 y8) ∧ w8.cell? ⟨B + 1, 5, none⟩ = some (.int .i64 y9)) ∧ (let w9 := w8.alloc (.cells #[.int .i64 y1, .int .i64 y2, .int .i64 y3, .int .i64 y4, .int .i64 y5, .int .i64 y6, .int .i64 y7, .int .i64 y8, .int .i64 y9] 189); w9.cell? ⟨B, 0, none⟩ = some (.int .i64 y1) ∧ w9.cell? ⟨B, 1, none⟩ = some (.int .i64 y2) ∧ w9.cell? ⟨B, 2, none⟩ = some (.int .i64 y3) ∧ w9.cell? ⟨B + 1, 0, none⟩ = some (.int .i64 y4) ∧ w9.cell? ⟨B + 1, 1, none⟩ = some (.int .i64 y5) ∧ w9.cell? ⟨B + 1, 2, none⟩ = some (.int .i64 y6) ∧ w9.cell? ⟨B + 1, 3, none⟩ = some (.int .i64 y7) ∧ w9.cell? ⟨B + 1, 4, none⟩ = some (.int .i64 y8) ∧ w9.cell? ⟨B + 1, 5, none⟩ = some (.int .i64 y9)) ∧ w13.cell? ⟨b, 0, none⟩ = some (.slice a n c) ∧ w13.frozen? ⟨b, 0, none⟩ = false ∧ b < w13.heap.size ∧ (w13.cell? ⟨B, 0, none⟩ = some (.int .i64 y1) ∧ w13.cell? ⟨B, 1, none⟩ = some (.int .i64 y2) ∧ w13.cell? ⟨B, 2, none⟩ = some (.int .i64 y3) ∧ w13.cell? ⟨B + 1, 0, none⟩ = some (.int .i64 y4) ∧ w13.cell? ⟨B + 1, 1, none⟩ = some (.int .i64 y5) ∧ w13.cell? ⟨B + 1, 2, none⟩ = some (.int .i64 y6) ∧ w13.cell? ⟨B + 1, 3, none⟩ = some (.int .i64 y7) ∧ w13.cell? ⟨B + 1, 4, none⟩ = some (.int .i64 y8) ∧ w13.cell? ⟨B + 1, 5, none⟩ = some (.int .i64 y9)) ∧ (let w14 := w13.setCell ⟨b, 0, none⟩ (.slice a' (n + 1) c'); w14.cell? ⟨B, 0, none⟩ = some (.int .i64 y1) ∧ w14.cell? ⟨B, 1, none⟩ = some (.int .i64 y2) ∧ w14.cell? ⟨B, 2, none⟩ = some (.int .i64 y3) ∧ w14.cell? ⟨B + 1, 0, none⟩ = some (.int .i64 y4) ∧ w14.cell? ⟨B + 1, 1, none⟩ = some (.int .i64 y5) ∧ w14.cell? ⟨B + 1, 2, none⟩ = some (.int .i64 y6) ∧ w14.cell? ⟨B + 1, 3, none⟩ = some (.int .i64 y7) ∧ w14.cell? ⟨B + 1, 4, none⟩ = some (.int .i64 y8) ∧ w14.cell? ⟨B + 1, 5, none⟩ = some (.int .i64 y9))) := fun w8 h8 => by
    have hbw : Below w.heap.size w w8 := Below.on hb1 h8
    obtain ⟨a', c', w13, hrun, hg, hm, hblk⟩ := hold_fin hn h hbw ((y1, y2, y3), (y4, y5, y6), y7, y8, y9) (by omega)
    have q8 := h.below hbw
    have lB8 : B < w8.heap.size := Nat.lt_of_lt_of_le lB h8.size
    have lB18 : B + 1 < w8.heap.size := Nat.lt_of_lt_of_le lB1 h8.size
    have nB : ∀ k, B ≤ k → (Value.slice a n c).ownBlock ≠ some k := fun k hk e => by have := h.row.lt e; omega
    have hbB : b < B := by have := h.lt; omega
    have kb := hblk b q8.lt h.nb
    have k0 := (hblk B lB8 (nB B (Nat.le_refl _))).trans (h8.block B lB)
    have k1 := (hblk (B + 1) lB18 (nB (B + 1) (by omega))).trans (h8.block (B + 1) lB1)
    refine ⟨a', c', w13, hrun, ⟨_, by rw [hpe], ?_, hm⟩, q8.c0, ((al w8 _).cell (p := ⟨b, 0, none⟩) q8.lt).trans q8.c0, q8.lt, HBX.out w8 (h8.block B lB) (h8.block (B + 1) lB1), HBX.out _ (((al w8 _).block B lB8).trans (h8.block B lB)) (((al w8 _).block (B + 1) lB18).trans (h8.block (B + 1) lB1)), (World.cell?_of_block kb).trans q8.c0, (World.frozen?_of_block kb).trans (q8.froz 0), ?_, HBX.out w13 k0 k1, HBX.out _ ?_ ?_⟩
    ·unfold holdL
     rw [if_pos hpe]
     exact hg
    ·have : w13.heap[b]? = some _ := kb.trans q8.blk
     exact (Array.getElem?_eq_some_iff.1 this).1
    ·rw [Below.heap_setCell _ _ _ _ (by show B ≠ b; omega)]
     exact k0
    ·rw [Below.heap_setCell _ _ _ _ (by show B + 1 ≠ b; omega)]
     exact k1
   clear hpe hw1 hB hb1 B0 B1 q1 h hn
   go_enter Tryz.func118, Tryz.ntmps118
   go_wp2_with fail
   rw [← HW.out]
   simp only [HBB.out]
   go_quiet (fail)
   go_wp2_with fail
   obtain ⟨w8, hw8⟩ : ∃ w8, (w1.drewN nq).drew = w8 := ⟨_, rfl⟩
   have HW8 : Hid ((w1.drewN nq).drew = w8) := hw8
   obtain ⟨a', c', w13, hrun, hfin, e8, e9, l8, kb8, kb9, e13, fz13, l13, kb13, kb14⟩ := HF8.out w8 (by rw [← hw8]; exact ⟨rfl, rfl, rfl, Nat.le_refl _, fun _ _ => rfl⟩)
   try dsimp only at kb9 kb14
   have HRUN : Hid ((Builtin.append_ #[168, 168] 168 #[.slice a n c, .slice (some ⟨w8.heap.size, 0, none⟩) 1 1]).run Tryz.prog (w8.alloc (.cells #[.int .i64 y1, .int .i64 y2, .int .i64 y3, .int .i64 y4, .int .i64 y5, .int .i64 y6, .int .i64 y7, .int .i64 y8, .int .i64 y9] 189)) = .ok (.slice a' (n + 1) c') w13) := hrun
   have HFIN : Hid (HoldP X w fl L b (.slice a n c) ((y1, y2, y3), (y4, y5, y6), y7, y8, y9) (.returned (.int .i64 0)) (w13.setCell ⟨b, 0, none⟩ (.slice a' (n + 1) c'))) := hfin
   have KB8 : Hid ((w1.drewN nq).drew.cell? ⟨B, 0, none⟩ = some (.int .i64 y1) ∧ (w1.drewN nq).drew.cell? ⟨B, 1, none⟩ = some (.int .i64 y2) ∧ (w1.drewN nq).drew.cell? ⟨B, 2, none⟩ = some (.int .i64 y3) ∧ (w1.drewN nq).drew.cell? ⟨B + 1, 0, none⟩ = some (.int .i64 y4) ∧ (w1.drewN nq).drew.cell? ⟨B + 1, 1, none⟩ = some (.int .i64 y5) ∧ (w1.drewN nq).drew.cell? ⟨B + 1, 2, none⟩ = some (.int .i64 y6) ∧ (w1.drewN nq).drew.cell? ⟨B + 1, 3, none⟩ = some (.int .i64 y7) ∧ (w1.drewN nq).drew.cell? ⟨B + 1, 4, none⟩ = some (.int .i64 y8) ∧ (w1.drewN nq).drew.cell? ⟨B + 1, 5, none⟩ = some (.int .i64 y9)) := by rw [hw8]; exact kb8
   have KB9 : Hid ((w8.alloc (.cells #[.int .i64 y1, .int .i64 y2, .int .i64 y3, .int .i64 y4, .int .i64 y5, .int .i64 y6, .int .i64 y7, .int .i64 y8, .int .i64 y9] 189)).cell? ⟨B, 0, none⟩ = some (.int .i64 y1) ∧ (w8.alloc (.cells #[.int .i64 y1, .int .i64 y2, .int .i64 y3, .int .i64 y4, .int .i64 y5, .int .i64 y6, .int .i64 y7, .int .i64 y8, .int .i64 y9] 189)).cell? ⟨B, 1, none⟩ = some (.int .i64 y2) ∧ (w8.alloc (.cells #[.int .i64 y1, .int .i64 y2, .int .i64 y3, .int .i64 y4, .int .i64 y5, .int .i64 y6, .int .i64 y7, .int .i64 y8, .int .i64 y9] 189)).cell? ⟨B, 2, none⟩ = some (.int .i64 y3) ∧ (w8.alloc (.cells #[.int .i64 y1, .int .i64 y2, .int .i64 y3, .int .i64 y4, .int .i64 y5, .int .i64 y6, .int .i64 y7, .int .i64 y8, .int .i64 y9] 189)).cell? ⟨B + 1, 0, none⟩ = some (.int .i64 y4) ∧ (w8.alloc (.cells #[.int .i64 y1, .int .i64 y2, .int .i64 y3, .int .i64 y4, .int .i64 y5, .int .i64 y6, .int .i64 y7, .int .i64 y8, .int .i64 y9] 189)).cell? ⟨B + 1, 1, none⟩ = some (.int .i64 y5) ∧ (w8.alloc (.cells #[.int .i64 y1, .int .i64 y2, .int .i64 y3, .int .i64 y4, .int .i64 y5, .int .i64 y6, .int .i64 y7, .int .i64 y8, .int .i64 y9] 189)).cell? ⟨B + 1, 2, none⟩ = some (.int .i64 y6) ∧ (w8.alloc (.cells #[.int .i64 y1, .int .i64 y2, .int .i64 y3, .int .i64 y4, .int .i64 y5, .int .i64 y6, .int .i64 y7, .int .i64 y8, .int .i64 y9] 189)).cell? ⟨B + 1, 3, none⟩ = some (.int .i64 y7) ∧ (w8.alloc (.cells #[.int .i64 y1, .int .i64 y2, .int .i64 y3, .int .i64 y4, .int .i64 y5, .int .i64 y6, .int .i64 y7, .int .i64 y8, .int .i64 y9] 189)).cell? ⟨B + 1, 4, none⟩ = some (.int .i64 y8) ∧ (w8.alloc (.cells #[.int .i64 y1, .int .i64 y2, .int .i64 y3, .int .i64 y4, .int .i64 y5, .int .i64 y6, .int .i64 y7, .int .i64 y8, .int .i64 y9] 189)).cell? ⟨B + 1, 5, none⟩ = some (.int .i64 y9)) := kb9
   have KB13 : Hid (w13.cell? ⟨B, 0, none⟩ = some (.int .i64 y1) ∧ w13.cell? ⟨B, 1, none⟩ = some (.int .i64 y2) ∧ w13.cell? ⟨B, 2, none⟩ = some (.int .i64 y3) ∧ w13.cell? ⟨B + 1, 0, none⟩ = some (.int .i64 y4) ∧ w13.cell? ⟨B + 1, 1, none⟩ = some (.int .i64 y5) ∧ w13.cell? ⟨B + 1, 2, none⟩ = some (.int .i64 y6) ∧ w13.cell? ⟨B + 1, 3, none⟩ = some (.int .i64 y7) ∧ w13.cell? ⟨B + 1, 4, none⟩ = some (.int .i64 y8) ∧ w13.cell? ⟨B + 1, 5, none⟩ = some (.int .i64 y9)) := kb13
   have KB14 : Hid ((w13.setCell ⟨b, 0, none⟩ (.slice a' (n + 1) c')).cell? ⟨B, 0, none⟩ = some (.int .i64 y1) ∧ (w13.setCell ⟨b, 0, none⟩ (.slice a' (n + 1) c')).cell? ⟨B, 1, none⟩ = some (.int .i64 y2) ∧ (w13.setCell ⟨b, 0, none⟩ (.slice a' (n + 1) c')).cell? ⟨B, 2, none⟩ = some (.int .i64 y3) ∧ (w13.setCell ⟨b, 0, none⟩ (.slice a' (n + 1) c')).cell? ⟨B + 1, 0, none⟩ = some (.int .i64 y4) ∧ (w13.setCell ⟨b, 0, none⟩ (.slice a' (n + 1) c')).cell? ⟨B + 1, 1, none⟩ = some (.int .i64 y5) ∧ (w13.setCell ⟨b, 0, none⟩ (.slice a' (n + 1) c')).cell? ⟨B + 1, 2, none⟩ = some (.int .i64 y6) ∧ (w13.setCell ⟨b, 0, none⟩ (.slice a' (n + 1) c')).cell? ⟨B + 1, 3, none⟩ = some (.int .i64 y7) ∧ (w13.setCell ⟨b, 0, none⟩ (.slice a' (n + 1) c')).cell? ⟨B + 1, 4, none⟩ = some (.int .i64 y8) ∧ (w13.setCell ⟨b, 0, none⟩ (.slice a' (n + 1) c')).cell? ⟨B + 1, 5, none⟩ = some (.int .i64 y9)) := kb14
   clear hrun hfin kb8 kb9 kb13 kb14 hw8
   refine wp_region_held_drew (S := fun w' => w'.cell? ⟨B, 0, none⟩ = some (.int .i64 y1) ∧ w'.cell? ⟨B, 1, none⟩ = some (.int .i64 y2) ∧ w'.cell? ⟨B, 2, none⟩ = some (.int .i64 y3) ∧ w'.cell? ⟨B + 1, 0, none⟩ = some (.int .i64 y4) ∧ w'.cell? ⟨B + 1, 1, none⟩ = some (.int .i64 y5) ∧ w'.cell? ⟨B + 1, 2, none⟩ = some (.int .i64 y6) ∧ w'.cell? ⟨B + 1, 3, none⟩ = some (.int .i64 y7) ∧ w'.cell? ⟨B + 1, 4, none⟩ = some (.int .i64 y8) ∧ w'.cell? ⟨B + 1, 5, none⟩ = some (.int .i64 y9)) (by kernel_rfl) (Hid.out KB8) (fun hHeld => ?_)
   simp only [HW8.out] at hHeld ⊢
   refine wpAnyH_take (i := 0) rfl (by kernel_rfl) (by kernel_rfl) (by kernel_rfl) (fun _ _ _ h => h) (Or.inl ⟨by rfl, fun w hSw => by (dsimp only at hSw; go_simp; first | done | with_reducible rfl)⟩) hHeld ?_
   go_frame
   refine wpAnyH_take (i := 1) rfl (by kernel_rfl) (by kernel_rfl) (by kernel_rfl) (fun _ _ _ h => h) (Or.inl ⟨by rfl, fun w hSw => by (dsimp only at hSw; go_simp; first | done | with_reducible rfl)⟩) hHeld ?_
   go_frame
   refine wpAnyH_take (i := 2) rfl (by kernel_rfl) (by kernel_rfl) (by kernel_rfl) (fun _ _ _ h => h) (Or.inl ⟨by rfl, fun w hSw => by (dsimp only at hSw; go_simp; first | done | with_reducible rfl)⟩) hHeld ?_
   go_frame
   refine wpAnyH_take (i := 3) rfl (by kernel_rfl) (by kernel_rfl) (by kernel_rfl) (fun _ _ _ h => h) (Or.inl ⟨by rfl, fun w hSw => by (dsimp only at hSw; go_simp; first | done | with_reducible rfl)⟩) hHeld ?_
   go_frame
   refine wpAnyH_take (i := 5) rfl (by kernel_rfl) (by kernel_rfl) (by kernel_rfl) (fun _ _ _ h => h) (Or.inl ⟨by rfl, fun w hSw => by (dsimp only at hSw; go_simp; first | done | with_reducible rfl)⟩) hHeld ?_
   go_frame
   refine wpAnyH_take (i := 6) rfl (by kernel_rfl) (by kernel_rfl) (by kernel_rfl) (fun _ _ _ h => h) (Or.inl ⟨by rfl, fun w hSw => by (dsimp only at hSw; go_simp; first | done | with_reducible rfl)⟩) hHeld ?_
   go_frame
   refine wpAnyH_take (i := 7) rfl (by kernel_rfl) (by kernel_rfl) (by kernel_rfl) (fun _ _ _ h => h) (Or.inl ⟨by rfl, fun w hSw => by (dsimp only at hSw; go_simp; first | done | with_reducible rfl)⟩) hHeld ?_
   go_frame
   refine wpAnyH_ready (rs := [4, 8]) (by kernel_rfl) (by simp) (AllReadyH.cons rfl (fun K hK => ?_) (AllReadyH.cons rfl (fun K hK => ?_) AllReadyH.nil))
   ·go_simp
    refine hK.out _ _ hHeld (fun _ => ?_)
    clear hK K
    try go_frame
    refine wpAnyH_ready (rs := [8]) (by kernel_rfl) (by simp) (AllReadyH.cons rfl (fun K hK => ?_) AllReadyH.nil)
    go_simp
    refine hK.out _ _ (Hid.out KB9) (fun hHeld9 => ?_)
    clear hK K
    try go_frame
    refine wpAnyH_ready (rs := [9]) (by kernel_rfl) (by simp) (AllReadyH.cons rfl (fun K hK => ?_) AllReadyH.nil)
    refine step_append_run rfl (.tmp 24) (.tmp 28) 168 rfl (by simp [Act.eval]) (by simp [Act.eval]) HRUN.out ?_
    refine hK.out _ _ (Hid.out KB13) (fun hHeld11 => ?_)
    clear hK K
    try go_frame
    refine wpAnyH_take (i := 10) rfl (by kernel_rfl) (by kernel_rfl) (by kernel_rfl) (fun _ _ _ h => h) (Or.inl ⟨by rfl, fun w hSw => by (dsimp only at hSw; go_simp; first | done | with_reducible rfl)⟩) hHeld11 ?_
    go_frame
    refine wpAnyH_take (i := 11) rfl (by kernel_rfl) (by kernel_rfl) (by kernel_rfl) (fun _ _ _ h => h) (Or.inl ⟨by rfl, fun w hSw => by (dsimp only at hSw; go_simp; first | done | with_reducible rfl)⟩) hHeld11 ?_
    go_frame
    refine wpAnyH_ready (rs := [12]) (by kernel_rfl) (by simp) (AllReadyH.cons rfl (fun K hK => ?_) AllReadyH.nil)
    go_simp
    refine hK.out _ _ (Hid.out KB14) (fun hHeld13 => ?_)
    clear hK K
    refine wpAnyH_done (by kernel_rfl) ?_ _
    go_wp2
    go_ret
    exact HFIN.out
   ·go_simp
    refine hK.out _ _ (Hid.out KB9) (fun hHeld9 => ?_)
    clear hK K
    try go_frame
    refine wpAnyH_ready (rs := [4]) (by kernel_rfl) (by simp) (AllReadyH.cons rfl (fun K hK => ?_) AllReadyH.nil)
    go_simp
    refine hK.out _ _ hHeld9 (fun _ => ?_)
    clear hK K
    try go_frame
    refine wpAnyH_ready (rs := [9]) (by kernel_rfl) (by simp) (AllReadyH.cons rfl (fun K hK => ?_) AllReadyH.nil)
    refine step_append_run rfl (.tmp 24) (.tmp 28) 168 rfl (by simp [Act.eval]) (by simp [Act.eval]) HRUN.out ?_
    refine hK.out _ _ (Hid.out KB13) (fun hHeld11 => ?_)
    clear hK K
    try go_frame
    refine wpAnyH_take (i := 10) rfl (by kernel_rfl) (by kernel_rfl) (by kernel_rfl) (fun _ _ _ h => h) (Or.inl ⟨by rfl, fun w hSw => by (dsimp only at hSw; go_simp; first | done | with_reducible rfl)⟩) hHeld11 ?_
    go_frame
    refine wpAnyH_take (i := 11) rfl (by kernel_rfl) (by kernel_rfl) (by kernel_rfl) (fun _ _ _ h => h) (Or.inl ⟨by rfl, fun w hSw => by (dsimp only at hSw; go_simp; first | done | with_reducible rfl)⟩) hHeld11 ?_
    go_frame
    refine wpAnyH_ready (rs := [12]) (by kernel_rfl) (by simp) (AllReadyH.cons rfl (fun K hK => ?_) AllReadyH.nil)
    go_simp
    refine hK.out _ _ (Hid.out KB14) (fun hHeld13 => ?_)
    clear hK K
    refine wpAnyH_done (by kernel_rfl) ?_ _
    go_wp2
    go_ret
    exact HFIN.out
end Go.Proofs.YtiaopafkfadmkaaGreat.G
