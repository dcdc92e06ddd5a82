/- Joined: the texts that follow, each with its own sentence. -/
import Derived.Test.YtiaopafkfadmkaaGreatZAa
import Derived.Deep.RegionHeld
set_option linter.unusedVariables false
set_option maxRecDepth 100000
namespace Go.Proofs.YtiaopafkfadmkaaGreat.A
open Go.Proofs.YtiaopafkfadmkaaGreat.B
open Go.RowKit Go.Shelf Go.Sort
theorem cmp_le (a b : K) : kcmp a b ≤ 0 ↔ klt b a = false := by
 have := kcmp_pos a b
 cases h : klt b a
 ·rw [h] at this
  simp at this
  simpa using this
 ·rw [h] at this
  simp at this
  simp
  omega
theorem cmp_neg (a b : Int) : cmpI a b < 0 ↔ a < b := by
 unfold cmpI
 split
 ·simp; assumption
 ·split
  ·simp; omega
  ·simp; omega
theorem SrtP.push {L : List P} {e : P} (h : SrtP L) (hl : ¬ (0 < L.length ∧ klt (nthP L (L.length - 1)).m.1 e.m.1 = false)) : SrtP (L ++ [e]) := by
 refine List.pairwise_append.2 ⟨h, List.pairwise_singleton _ _, fun x hx y hy => ?_⟩
 obtain rfl : y = e := by simpa using hy
 obtain ⟨i, hi, rfl⟩ := List.mem_iff_getElem.1 hx
 have hlast : klt (nthP L (L.length - 1)).m.1 y.m.1 = true := by
  cases e : klt (nthP L (L.length - 1)).m.1 y.m.1
  ·exact absurd ⟨by omega, e⟩ hl
  ·rfl
 have e1 : L[i] = nthP L i := by simp [nthP, hi]
 rw [e1]
 rcases Nat.lt_or_ge i (L.length - 1) with g | g
 ·exact klt_trans (srt_lt h g (by omega)) hlast
 ·obtain rfl : i = L.length - 1 := by omega
  exact hlast
def PushP (X : Nat → Prop) (w : World) (fl : Int) (L : List P) (b : Nat) (v : Value) (p : P) (e : Ending) (w' : World) : Prop :=
 ∃ v', e = .returned (.int .i64 (pushE fl L p)) ∧ PP X w' fl (pushL fl L p) b v' ∧ Mw (D b v) (D b v') w w'
theorem push_no {X : Nat → Prop} {w w' : World} {fl : Int} {L : List P} {b : Nat} {v : Value} {p : P} {c : Int} (h : PP X w fl L b v) (hb : Below w.heap.size w w') (hc : pushE fl L p = c) (hn : c ≠ 0) : PushP X w fl L b v p (.returned (.int .i64 c)) w' := by
 refine ⟨v, by rw [hc], ?_, Mw.below hb⟩
 unfold pushL
 rw [if_neg (by rw [hc]; exact hn)]
 exact h.below hb
theorem push_fin {X : Nat → Prop} {w w8 : World} {fl : Int} {l : List E} {b : Nat} {a : Option Addr} {c : Nat} (hq : PQ X w fl l b (.slice a l.length c)) (hb : Below w.heap.size w w8) {x : E} (hx : Out (fun k => w.heap.size ≤ k) w8 x) (hc : pushE fl (l.map E.p) x.p = 0) (hs : SrtP (l.map E.p)) :
  ∃ a' c' w13, (Builtin.append_ #[135, 135] 135 #[.slice a l.length c, .slice (some ⟨w8.heap.size, 0, none⟩) 1 1]).run Tryz.prog (w8.alloc (.cells (ecs x) 126)) = .ok (.slice a' (l.length + 1) c') w13 ∧
   PushP X w fl (l.map E.p) b (.slice a l.length c) x.p (.returned (.int .i64 0)) (w13.setCell ⟨b, 0, none⟩ (.slice a' (l.length + 1) c')) ∧ ∀ k, k < w8.heap.size → (Value.slice a l.length c).ownBlock ≠ some k → w13.heap[k]? = w8.heap[k]? := by
 have hA := al w8 (.cells (ecs x) 126)
 obtain ⟨wA, hwA⟩ : ∃ wA, wA = w8.alloc (.cells (ecs x) 126) := ⟨_, rfl⟩
 have hrn : RdN cE (fun _ => True) wA (some ⟨w8.heap.size, 0, none⟩) [x] := by rw [hwA]; exact RdN.new cE w8 x _ _ rfl trivial
 rw [← hwA] at hA ⊢
 have hbA := Below.on hb hA
 have hqA := hq.below hbA
 obtain ⟨a', c', w13, hr, ho, hm⟩ := append_R (c := 1) tyE hqA.row hrn (by have := hq.cap; omega) (by simp) 135 (l ++ [x]) rfl
 have hlen : (l ++ [x]).length = l.length + 1 := by simp
 rw [hlen] at hr ho hm
 have hce : pushE fl (l.map E.p) x.p = 0 := hc
 unfold pushE at hc
 split at hc
 ·simp at hc
 split at hc
 ·simp at hc
 split at hc
 ·simp at hc
 rename_i h1 h2 h3
 rw [List.length_map] at h3
 obtain ⟨hp, hM⟩ := hqA.put hm ho (fun y hy => by
  rcases List.mem_append.1 hy with g | g
  ·exact (hqA.outs y g).move hm
  ·obtain rfl : y = x := by simpa using g
   refine (hx.below hA).keep hm.fr (fun k hk g => ?_)
   have no : ¬ D b (.slice a l.length c) k := fun d => by have := hq.dlt d; omega
   refine ⟨fun e => no (Or.inr e), fun e => ?_, fun e => ?_⟩
   ·have := hq.xl k e; omega
   ·rcases e with e | e
    ·exact no (Or.inl e)
    ·exact no (Or.inr (hm.new k hk e))) (by rw [hlen]; omega)
 refine ⟨a', c', w13, by simpa using hr, ⟨_, by rw [hce], ?_, (Mw.below hbA).trans hM⟩, fun k hk hn => ?_⟩
 ·unfold pushL
  rw [if_pos hce]
  exact ⟨l ++ [x], by simp, hp, hs.push (by simpa using h2)⟩
 ·exact (hm.fr.block k (Nat.lt_of_lt_of_le hk hA.size) hn).trans (hA.block k hk)
theorem push_finN {X : Nat → Prop} {w w8 : World} {fl : Int} {l : List E} {b n : Nat} {a : Option Addr} {c : Nat} (hn : l.length = n) (hq : PQ X w fl l b (.slice a n c)) (hb : Below w.heap.size w w8) {x : E} (hx : Out (fun k => w.heap.size ≤ k) w8 x) (hc : pushE fl (l.map E.p) x.p = 0) (hs : SrtP (l.map E.p)) :
  ∃ a' c' w13, (Builtin.append_ #[135, 135] 135 #[.slice a n c, .slice (some ⟨w8.heap.size, 0, none⟩) 1 1]).run Tryz.prog (w8.alloc (.cells (ecs x) 126)) = .ok (.slice a' (n + 1) c') w13 ∧
   PushP X w fl (l.map E.p) b (.slice a n c) x.p (.returned (.int .i64 0)) (w13.setCell ⟨b, 0, none⟩ (.slice a' (n + 1) c')) ∧ ∀ k, k < w8.heap.size → (Value.slice a n c).ownBlock ≠ some k → w13.heap[k]? = w8.heap[k]? := by
 subst hn
 exact push_fin hq hb hx hc hs
set_option maxHeartbeats 2000000 in
theorem push_any {X N : Nat → Prop} {w : World} {fl : Int} {L : List P} {b : Nat} {v : Value} (h : PP X w fl L b v) {x : E} (ho : Out N w x) :
  Calls Tryz.prog 66 #[.pointer (some ⟨b, 0, none⟩), ev x] w (PushP X w fl L b v x.p) := by
 have mixed : Tryz.prog.follows .mixedOrders = true := by kernel_rfl
 have HH : PP X w fl L b v := h
 obtain ⟨l, rfl, hq, hs⟩ := h
 obtain ⟨a, c, rfl, _⟩ := hq.row.rd (N := fun _ => True) (fun _ _ => trivial)
 obtain ⟨n, hn⟩ : ∃ n, l.length = n := ⟨_, rfl⟩
 rw [hn] at hq HH ⊢
 have HNL : Hid (l.length = n) := hn
 obtain ⟨⟨⟨⟨y1, y2, y3⟩, y4, y5, y6⟩, y7, y8, y9, yos⟩, yoa, yoc⟩ := x
 obtain ⟨p, hp⟩ : ∃ p : P, p = ⟨((y1, y2, y3), y4, y5, y6), y7, y8, y9, yos⟩ := ⟨_, rfl⟩
 obtain ⟨m, hm⟩ : ∃ m, yos.length = m := ⟨_, rfl⟩
 obtain ⟨w1, hw1⟩ : ∃ w1, w1 = w.alloc (.cells #[.int .i64 y1, .int .i64 y2, .int .i64 y3, .int .i64 y4, .int .i64 y5, .int .i64 y6, .int .i64 y7, .int .i64 y8, .int .i64 y9, .slice yoa m yoc] 126) := ⟨_, rfl⟩
 have hb1 : Below w.heap.size w w1 := by rw [hw1]; exact al _ _
 obtain ⟨B, hB⟩ : ∃ B, w.heap.size = B := ⟨_, rfl⟩
 have B0 : w1.heap[B]? = some (.cells #[.int .i64 y1, .int .i64 y2, .int .i64 y3, .int .i64 y4, .int .i64 y5, .int .i64 y6, .int .i64 y7, .int .i64 y8, .int .i64 y9, .slice yoa m yoc] 126) := by rw [hw1, ← hB]; exact newB _ _
 have hq1 := hq.below hb1
 have HRD : Hid (∀ W, Below w1.heap.size w1 W → (W.cell? ⟨b, 0, none⟩ = some (.slice a n c) ∧ W.cell? ⟨b, 1, none⟩ = some (.int .i64 fl)) ∧ (W.cell? ⟨B, 0, none⟩ = some (.int .i64 y1) ∧ W.cell? ⟨B, 1, none⟩ = some (.int .i64 y2) ∧ W.cell? ⟨B, 2, none⟩ = some (.int .i64 y3) ∧ W.cell? ⟨B, 3, none⟩ = some (.int .i64 y4) ∧ W.cell? ⟨B, 4, none⟩ = some (.int .i64 y5) ∧ W.cell? ⟨B, 5, none⟩ = some (.int .i64 y6) ∧ W.cell? ⟨B, 6, none⟩ = some (.int .i64 y7) ∧ W.cell? ⟨B, 7, none⟩ = some (.int .i64 y8) ∧ W.cell? ⟨B, 8, none⟩ = some (.int .i64 y9) ∧ W.cell? ⟨B, 9, none⟩ = some (.slice yoa m yoc))) := fun W hW => by
  have B := (hW.block B (Array.getElem?_eq_some_iff.1 B0).1).trans B0
  exact ⟨⟨(hq1.below hW).c0, (hq1.below hW).c1⟩, cellB B 0, cellB B 1, cellB B 2, cellB B 3, cellB B 4, cellB B 5, cellB B 6, cellB B 7, cellB B 8, cellB B 9⟩
 have HNO : Hid (∀ {W : World} {k : Int}, Below w1.heap.size w1 W → pushE fl (l.map E.p) p = k → k ≠ 0 → PushP X w fl (l.map E.p) b (.slice a n c) p (.returned (.int .i64 k)) W) := fun hW he hk => push_no HH (Below.on hb1 hW) he hk
 have ST : ∀ W, Calls Tryz.prog 115 #[.agg #[.int .i64 y1, .int .i64 y2, .int .i64 y3, .int .i64 y4, .int .i64 y5, .int .i64 y6, .int .i64 y7, .int .i64 y8, .int .i64 y9, .slice yoa m yoc], .int .i64 fl] W fun e w' => e = .returned (.int .i64 (cmpI y1 fl)) ∧ Below W.heap.size W w' := fun W => by
  rw [← hm]
  exact (side_time ⟨⟨((y1, y2, y3), y4, y5, y6), y7, y8, y9, yos⟩, yoa, yoc⟩ fl W).mono fun e w' ⟨he, q, os, hw⟩ => ⟨he, by rw [hw]; exact below_grow _ _ _⟩
 obtain ⟨r, hr⟩ : ∃ r, cmpI y1 fl = r := ⟨_, rfl⟩
 have hrn := cmp_neg y1 fl
 rw [hr] at hrn
 have HST : Hid (Calls Tryz.prog 115 #[.agg #[.int .i64 y1, .int .i64 y2, .int .i64 y3, .int .i64 y4, .int .i64 y5, .int .i64 y6, .int .i64 y7, .int .i64 y8, .int .i64 y9, .slice yoa m yoc], .int .i64 fl] w1.drew fun e w' => e = .returned (.int .i64 r) ∧ Below w1.heap.size w1 w') := by
  have h1 := ST w1.drew
  rw [hr] at h1
  exact h1.mono fun e w' ⟨he, hb⟩ => ⟨he, ⟨hb.os, hb.tape, hb.output, hb.size, hb.block⟩⟩
 obtain ⟨⟨x0, x1⟩, z0, z1, z2, z3, z4, z5, z6, z7, z8, z9⟩ := HRD.out w1 (Below.refl _ _)
 have hpe : pushE fl (l.map E.p) p = if y1 < fl then 110 else if 0 < n ∧ klt (nth cE l (n - 1)).p.m.1 (y1, y2, y3) = false then 130 else if 64 ≤ n then 2 else 0 := by
  unfold pushE
  rw [List.length_map, nthP_map, hp, hn]
 have HOX : Hid (Out N w ⟨p, yoa, yoc⟩) := by rw [hp]; exact ho
 have HW : Hid (w1 = w.alloc (.cells #[.int .i64 y1, .int .i64 y2, .int .i64 y3, .int .i64 y4, .int .i64 y5, .int .i64 y6, .int .i64 y7, .int .i64 y8, .int .i64 y9, .slice yoa m yoc] 126)) := hw1
 have HQ : Hid (PQ X w fl l b (.slice a n c)) := hq
 have HS : Hid (SrtP (l.map E.p)) := hs
 have HB1 : Hid (Below w.heap.size w w1) := hb1
 have HM : Hid (yos.length = m) := hm
 have HPP : Hid (p = ⟨((y1, y2, y3), y4, y5, y6), y7, y8, y9, yos⟩) := hp
 have hcap : n ≤ 64 := by rw [← hn]; exact hq.cap
 have lb : b < w1.heap.size := hq1.lt
 have lB : B < w1.heap.size := (Array.getElem?_eq_some_iff.1 B0).1
 have hbB : b ≠ B := by have := hq.lt; omega
 have HBB : Hid (w.heap.size = B) := hB
 dsimp only [ev]
 rw [hm, ← hp]
 clear hn HH ST hr hb1 B0 hq1 hq hs hm hp ho hw1
 clear hB
 have HCPF : Hid (∀ w3, Below w1.heap.size w1 w3 → pushE fl (l.map E.p) p = 0 → Calls Tryz.prog 117 #[.agg #[.int .i64 y1, .int .i64 y2, .int .i64 y3, .int .i64 y4, .int .i64 y5, .int .i64 y6, .int .i64 y7, .int .i64 y8, .int .i64 y9, .slice yoa m yoc]] w3.drew fun e w8 => ∃ oa2 oc2, e = .returned (.agg #[.int .i64 y1, .int .i64 y2, .int .i64 y3, .int .i64 y4, .int .i64 y5, .int .i64 y6, .int .i64 y7, .int .i64 y8, .int .i64 y9, .slice oa2 m oc2]) ∧ w8.cell? ⟨b, 0, none⟩ = some (.slice a n c) ∧ (w8.cell? ⟨B, 0, none⟩ = some (.int .i64 y1) ∧ w8.cell? ⟨B, 1, none⟩ = some (.int .i64 y2) ∧ w8.cell? ⟨B, 2, none⟩ = some (.int .i64 y3) ∧ w8.cell? ⟨B, 3, none⟩ = some (.int .i64 y4) ∧ w8.cell? ⟨B, 4, none⟩ = some (.int .i64 y5) ∧ w8.cell? ⟨B, 5, none⟩ = some (.int .i64 y6) ∧ w8.cell? ⟨B, 6, none⟩ = some (.int .i64 y7) ∧ w8.cell? ⟨B, 7, none⟩ = some (.int .i64 y8) ∧ w8.cell? ⟨B, 8, none⟩ = some (.int .i64 y9) ∧ w8.cell? ⟨B, 9, none⟩ = some (.slice yoa m yoc)) ∧ b < w8.heap.size ∧ B < w8.heap.size ∧ ∃ a' c' w13, (Builtin.append_ #[135, 135] 135 #[.slice a n c, .slice (some ⟨w8.heap.size, 0, none⟩) 1 1]).run Tryz.prog (w8.alloc (.cells #[.int .i64 y1, .int .i64 y2, .int .i64 y3, .int .i64 y4, .int .i64 y5, .int .i64 y6, .int .i64 y7, .int .i64 y8, .int .i64 y9, .slice oa2 m oc2] 126)) = .ok (.slice a' (n + 1) c') w13 ∧ w13.cell? ⟨b, 0, none⟩ = some (.slice a n c) ∧ w13.frozen? ⟨b, 0, none⟩ = false ∧ (w13.cell? ⟨B, 0, none⟩ = some (.int .i64 y1) ∧ w13.cell? ⟨B, 1, none⟩ = some (.int .i64 y2) ∧ w13.cell? ⟨B, 2, none⟩ = some (.int .i64 y3) ∧ w13.cell? ⟨B, 3, none⟩ = some (.int .i64 y4) ∧ w13.cell? ⟨B, 4, none⟩ = some (.int .i64 y5) ∧ w13.cell? ⟨B, 5, none⟩ = some (.int .i64 y6) ∧ w13.cell? ⟨B, 6, none⟩ = some (.int .i64 y7) ∧ w13.cell? ⟨B, 7, none⟩ = some (.int .i64 y8) ∧ w13.cell? ⟨B, 8, none⟩ = some (.int .i64 y9) ∧ w13.cell? ⟨B, 9, none⟩ = some (.slice yoa m yoc)) ∧ PushP X w fl (l.map E.p) b (.slice a n c) p (.returned (.int .i64 0)) (w13.setCell ⟨b, 0, none⟩ (.slice a' (n + 1) c'))) := fun w3 hb3 hz => by
  have hbd : Below w1.heap.size w1 w3.drew := hb3.drew
  have hc := copied_any (HOX.out.below (Below.on HB1.out hbd))
  have e1 : ev ⟨p, yoa, yoc⟩ = .agg #[.int .i64 y1, .int .i64 y2, .int .i64 y3, .int .i64 y4, .int .i64 y5, .int .i64 y6, .int .i64 y7, .int .i64 y8, .int .i64 y9, .slice yoa m yoc] := by rw [HPP.out]; dsimp only [ev]; rw [HM.out]
  rw [e1] at hc
  refine hc.mono fun e w8 ⟨oa2, oc2, he, ho8, hb8⟩ => ⟨oa2, oc2, ?_, ?_⟩
  ·rw [he, HPP.out]
   dsimp only [ev]
   rw [HM.out]
  ·have hb8' : Below w1.heap.size w1 w8 := Below.on hbd hb8
   have hbw : Below w.heap.size w w8 := Below.on HB1.out hb8'
   have g8 := HRD.out w8 hb8'
   have q8 := HQ.out.below hbw
   obtain ⟨a', c', w13, hrun, hfin, hblk⟩ := push_finN HNL.out HQ.out hbw (x := ⟨p, oa2, oc2⟩) (ho8.wide (fun k _ e => Nat.le_trans (Below.on HB1.out hbd).size e)) hz HS.out
   have hB8 : B < w8.heap.size := Nat.lt_of_lt_of_le lB hb8'.size
   have nB : (Value.slice a n c).ownBlock ≠ some B := fun e => by have := HQ.out.row.lt e; rw [HBB.out] at this; omega
   have kB := hblk B hB8 nB
   have kb := hblk b q8.lt HQ.out.nb
   have cB : ∀ i, w13.cell? ⟨B, i, none⟩ = w8.cell? ⟨B, i, none⟩ := fun i => World.cell?_of_block kB
   have cb : ∀ i, w13.cell? ⟨b, i, none⟩ = w8.cell? ⟨b, i, none⟩ := fun i => World.cell?_of_block kb
   have e2 : ecs ⟨p, oa2, oc2⟩ = #[.int .i64 y1, .int .i64 y2, .int .i64 y3, .int .i64 y4, .int .i64 y5, .int .i64 y6, .int .i64 y7, .int .i64 y8, .int .i64 y9, .slice oa2 m oc2] := by rw [HPP.out]; dsimp only [ecs]; rw [HM.out]
   rw [e2] at hrun
   refine ⟨g8.1.1, g8.2, q8.lt, hB8, a', c', w13, hrun, (cb 0).trans g8.1.1, (World.frozen?_of_block kb).trans (q8.froz 0), ?_, hfin⟩
   rw [cB 0, cB 1, cB 2, cB 3, cB 4, cB 5, cB 6, cB 7, cB 8, cB 9]
   exact g8.2
 by_cases c1 : y1 < fl
 ·have hr0 : r < 0 := hrn.2 c1
  rw [if_pos c1] at hpe
  have HPE : Hid _ := hpe
  clear hpe hrn
  go_enter Tryz.func66, Tryz.ntmps66
  go_wp2_with fail
  rw [← HW.out]
  simp only [HBB.out]
  go_region_held3 (fun w' => (w'.cell? ⟨b, 1, none⟩ = some (.int .i64 fl)) ∧ w'.cell? ⟨B, 0, none⟩ = some (.int .i64 y1) ∧ w'.cell? ⟨B, 1, none⟩ = some (.int .i64 y2) ∧ w'.cell? ⟨B, 2, none⟩ = some (.int .i64 y3) ∧ w'.cell? ⟨B, 3, none⟩ = some (.int .i64 y4) ∧ w'.cell? ⟨B, 4, none⟩ = some (.int .i64 y5) ∧ w'.cell? ⟨B, 5, none⟩ = some (.int .i64 y6) ∧ w'.cell? ⟨B, 6, none⟩ = some (.int .i64 y7) ∧ w'.cell? ⟨B, 7, none⟩ = some (.int .i64 y8) ∧ w'.cell? ⟨B, 8, none⟩ = some (.int .i64 y9) ∧ w'.cell? ⟨B, 9, none⟩ = some (.slice yoa m yoc)) (first | (go_keep; done) | exact Hid.out KEEP) (first
  | (go_at_call 115; refine (Hid.out HST).mono ?_; rintro e w2 ⟨rfl, hb2⟩; have HB2 : Hid (Below w1.heap.size w1 w2) := hb2; have HC2 := Hid.out HRD _ hb2; have KEEP : Hid ((w2.cell? ⟨b, 1, none⟩ = some (.int .i64 fl)) ∧ w2.cell? ⟨B, 0, none⟩ = some (.int .i64 y1) ∧ w2.cell? ⟨B, 1, none⟩ = some (.int .i64 y2) ∧ w2.cell? ⟨B, 2, none⟩ = some (.int .i64 y3) ∧ w2.cell? ⟨B, 3, none⟩ = some (.int .i64 y4) ∧ w2.cell? ⟨B, 4, none⟩ = some (.int .i64 y5) ∧ w2.cell? ⟨B, 5, none⟩ = some (.int .i64 y6) ∧ w2.cell? ⟨B, 6, none⟩ = some (.int .i64 y7) ∧ w2.cell? ⟨B, 7, none⟩ = some (.int .i64 y8) ∧ w2.cell? ⟨B, 8, none⟩ = some (.int .i64 y9) ∧ w2.cell? ⟨B, 9, none⟩ = some (.slice yoa m yoc)) := ⟨HC2.1.2, HC2.2⟩; have k00 := HC2.1.1; clear hb2 HST HC2))
  go_wp2
  go_ret
  exact HNO.out HB2.out HPE.out (by decide)
 ·have hr0 : ¬ r < 0 := fun e => c1 (hrn.1 e)
  rw [if_neg c1] at hpe
  clear hrn c1
  by_cases c2 : 0 < n
  ·obtain ⟨j, hj⟩ : ∃ j, n = j + 1 := ⟨n - 1, by omega⟩
   obtain ⟨x', hx'⟩ : ∃ x', nth cE l j = x' := ⟨_, rfl⟩
   have hj1 : n - 1 = j := by omega
   rw [hj1, hx'] at hpe
   obtain ⟨g, rfl, hgl, _⟩ := HQ.out.row.entry (i := j) (by rw [HNL.out]; omega) hx'
   obtain ⟨k1, k2, k3, hk⟩ : ∃ k1 k2 k3, x'.p.m.1 = (k1, k2, k3) := ⟨_, _, _, rfl⟩
   rw [hk] at hpe
   have HRL : Hid (∀ W, Below w1.heap.size w1 W → W.cell? ⟨g, j * 10, none⟩ = some (.int .i64 k1) ∧ W.cell? ⟨g, j * 10 + 1, none⟩ = some (.int .i64 k2) ∧ W.cell? ⟨g, j * 10 + 2, none⟩ = some (.int .i64 k3)) := fun W hW => by
    obtain ⟨g', e, _, u0, u1, u2, _⟩ := (HQ.out.row.below (Below.on HB1.out hW)).entry (i := j) (by rw [HNL.out]; omega) hx'
    simp at e
    subst e
    rw [hk] at u0 u1 u2
    exact ⟨u0, u1, u2⟩
   obtain ⟨r2, hr2⟩ : ∃ r2, kcmp (y1, y2, y3) (k1, k2, k3) = r2 := ⟨_, rfl⟩
   have hle := cmp_le (y1, y2, y3) (k1, k2, k3)
   rw [hr2] at hle
   have HSK : Hid (∀ W, Below w1.heap.size w1 W → Calls Tryz.prog 116 #[.agg #[.int .i64 y1, .int .i64 y2, .int .i64 y3, .int .i64 y4, .int .i64 y5, .int .i64 y6, .int .i64 y7, .int .i64 y8, .int .i64 y9, .slice yoa m yoc], .agg #[.int .i64 k1, .int .i64 k2, .int .i64 k3]] W.drew fun e w' => e = .returned (.int .i64 r2) ∧ Below w1.heap.size w1 w') := fun W hW => by
    have h1 := side_key ⟨⟨((y1, y2, y3), y4, y5, y6), y7, y8, y9, yos⟩, yoa, yoc⟩ (k1, k2, k3) W.drew
    dsimp only [ev, kv] at h1
    rw [hr2, HM.out] at h1
    exact h1.mono fun e w' ⟨he, q, os, hw⟩ => ⟨he, by rw [hw]; exact Below.on hW.drew (below_grow _ _ _)⟩
   have e1 : (n : Int) - 1 = (j : Int) := by omega
   have e2 : IntKind.i64.wrap ((n : Int) - 1) = (j : Int) := by rw [e1]; exact wrapN j (by omega)
   have e3 : IntKind.i64.wrap (j : Int) = (j : Int) := wrapN j (by omega)
   have e4 : (0 : Int) ≤ (j : Int) := by omega
   have e5 : (j : Int) < (n : Int) := by omega
   have hd : decide ((0 : Int) < (n : Int)) = true := by simp; omega
   have hd2 : (0 : Int) < (n : Int) := by omega
   have hd3 : decide (0 < n) = true := by simpa using c2
   have lg : g < w1.heap.size := Nat.lt_of_lt_of_le hgl HB1.out.size
   by_cases c3 : r2 ≤ 0
   ·rw [if_pos ⟨c2, hle.1 c3⟩] at hpe
    have HPE : Hid (pushE fl (l.map E.p) p = 130) := hpe
    clear hpe hle hr2 hx' hk hj hj1 hgl c2
    go_enter Tryz.func66, Tryz.ntmps66
    go_wp2_with fail
    rw [← HW.out]
    simp only [HBB.out]
    go_region_held3 (fun w' => (w'.cell? ⟨b, 1, none⟩ = some (.int .i64 fl)) ∧ w'.cell? ⟨B, 0, none⟩ = some (.int .i64 y1) ∧ w'.cell? ⟨B, 1, none⟩ = some (.int .i64 y2) ∧ w'.cell? ⟨B, 2, none⟩ = some (.int .i64 y3) ∧ w'.cell? ⟨B, 3, none⟩ = some (.int .i64 y4) ∧ w'.cell? ⟨B, 4, none⟩ = some (.int .i64 y5) ∧ w'.cell? ⟨B, 5, none⟩ = some (.int .i64 y6) ∧ w'.cell? ⟨B, 6, none⟩ = some (.int .i64 y7) ∧ w'.cell? ⟨B, 7, none⟩ = some (.int .i64 y8) ∧ w'.cell? ⟨B, 8, none⟩ = some (.int .i64 y9) ∧ w'.cell? ⟨B, 9, none⟩ = some (.slice yoa m yoc)) (first | (go_keep; done) | exact Hid.out KEEP) (first
  | (go_at_call 115; refine (Hid.out HST).mono ?_; rintro e w2 ⟨rfl, hb2⟩; have HB2 : Hid (Below w1.heap.size w1 w2) := hb2; have HC2 := Hid.out HRD _ hb2; have KEEP : Hid ((w2.cell? ⟨b, 1, none⟩ = some (.int .i64 fl)) ∧ w2.cell? ⟨B, 0, none⟩ = some (.int .i64 y1) ∧ w2.cell? ⟨B, 1, none⟩ = some (.int .i64 y2) ∧ w2.cell? ⟨B, 2, none⟩ = some (.int .i64 y3) ∧ w2.cell? ⟨B, 3, none⟩ = some (.int .i64 y4) ∧ w2.cell? ⟨B, 4, none⟩ = some (.int .i64 y5) ∧ w2.cell? ⟨B, 5, none⟩ = some (.int .i64 y6) ∧ w2.cell? ⟨B, 6, none⟩ = some (.int .i64 y7) ∧ w2.cell? ⟨B, 7, none⟩ = some (.int .i64 y8) ∧ w2.cell? ⟨B, 8, none⟩ = some (.int .i64 y9) ∧ w2.cell? ⟨B, 9, none⟩ = some (.slice yoa m yoc)) := ⟨HC2.1.2, HC2.2⟩; have k00 := HC2.1.1; clear hb2 HST HC2))
    go_wp2_with fail
    have KEEP2 : Hid ((w2.cell? ⟨b, 0, none⟩ = some (.slice (some ⟨g, 0, none⟩) n c)) ∧ (w2.cell? ⟨g, j * 10, none⟩ = some (.int .i64 k1) ∧ w2.cell? ⟨g, j * 10 + 1, none⟩ = some (.int .i64 k2) ∧ w2.cell? ⟨g, j * 10 + 2, none⟩ = some (.int .i64 k3)) ∧ w2.cell? ⟨B, 0, none⟩ = some (.int .i64 y1) ∧ w2.cell? ⟨B, 1, none⟩ = some (.int .i64 y2) ∧ w2.cell? ⟨B, 2, none⟩ = some (.int .i64 y3) ∧ w2.cell? ⟨B, 3, none⟩ = some (.int .i64 y4) ∧ w2.cell? ⟨B, 4, none⟩ = some (.int .i64 y5) ∧ w2.cell? ⟨B, 5, none⟩ = some (.int .i64 y6) ∧ w2.cell? ⟨B, 6, none⟩ = some (.int .i64 y7) ∧ w2.cell? ⟨B, 7, none⟩ = some (.int .i64 y8) ∧ w2.cell? ⟨B, 8, none⟩ = some (.int .i64 y9) ∧ w2.cell? ⟨B, 9, none⟩ = some (.slice yoa m yoc)) := ⟨(HRD.out _ HB2.out).1.1, HRL.out _ HB2.out, (HRD.out _ HB2.out).2⟩
    go_region_held3 (fun w' => (w'.cell? ⟨b, 0, none⟩ = some (.slice (some ⟨g, 0, none⟩) n c)) ∧ (w'.cell? ⟨g, j * 10, none⟩ = some (.int .i64 k1) ∧ w'.cell? ⟨g, j * 10 + 1, none⟩ = some (.int .i64 k2) ∧ w'.cell? ⟨g, j * 10 + 2, none⟩ = some (.int .i64 k3)) ∧ w'.cell? ⟨B, 0, none⟩ = some (.int .i64 y1) ∧ w'.cell? ⟨B, 1, none⟩ = some (.int .i64 y2) ∧ w'.cell? ⟨B, 2, none⟩ = some (.int .i64 y3) ∧ w'.cell? ⟨B, 3, none⟩ = some (.int .i64 y4) ∧ w'.cell? ⟨B, 4, none⟩ = some (.int .i64 y5) ∧ w'.cell? ⟨B, 5, none⟩ = some (.int .i64 y6) ∧ w'.cell? ⟨B, 6, none⟩ = some (.int .i64 y7) ∧ w'.cell? ⟨B, 7, none⟩ = some (.int .i64 y8) ∧ w'.cell? ⟨B, 8, none⟩ = some (.int .i64 y9) ∧ w'.cell? ⟨B, 9, none⟩ = some (.slice yoa m yoc)) (first | (go_keep; done) | exact Hid.out KEEP2 | exact Hid.out KEEP3) (first
  | (go_at_call 116; refine (Hid.out HSK _ (Hid.out HB2)).mono ?_; rintro e w3 ⟨rfl, hb3⟩; have HB3 : Hid (Below w1.heap.size w1 w3) := hb3; have KEEP3 : Hid ((w3.cell? ⟨b, 0, none⟩ = some (.slice (some ⟨g, 0, none⟩) n c)) ∧ (w3.cell? ⟨g, j * 10, none⟩ = some (.int .i64 k1) ∧ w3.cell? ⟨g, j * 10 + 1, none⟩ = some (.int .i64 k2) ∧ w3.cell? ⟨g, j * 10 + 2, none⟩ = some (.int .i64 k3)) ∧ w3.cell? ⟨B, 0, none⟩ = some (.int .i64 y1) ∧ w3.cell? ⟨B, 1, none⟩ = some (.int .i64 y2) ∧ w3.cell? ⟨B, 2, none⟩ = some (.int .i64 y3) ∧ w3.cell? ⟨B, 3, none⟩ = some (.int .i64 y4) ∧ w3.cell? ⟨B, 4, none⟩ = some (.int .i64 y5) ∧ w3.cell? ⟨B, 5, none⟩ = some (.int .i64 y6) ∧ w3.cell? ⟨B, 6, none⟩ = some (.int .i64 y7) ∧ w3.cell? ⟨B, 7, none⟩ = some (.int .i64 y8) ∧ w3.cell? ⟨B, 8, none⟩ = some (.int .i64 y9) ∧ w3.cell? ⟨B, 9, none⟩ = some (.slice yoa m yoc)) := ⟨(Hid.out HRD _ hb3).1.1, Hid.out HRL _ hb3, (Hid.out HRD _ hb3).2⟩; clear hb3))
    go_wp2
    go_ret
    exact HNO.out HB3.out HPE.out (by decide)
   ·rw [if_neg (fun e => c3 (hle.2 e.2))] at hpe
    by_cases c4 : 64 ≤ n
    ·rw [if_pos c4] at hpe
     have HPE : Hid (pushE fl (l.map E.p) p = 2) := hpe
     have c4' : (64 : Int) ≤ (n : Int) := by omega
     clear hpe hle hr2 hx' hk hj hj1 hgl c2
     go_enter Tryz.func66, Tryz.ntmps66
     go_wp2_with fail
     rw [← HW.out]
     simp only [HBB.out]
     go_region_held3 (fun w' => (w'.cell? ⟨b, 1, none⟩ = some (.int .i64 fl)) ∧ w'.cell? ⟨B, 0, none⟩ = some (.int .i64 y1) ∧ w'.cell? ⟨B, 1, none⟩ = some (.int .i64 y2) ∧ w'.cell? ⟨B, 2, none⟩ = some (.int .i64 y3) ∧ w'.cell? ⟨B, 3, none⟩ = some (.int .i64 y4) ∧ w'.cell? ⟨B, 4, none⟩ = some (.int .i64 y5) ∧ w'.cell? ⟨B, 5, none⟩ = some (.int .i64 y6) ∧ w'.cell? ⟨B, 6, none⟩ = some (.int .i64 y7) ∧ w'.cell? ⟨B, 7, none⟩ = some (.int .i64 y8) ∧ w'.cell? ⟨B, 8, none⟩ = some (.int .i64 y9) ∧ w'.cell? ⟨B, 9, none⟩ = some (.slice yoa m yoc)) (first | (go_keep; done) | exact Hid.out KEEP) (first
  | (go_at_call 115; refine (Hid.out HST).mono ?_; rintro e w2 ⟨rfl, hb2⟩; have HB2 : Hid (Below w1.heap.size w1 w2) := hb2; have HC2 := Hid.out HRD _ hb2; have KEEP : Hid ((w2.cell? ⟨b, 1, none⟩ = some (.int .i64 fl)) ∧ w2.cell? ⟨B, 0, none⟩ = some (.int .i64 y1) ∧ w2.cell? ⟨B, 1, none⟩ = some (.int .i64 y2) ∧ w2.cell? ⟨B, 2, none⟩ = some (.int .i64 y3) ∧ w2.cell? ⟨B, 3, none⟩ = some (.int .i64 y4) ∧ w2.cell? ⟨B, 4, none⟩ = some (.int .i64 y5) ∧ w2.cell? ⟨B, 5, none⟩ = some (.int .i64 y6) ∧ w2.cell? ⟨B, 6, none⟩ = some (.int .i64 y7) ∧ w2.cell? ⟨B, 7, none⟩ = some (.int .i64 y8) ∧ w2.cell? ⟨B, 8, none⟩ = some (.int .i64 y9) ∧ w2.cell? ⟨B, 9, none⟩ = some (.slice yoa m yoc)) := ⟨HC2.1.2, HC2.2⟩; have k00 := HC2.1.1; clear hb2 HST HC2))
     go_wp2_with fail
     have KEEP2 : Hid ((w2.cell? ⟨b, 0, none⟩ = some (.slice (some ⟨g, 0, none⟩) n c)) ∧ (w2.cell? ⟨g, j * 10, none⟩ = some (.int .i64 k1) ∧ w2.cell? ⟨g, j * 10 + 1, none⟩ = some (.int .i64 k2) ∧ w2.cell? ⟨g, j * 10 + 2, none⟩ = some (.int .i64 k3)) ∧ w2.cell? ⟨B, 0, none⟩ = some (.int .i64 y1) ∧ w2.cell? ⟨B, 1, none⟩ = some (.int .i64 y2) ∧ w2.cell? ⟨B, 2, none⟩ = some (.int .i64 y3) ∧ w2.cell? ⟨B, 3, none⟩ = some (.int .i64 y4) ∧ w2.cell? ⟨B, 4, none⟩ = some (.int .i64 y5) ∧ w2.cell? ⟨B, 5, none⟩ = some (.int .i64 y6) ∧ w2.cell? ⟨B, 6, none⟩ = some (.int .i64 y7) ∧ w2.cell? ⟨B, 7, none⟩ = some (.int .i64 y8) ∧ w2.cell? ⟨B, 8, none⟩ = some (.int .i64 y9) ∧ w2.cell? ⟨B, 9, none⟩ = some (.slice yoa m yoc)) := ⟨(HRD.out _ HB2.out).1.1, HRL.out _ HB2.out, (HRD.out _ HB2.out).2⟩
     go_region_held3 (fun w' => (w'.cell? ⟨b, 0, none⟩ = some (.slice (some ⟨g, 0, none⟩) n c)) ∧ (w'.cell? ⟨g, j * 10, none⟩ = some (.int .i64 k1) ∧ w'.cell? ⟨g, j * 10 + 1, none⟩ = some (.int .i64 k2) ∧ w'.cell? ⟨g, j * 10 + 2, none⟩ = some (.int .i64 k3)) ∧ w'.cell? ⟨B, 0, none⟩ = some (.int .i64 y1) ∧ w'.cell? ⟨B, 1, none⟩ = some (.int .i64 y2) ∧ w'.cell? ⟨B, 2, none⟩ = some (.int .i64 y3) ∧ w'.cell? ⟨B, 3, none⟩ = some (.int .i64 y4) ∧ w'.cell? ⟨B, 4, none⟩ = some (.int .i64 y5) ∧ w'.cell? ⟨B, 5, none⟩ = some (.int .i64 y6) ∧ w'.cell? ⟨B, 6, none⟩ = some (.int .i64 y7) ∧ w'.cell? ⟨B, 7, none⟩ = some (.int .i64 y8) ∧ w'.cell? ⟨B, 8, none⟩ = some (.int .i64 y9) ∧ w'.cell? ⟨B, 9, none⟩ = some (.slice yoa m yoc)) (first | (go_keep; done) | exact Hid.out KEEP2 | exact Hid.out KEEP3) (first
  | (go_at_call 116; refine (Hid.out HSK _ (Hid.out HB2)).mono ?_; rintro e w3 ⟨rfl, hb3⟩; have HB3 : Hid (Below w1.heap.size w1 w3) := hb3; have KEEP3 : Hid ((w3.cell? ⟨b, 0, none⟩ = some (.slice (some ⟨g, 0, none⟩) n c)) ∧ (w3.cell? ⟨g, j * 10, none⟩ = some (.int .i64 k1) ∧ w3.cell? ⟨g, j * 10 + 1, none⟩ = some (.int .i64 k2) ∧ w3.cell? ⟨g, j * 10 + 2, none⟩ = some (.int .i64 k3)) ∧ w3.cell? ⟨B, 0, none⟩ = some (.int .i64 y1) ∧ w3.cell? ⟨B, 1, none⟩ = some (.int .i64 y2) ∧ w3.cell? ⟨B, 2, none⟩ = some (.int .i64 y3) ∧ w3.cell? ⟨B, 3, none⟩ = some (.int .i64 y4) ∧ w3.cell? ⟨B, 4, none⟩ = some (.int .i64 y5) ∧ w3.cell? ⟨B, 5, none⟩ = some (.int .i64 y6) ∧ w3.cell? ⟨B, 6, none⟩ = some (.int .i64 y7) ∧ w3.cell? ⟨B, 7, none⟩ = some (.int .i64 y8) ∧ w3.cell? ⟨B, 8, none⟩ = some (.int .i64 y9) ∧ w3.cell? ⟨B, 9, none⟩ = some (.slice yoa m yoc)) := ⟨(Hid.out HRD _ hb3).1.1, Hid.out HRL _ hb3, (Hid.out HRD _ hb3).2⟩; clear hb3))
     go_wp2
     go_ret
     exact HNO.out HB3.out HPE.out (by decide)
    ·rw [if_neg c4] at hpe
     have c4' : ¬ (64 : Int) ≤ (n : Int) := by omega
     have HCPG := HCPF.out
     have HPE : Hid (pushE fl (l.map E.p) p = 0) := hpe
     clear hpe hle hr2 hx' hk hj hj1 hgl c2 HCPG
     go_enter Tryz.func66, Tryz.ntmps66
     go_wp2_with fail
     rw [← HW.out]
     simp only [HBB.out]
     go_region_held3 (fun w' => (w'.cell? ⟨b, 1, none⟩ = some (.int .i64 fl)) ∧ w'.cell? ⟨B, 0, none⟩ = some (.int .i64 y1) ∧ w'.cell? ⟨B, 1, none⟩ = some (.int .i64 y2) ∧ w'.cell? ⟨B, 2, none⟩ = some (.int .i64 y3) ∧ w'.cell? ⟨B, 3, none⟩ = some (.int .i64 y4) ∧ w'.cell? ⟨B, 4, none⟩ = some (.int .i64 y5) ∧ w'.cell? ⟨B, 5, none⟩ = some (.int .i64 y6) ∧ w'.cell? ⟨B, 6, none⟩ = some (.int .i64 y7) ∧ w'.cell? ⟨B, 7, none⟩ = some (.int .i64 y8) ∧ w'.cell? ⟨B, 8, none⟩ = some (.int .i64 y9) ∧ w'.cell? ⟨B, 9, none⟩ = some (.slice yoa m yoc)) (first | (go_keep; done) | exact Hid.out KEEP) (first
  | (go_at_call 115; refine (Hid.out HST).mono ?_; rintro e w2 ⟨rfl, hb2⟩; have HB2 : Hid (Below w1.heap.size w1 w2) := hb2; have HC2 := Hid.out HRD _ hb2; have KEEP : Hid ((w2.cell? ⟨b, 1, none⟩ = some (.int .i64 fl)) ∧ w2.cell? ⟨B, 0, none⟩ = some (.int .i64 y1) ∧ w2.cell? ⟨B, 1, none⟩ = some (.int .i64 y2) ∧ w2.cell? ⟨B, 2, none⟩ = some (.int .i64 y3) ∧ w2.cell? ⟨B, 3, none⟩ = some (.int .i64 y4) ∧ w2.cell? ⟨B, 4, none⟩ = some (.int .i64 y5) ∧ w2.cell? ⟨B, 5, none⟩ = some (.int .i64 y6) ∧ w2.cell? ⟨B, 6, none⟩ = some (.int .i64 y7) ∧ w2.cell? ⟨B, 7, none⟩ = some (.int .i64 y8) ∧ w2.cell? ⟨B, 8, none⟩ = some (.int .i64 y9) ∧ w2.cell? ⟨B, 9, none⟩ = some (.slice yoa m yoc)) := ⟨HC2.1.2, HC2.2⟩; have k00 := HC2.1.1; clear hb2 HST HC2))
     go_wp2_with fail
     have KEEP2 : Hid ((w2.cell? ⟨b, 0, none⟩ = some (.slice (some ⟨g, 0, none⟩) n c)) ∧ (w2.cell? ⟨g, j * 10, none⟩ = some (.int .i64 k1) ∧ w2.cell? ⟨g, j * 10 + 1, none⟩ = some (.int .i64 k2) ∧ w2.cell? ⟨g, j * 10 + 2, none⟩ = some (.int .i64 k3)) ∧ w2.cell? ⟨B, 0, none⟩ = some (.int .i64 y1) ∧ w2.cell? ⟨B, 1, none⟩ = some (.int .i64 y2) ∧ w2.cell? ⟨B, 2, none⟩ = some (.int .i64 y3) ∧ w2.cell? ⟨B, 3, none⟩ = some (.int .i64 y4) ∧ w2.cell? ⟨B, 4, none⟩ = some (.int .i64 y5) ∧ w2.cell? ⟨B, 5, none⟩ = some (.int .i64 y6) ∧ w2.cell? ⟨B, 6, none⟩ = some (.int .i64 y7) ∧ w2.cell? ⟨B, 7, none⟩ = some (.int .i64 y8) ∧ w2.cell? ⟨B, 8, none⟩ = some (.int .i64 y9) ∧ w2.cell? ⟨B, 9, none⟩ = some (.slice yoa m yoc)) := ⟨(HRD.out _ HB2.out).1.1, HRL.out _ HB2.out, (HRD.out _ HB2.out).2⟩
     go_region_held3 (fun w' => (w'.cell? ⟨b, 0, none⟩ = some (.slice (some ⟨g, 0, none⟩) n c)) ∧ (w'.cell? ⟨g, j * 10, none⟩ = some (.int .i64 k1) ∧ w'.cell? ⟨g, j * 10 + 1, none⟩ = some (.int .i64 k2) ∧ w'.cell? ⟨g, j * 10 + 2, none⟩ = some (.int .i64 k3)) ∧ w'.cell? ⟨B, 0, none⟩ = some (.int .i64 y1) ∧ w'.cell? ⟨B, 1, none⟩ = some (.int .i64 y2) ∧ w'.cell? ⟨B, 2, none⟩ = some (.int .i64 y3) ∧ w'.cell? ⟨B, 3, none⟩ = some (.int .i64 y4) ∧ w'.cell? ⟨B, 4, none⟩ = some (.int .i64 y5) ∧ w'.cell? ⟨B, 5, none⟩ = some (.int .i64 y6) ∧ w'.cell? ⟨B, 6, none⟩ = some (.int .i64 y7) ∧ w'.cell? ⟨B, 7, none⟩ = some (.int .i64 y8) ∧ w'.cell? ⟨B, 8, none⟩ = some (.int .i64 y9) ∧ w'.cell? ⟨B, 9, none⟩ = some (.slice yoa m yoc)) (first | (go_keep; done) | exact Hid.out KEEP2 | exact Hid.out KEEP3) (first
  | (go_at_call 116; refine (Hid.out HSK _ (Hid.out HB2)).mono ?_; rintro e w3 ⟨rfl, hb3⟩; have HB3 : Hid (Below w1.heap.size w1 w3) := hb3; have KEEP3 : Hid ((w3.cell? ⟨b, 0, none⟩ = some (.slice (some ⟨g, 0, none⟩) n c)) ∧ (w3.cell? ⟨g, j * 10, none⟩ = some (.int .i64 k1) ∧ w3.cell? ⟨g, j * 10 + 1, none⟩ = some (.int .i64 k2) ∧ w3.cell? ⟨g, j * 10 + 2, none⟩ = some (.int .i64 k3)) ∧ w3.cell? ⟨B, 0, none⟩ = some (.int .i64 y1) ∧ w3.cell? ⟨B, 1, none⟩ = some (.int .i64 y2) ∧ w3.cell? ⟨B, 2, none⟩ = some (.int .i64 y3) ∧ w3.cell? ⟨B, 3, none⟩ = some (.int .i64 y4) ∧ w3.cell? ⟨B, 4, none⟩ = some (.int .i64 y5) ∧ w3.cell? ⟨B, 5, none⟩ = some (.int .i64 y6) ∧ w3.cell? ⟨B, 6, none⟩ = some (.int .i64 y7) ∧ w3.cell? ⟨B, 7, none⟩ = some (.int .i64 y8) ∧ w3.cell? ⟨B, 8, none⟩ = some (.int .i64 y9) ∧ w3.cell? ⟨B, 9, none⟩ = some (.slice yoa m yoc)) := ⟨(Hid.out HRD _ hb3).1.1, Hid.out HRL _ hb3, (Hid.out HRD _ hb3).2⟩; clear hb3))
     have HCP : Hid (Calls Tryz.prog 117 #[.agg #[.int .i64 y1, .int .i64 y2, .int .i64 y3, .int .i64 y4, .int .i64 y5, .int .i64 y6, .int .i64 y7, .int .i64 y8, .int .i64 y9, .slice yoa m yoc]] w3.drew fun e w8 => ∃ oa2 oc2, e = .returned (.agg #[.int .i64 y1, .int .i64 y2, .int .i64 y3, .int .i64 y4, .int .i64 y5, .int .i64 y6, .int .i64 y7, .int .i64 y8, .int .i64 y9, .slice oa2 m oc2]) ∧ w8.cell? ⟨b, 0, none⟩ = some (.slice (some ⟨g, 0, none⟩) n c) ∧ (w8.cell? ⟨B, 0, none⟩ = some (.int .i64 y1) ∧ w8.cell? ⟨B, 1, none⟩ = some (.int .i64 y2) ∧ w8.cell? ⟨B, 2, none⟩ = some (.int .i64 y3) ∧ w8.cell? ⟨B, 3, none⟩ = some (.int .i64 y4) ∧ w8.cell? ⟨B, 4, none⟩ = some (.int .i64 y5) ∧ w8.cell? ⟨B, 5, none⟩ = some (.int .i64 y6) ∧ w8.cell? ⟨B, 6, none⟩ = some (.int .i64 y7) ∧ w8.cell? ⟨B, 7, none⟩ = some (.int .i64 y8) ∧ w8.cell? ⟨B, 8, none⟩ = some (.int .i64 y9) ∧ w8.cell? ⟨B, 9, none⟩ = some (.slice yoa m yoc)) ∧ b < w8.heap.size ∧ B < w8.heap.size ∧ ∃ a' c' w13, (Builtin.append_ #[135, 135] 135 #[.slice (some ⟨g, 0, none⟩) n c, .slice (some ⟨w8.heap.size, 0, none⟩) 1 1]).run Tryz.prog (w8.alloc (.cells #[.int .i64 y1, .int .i64 y2, .int .i64 y3, .int .i64 y4, .int .i64 y5, .int .i64 y6, .int .i64 y7, .int .i64 y8, .int .i64 y9, .slice oa2 m oc2] 126)) = .ok (.slice a' (n + 1) c') w13 ∧ w13.cell? ⟨b, 0, none⟩ = some (.slice (some ⟨g, 0, none⟩) n c) ∧ w13.frozen? ⟨b, 0, none⟩ = false ∧ (w13.cell? ⟨B, 0, none⟩ = some (.int .i64 y1) ∧ w13.cell? ⟨B, 1, none⟩ = some (.int .i64 y2) ∧ w13.cell? ⟨B, 2, none⟩ = some (.int .i64 y3) ∧ w13.cell? ⟨B, 3, none⟩ = some (.int .i64 y4) ∧ w13.cell? ⟨B, 4, none⟩ = some (.int .i64 y5) ∧ w13.cell? ⟨B, 5, none⟩ = some (.int .i64 y6) ∧ w13.cell? ⟨B, 6, none⟩ = some (.int .i64 y7) ∧ w13.cell? ⟨B, 7, none⟩ = some (.int .i64 y8) ∧ w13.cell? ⟨B, 8, none⟩ = some (.int .i64 y9) ∧ w13.cell? ⟨B, 9, none⟩ = some (.slice yoa m yoc)) ∧ PushP X w fl (l.map E.p) b (.slice (some ⟨g, 0, none⟩) n c) p (.returned (.int .i64 0)) (w13.setCell ⟨b, 0, none⟩ (.slice a' (n + 1) c'))) := HCPF.out w3 HB3.out HPE.out
     have K3B : Hid (w3.cell? ⟨B, 0, none⟩ = some (.int .i64 y1) ∧ w3.cell? ⟨B, 1, none⟩ = some (.int .i64 y2) ∧ w3.cell? ⟨B, 2, none⟩ = some (.int .i64 y3) ∧ w3.cell? ⟨B, 3, none⟩ = some (.int .i64 y4) ∧ w3.cell? ⟨B, 4, none⟩ = some (.int .i64 y5) ∧ w3.cell? ⟨B, 5, none⟩ = some (.int .i64 y6) ∧ w3.cell? ⟨B, 6, none⟩ = some (.int .i64 y7) ∧ w3.cell? ⟨B, 7, none⟩ = some (.int .i64 y8) ∧ w3.cell? ⟨B, 8, none⟩ = some (.int .i64 y9) ∧ w3.cell? ⟨B, 9, none⟩ = some (.slice yoa m yoc)) := (HRD.out w3 HB3.out).2
     have d30 := (HRD.out w3 HB3.out).1.1
     go_wp2_with fail
     refine wp_region_held_drew (S := fun w' => w'.cell? ⟨B, 0, none⟩ = some (.int .i64 y1) ∧ w'.cell? ⟨B, 1, none⟩ = some (.int .i64 y2) ∧ w'.cell? ⟨B, 2, none⟩ = some (.int .i64 y3) ∧ w'.cell? ⟨B, 3, none⟩ = some (.int .i64 y4) ∧ w'.cell? ⟨B, 4, none⟩ = some (.int .i64 y5) ∧ w'.cell? ⟨B, 5, none⟩ = some (.int .i64 y6) ∧ w'.cell? ⟨B, 6, none⟩ = some (.int .i64 y7) ∧ w'.cell? ⟨B, 7, none⟩ = some (.int .i64 y8) ∧ w'.cell? ⟨B, 8, none⟩ = some (.int .i64 y9) ∧ w'.cell? ⟨B, 9, none⟩ = some (.slice yoa m yoc)) (by kernel_rfl) (Hid.out K3B) (fun hHeld => ?_)
     refine wpAnyH_take (i := 0) rfl (by kernel_rfl) (by kernel_rfl) (by kernel_rfl) (fun _ _ _ h => h) (Or.inl ⟨by rfl, fun w hSw => by (dsimp only at hSw; go_simp; first | done | with_reducible rfl)⟩) hHeld ?_
     go_frame
     refine wpAnyH_take (i := 1) rfl (by kernel_rfl) (by kernel_rfl) (by kernel_rfl) (fun _ _ _ h => h) (Or.inl ⟨by rfl, fun w hSw => by (dsimp only at hSw; go_simp; first | done | with_reducible rfl)⟩) hHeld ?_
     go_frame
     refine wpAnyH_take (i := 2) rfl (by kernel_rfl) (by kernel_rfl) (by kernel_rfl) (fun _ _ _ h => h) (Or.inl ⟨by rfl, fun w hSw => by (dsimp only at hSw; go_simp; first | done | with_reducible rfl)⟩) hHeld ?_
     go_frame
     refine wpAnyH_take (i := 3) rfl (by kernel_rfl) (by kernel_rfl) (by kernel_rfl) (fun _ _ _ h => h) (Or.inl ⟨by rfl, fun w hSw => by (dsimp only at hSw; go_simp; first | done | with_reducible rfl)⟩) hHeld ?_
     go_frame
     refine wpAnyH_take (i := 5) rfl (by kernel_rfl) (by kernel_rfl) (by kernel_rfl) (fun _ _ _ h => h) (Or.inl ⟨by rfl, fun w hSw => by (dsimp only at hSw; go_simp; first | done | with_reducible rfl)⟩) hHeld ?_
     go_frame
     refine wpAnyH_ready (rs := [4, 6]) (by kernel_rfl) (by simp) (AllReadyH.cons rfl (fun K hK => ?_) (AllReadyH.cons rfl (fun K hK => ?_) AllReadyH.nil))
     ·go_simp
      refine hK.out _ _ hHeld (fun _ => ?_)
      clear hK K
      try go_frame
      refine wpAnyH_ready (rs := [6]) (by kernel_rfl) (by simp) (AllReadyH.cons rfl (fun K hK => ?_) AllReadyH.nil)
      go_simp
      refine (Hid.out HCP).mono ?_
      rintro e w8 ⟨oa2, oc2, rfl, h80, h8b, lb8, lB8, a', c', w13, hrun, h130, hf13, h13b, hfin⟩
      have HRUN : Hid ((Builtin.append_ #[135, 135] 135 #[.slice (some ⟨g, 0, none⟩) n c, .slice (some ⟨w8.heap.size, 0, none⟩) 1 1]).run Tryz.prog (w8.alloc (.cells #[.int .i64 y1, .int .i64 y2, .int .i64 y3, .int .i64 y4, .int .i64 y5, .int .i64 y6, .int .i64 y7, .int .i64 y8, .int .i64 y9, .slice oa2 m oc2] 126)) = .ok (.slice a' (n + 1) c') w13) := hrun
      have HFIN : Hid (PushP X w fl (l.map E.p) b (.slice (some ⟨g, 0, none⟩) n c) p (.returned (.int .i64 0)) (w13.setCell ⟨b, 0, none⟩ (.slice a' (n + 1) c'))) := hfin
      clear hrun hfin
      go_wp2_with fail
      refine hK.out _ _ h8b (fun hHeld8 => ?_)
      clear hK K
      try go_frame
      refine wpAnyH_ready (rs := [7]) (by kernel_rfl) (by simp) (AllReadyH.cons rfl (fun K hK => ?_) AllReadyH.nil)
      go_simp
      refine hK.out _ _ (by (try dsimp only); go_keep) (fun hHeld9 => ?_)
      clear hK K
      try go_frame
      refine wpAnyH_ready (rs := [8]) (by kernel_rfl) (by simp) (AllReadyH.cons rfl (fun K hK => ?_) AllReadyH.nil)
      refine step_append_run rfl (.tmp 41) (.tmp 44) 135 rfl (by simp [Act.eval]) (by simp [Act.eval]) HRUN.out ?_
      refine hK.out _ _ h13b (fun hHeld11 => ?_)
      clear hK K
      try go_frame
      refine wpAnyH_take (i := 9) rfl (by kernel_rfl) (by kernel_rfl) (by kernel_rfl) (fun _ _ _ h => h) (Or.inl ⟨by rfl, fun w hSw => by (dsimp only at hSw; go_simp; first | done | with_reducible rfl)⟩) hHeld11 ?_
      go_frame
      refine wpAnyH_take (i := 10) rfl (by kernel_rfl) (by kernel_rfl) (by kernel_rfl) (fun _ _ _ h => h) (Or.inl ⟨by rfl, fun w hSw => by (dsimp only at hSw; go_simp; first | done | with_reducible rfl)⟩) hHeld11 ?_
      go_frame
      refine wpAnyH_ready (rs := [11]) (by kernel_rfl) (by simp) (AllReadyH.cons rfl (fun K hK => ?_) AllReadyH.nil)
      go_simp
      refine hK.out _ _ (by (try dsimp only); go_keep) (fun hHeld13 => ?_)
      clear hK K
      refine wpAnyH_done (by kernel_rfl) ?_ _
      go_wp2
      go_ret
      exact HFIN.out
     ·go_simp
      refine (Hid.out HCP).mono ?_
      rintro e w8 ⟨oa2, oc2, rfl, h80, h8b, lb8, lB8, a', c', w13, hrun, h130, hf13, h13b, hfin⟩
      have HRUN : Hid ((Builtin.append_ #[135, 135] 135 #[.slice (some ⟨g, 0, none⟩) n c, .slice (some ⟨w8.heap.size, 0, none⟩) 1 1]).run Tryz.prog (w8.alloc (.cells #[.int .i64 y1, .int .i64 y2, .int .i64 y3, .int .i64 y4, .int .i64 y5, .int .i64 y6, .int .i64 y7, .int .i64 y8, .int .i64 y9, .slice oa2 m oc2] 126)) = .ok (.slice a' (n + 1) c') w13) := hrun
      have HFIN : Hid (PushP X w fl (l.map E.p) b (.slice (some ⟨g, 0, none⟩) n c) p (.returned (.int .i64 0)) (w13.setCell ⟨b, 0, none⟩ (.slice a' (n + 1) c'))) := hfin
      clear hrun hfin
      go_wp2_with fail
      refine hK.out _ _ h8b (fun hHeld8 => ?_)
      clear hK K
      try go_frame
      refine wpAnyH_ready (rs := [4, 7]) (by kernel_rfl) (by simp) (AllReadyH.cons rfl (fun K hK => ?_) (AllReadyH.cons rfl (fun K hK => ?_) AllReadyH.nil))
      ·go_simp
       refine hK.out _ _ hHeld8 (fun _ => ?_)
       clear hK K
       try go_frame
       refine wpAnyH_ready (rs := [7]) (by kernel_rfl) (by simp) (AllReadyH.cons rfl (fun K hK => ?_) AllReadyH.nil)
       go_simp
       refine hK.out _ _ (by (try dsimp only); go_keep) (fun hHeld9 => ?_)
       clear hK K
       try go_frame
       refine wpAnyH_ready (rs := [8]) (by kernel_rfl) (by simp) (AllReadyH.cons rfl (fun K hK => ?_) AllReadyH.nil)
       refine step_append_run rfl (.tmp 41) (.tmp 44) 135 rfl (by simp [Act.eval]) (by simp [Act.eval]) HRUN.out ?_
       refine hK.out _ _ h13b (fun hHeld11 => ?_)
       clear hK K
       try go_frame
       refine wpAnyH_take (i := 9) rfl (by kernel_rfl) (by kernel_rfl) (by kernel_rfl) (fun _ _ _ h => h) (Or.inl ⟨by rfl, fun w hSw => by (dsimp only at hSw; go_simp; first | done | with_reducible rfl)⟩) hHeld11 ?_
       go_frame
       refine wpAnyH_take (i := 10) rfl (by kernel_rfl) (by kernel_rfl) (by kernel_rfl) (fun _ _ _ h => h) (Or.inl ⟨by rfl, fun w hSw => by (dsimp only at hSw; go_simp; first | done | with_reducible rfl)⟩) hHeld11 ?_
       go_frame
       refine wpAnyH_ready (rs := [11]) (by kernel_rfl) (by simp) (AllReadyH.cons rfl (fun K hK => ?_) AllReadyH.nil)
       go_simp
       refine hK.out _ _ (by (try dsimp only); go_keep) (fun hHeld13 => ?_)
       clear hK K
       refine wpAnyH_done (by kernel_rfl) ?_ _
       go_wp2
       go_ret
       exact HFIN.out
      ·go_simp
       refine hK.out _ _ (by (try dsimp only); go_keep) (fun hHeld9 => ?_)
       clear hK K
       try go_frame
       refine wpAnyH_ready (rs := [4]) (by kernel_rfl) (by simp) (AllReadyH.cons rfl (fun K hK => ?_) AllReadyH.nil)
       go_simp
       refine hK.out _ _ hHeld9 (fun _ => ?_)
       clear hK K
       try go_frame
       refine wpAnyH_ready (rs := [8]) (by kernel_rfl) (by simp) (AllReadyH.cons rfl (fun K hK => ?_) AllReadyH.nil)
       refine step_append_run rfl (.tmp 41) (.tmp 44) 135 rfl (by simp [Act.eval]) (by simp [Act.eval]) HRUN.out ?_
       refine hK.out _ _ h13b (fun hHeld11 => ?_)
       clear hK K
       try go_frame
       refine wpAnyH_take (i := 9) rfl (by kernel_rfl) (by kernel_rfl) (by kernel_rfl) (fun _ _ _ h => h) (Or.inl ⟨by rfl, fun w hSw => by (dsimp only at hSw; go_simp; first | done | with_reducible rfl)⟩) hHeld11 ?_
       go_frame
       refine wpAnyH_take (i := 10) rfl (by kernel_rfl) (by kernel_rfl) (by kernel_rfl) (fun _ _ _ h => h) (Or.inl ⟨by rfl, fun w hSw => by (dsimp only at hSw; go_simp; first | done | with_reducible rfl)⟩) hHeld11 ?_
       go_frame
       refine wpAnyH_ready (rs := [11]) (by kernel_rfl) (by simp) (AllReadyH.cons rfl (fun K hK => ?_) AllReadyH.nil)
       go_simp
       refine hK.out _ _ (by (try dsimp only); go_keep) (fun hHeld13 => ?_)
       clear hK K
       refine wpAnyH_done (by kernel_rfl) ?_ _
       go_wp2
       go_ret
       exact HFIN.out
  ·have hl0 : n = 0 := by omega
   have hd : decide ((0 : Int) < (n : Int)) = false := by simp; omega
   have hd2 : ¬ (0 : Int) < (n : Int) := by omega
   have hd3 : decide (0 < n) = false := by simpa using c2
   rw [if_neg (fun e => c2 e.1), if_neg (by omega)] at hpe
   have HPE : Hid (pushE fl (l.map E.p) p = 0) := hpe
   have c4' : ¬ (64 : Int) ≤ (n : Int) := by omega
   clear hpe c2 hl0
   go_enter Tryz.func66, Tryz.ntmps66
   go_wp2_with fail
   rw [← HW.out]
   simp only [HBB.out]
   go_region_held3 (fun w' => (w'.cell? ⟨b, 1, none⟩ = some (.int .i64 fl)) ∧ w'.cell? ⟨B, 0, none⟩ = some (.int .i64 y1) ∧ w'.cell? ⟨B, 1, none⟩ = some (.int .i64 y2) ∧ w'.cell? ⟨B, 2, none⟩ = some (.int .i64 y3) ∧ w'.cell? ⟨B, 3, none⟩ = some (.int .i64 y4) ∧ w'.cell? ⟨B, 4, none⟩ = some (.int .i64 y5) ∧ w'.cell? ⟨B, 5, none⟩ = some (.int .i64 y6) ∧ w'.cell? ⟨B, 6, none⟩ = some (.int .i64 y7) ∧ w'.cell? ⟨B, 7, none⟩ = some (.int .i64 y8) ∧ w'.cell? ⟨B, 8, none⟩ = some (.int .i64 y9) ∧ w'.cell? ⟨B, 9, none⟩ = some (.slice yoa m yoc)) (first | (go_keep; done) | exact Hid.out KEEP) (first
  | (go_at_call 115; refine (Hid.out HST).mono ?_; rintro e w2 ⟨rfl, hb2⟩; have HB2 : Hid (Below w1.heap.size w1 w2) := hb2; have HC2 := Hid.out HRD _ hb2; have KEEP : Hid ((w2.cell? ⟨b, 1, none⟩ = some (.int .i64 fl)) ∧ w2.cell? ⟨B, 0, none⟩ = some (.int .i64 y1) ∧ w2.cell? ⟨B, 1, none⟩ = some (.int .i64 y2) ∧ w2.cell? ⟨B, 2, none⟩ = some (.int .i64 y3) ∧ w2.cell? ⟨B, 3, none⟩ = some (.int .i64 y4) ∧ w2.cell? ⟨B, 4, none⟩ = some (.int .i64 y5) ∧ w2.cell? ⟨B, 5, none⟩ = some (.int .i64 y6) ∧ w2.cell? ⟨B, 6, none⟩ = some (.int .i64 y7) ∧ w2.cell? ⟨B, 7, none⟩ = some (.int .i64 y8) ∧ w2.cell? ⟨B, 8, none⟩ = some (.int .i64 y9) ∧ w2.cell? ⟨B, 9, none⟩ = some (.slice yoa m yoc)) := ⟨HC2.1.2, HC2.2⟩; have k00 := HC2.1.1; clear hb2 HST HC2))
   go_wp2_with fail
   go_quiet (fail)
   obtain ⟨w3, hw3⟩ : ∃ w3, w3 = w2.drewN nq := ⟨_, rfl⟩
   have HB3 : Hid (Below w1.heap.size w1 w3) := by rw [hw3]; exact ⟨HB2.out.os, HB2.out.tape, HB2.out.output, HB2.out.size, HB2.out.block⟩
   rw [← hw3]
   clear hw3
   have HCP : Hid (Calls Tryz.prog 117 #[.agg #[.int .i64 y1, .int .i64 y2, .int .i64 y3, .int .i64 y4, .int .i64 y5, .int .i64 y6, .int .i64 y7, .int .i64 y8, .int .i64 y9, .slice yoa m yoc]] w3.drew fun e w8 => ∃ oa2 oc2, e = .returned (.agg #[.int .i64 y1, .int .i64 y2, .int .i64 y3, .int .i64 y4, .int .i64 y5, .int .i64 y6, .int .i64 y7, .int .i64 y8, .int .i64 y9, .slice oa2 m oc2]) ∧ w8.cell? ⟨b, 0, none⟩ = some (.slice a n c) ∧ (w8.cell? ⟨B, 0, none⟩ = some (.int .i64 y1) ∧ w8.cell? ⟨B, 1, none⟩ = some (.int .i64 y2) ∧ w8.cell? ⟨B, 2, none⟩ = some (.int .i64 y3) ∧ w8.cell? ⟨B, 3, none⟩ = some (.int .i64 y4) ∧ w8.cell? ⟨B, 4, none⟩ = some (.int .i64 y5) ∧ w8.cell? ⟨B, 5, none⟩ = some (.int .i64 y6) ∧ w8.cell? ⟨B, 6, none⟩ = some (.int .i64 y7) ∧ w8.cell? ⟨B, 7, none⟩ = some (.int .i64 y8) ∧ w8.cell? ⟨B, 8, none⟩ = some (.int .i64 y9) ∧ w8.cell? ⟨B, 9, none⟩ = some (.slice yoa m yoc)) ∧ b < w8.heap.size ∧ B < w8.heap.size ∧ ∃ a' c' w13, (Builtin.append_ #[135, 135] 135 #[.slice a n c, .slice (some ⟨w8.heap.size, 0, none⟩) 1 1]).run Tryz.prog (w8.alloc (.cells #[.int .i64 y1, .int .i64 y2, .int .i64 y3, .int .i64 y4, .int .i64 y5, .int .i64 y6, .int .i64 y7, .int .i64 y8, .int .i64 y9, .slice oa2 m oc2] 126)) = .ok (.slice a' (n + 1) c') w13 ∧ w13.cell? ⟨b, 0, none⟩ = some (.slice a n c) ∧ w13.frozen? ⟨b, 0, none⟩ = false ∧ (w13.cell? ⟨B, 0, none⟩ = some (.int .i64 y1) ∧ w13.cell? ⟨B, 1, none⟩ = some (.int .i64 y2) ∧ w13.cell? ⟨B, 2, none⟩ = some (.int .i64 y3) ∧ w13.cell? ⟨B, 3, none⟩ = some (.int .i64 y4) ∧ w13.cell? ⟨B, 4, none⟩ = some (.int .i64 y5) ∧ w13.cell? ⟨B, 5, none⟩ = some (.int .i64 y6) ∧ w13.cell? ⟨B, 6, none⟩ = some (.int .i64 y7) ∧ w13.cell? ⟨B, 7, none⟩ = some (.int .i64 y8) ∧ w13.cell? ⟨B, 8, none⟩ = some (.int .i64 y9) ∧ w13.cell? ⟨B, 9, none⟩ = some (.slice yoa m yoc)) ∧ PushP X w fl (l.map E.p) b (.slice a n c) p (.returned (.int .i64 0)) (w13.setCell ⟨b, 0, none⟩ (.slice a' (n + 1) c'))) := HCPF.out w3 HB3.out HPE.out
   have K3B : Hid (w3.cell? ⟨B, 0, none⟩ = some (.int .i64 y1) ∧ w3.cell? ⟨B, 1, none⟩ = some (.int .i64 y2) ∧ w3.cell? ⟨B, 2, none⟩ = some (.int .i64 y3) ∧ w3.cell? ⟨B, 3, none⟩ = some (.int .i64 y4) ∧ w3.cell? ⟨B, 4, none⟩ = some (.int .i64 y5) ∧ w3.cell? ⟨B, 5, none⟩ = some (.int .i64 y6) ∧ w3.cell? ⟨B, 6, none⟩ = some (.int .i64 y7) ∧ w3.cell? ⟨B, 7, none⟩ = some (.int .i64 y8) ∧ w3.cell? ⟨B, 8, none⟩ = some (.int .i64 y9) ∧ w3.cell? ⟨B, 9, none⟩ = some (.slice yoa m yoc)) := (HRD.out w3 HB3.out).2
   have d30 := (HRD.out w3 HB3.out).1.1
   go_wp2_with fail
   refine wp_region_held_drew (S := fun w' => w'.cell? ⟨B, 0, none⟩ = some (.int .i64 y1) ∧ w'.cell? ⟨B, 1, none⟩ = some (.int .i64 y2) ∧ w'.cell? ⟨B, 2, none⟩ = some (.int .i64 y3) ∧ w'.cell? ⟨B, 3, none⟩ = some (.int .i64 y4) ∧ w'.cell? ⟨B, 4, none⟩ = some (.int .i64 y5) ∧ w'.cell? ⟨B, 5, none⟩ = some (.int .i64 y6) ∧ w'.cell? ⟨B, 6, none⟩ = some (.int .i64 y7) ∧ w'.cell? ⟨B, 7, none⟩ = some (.int .i64 y8) ∧ w'.cell? ⟨B, 8, none⟩ = some (.int .i64 y9) ∧ w'.cell? ⟨B, 9, none⟩ = some (.slice yoa m yoc)) (by kernel_rfl) (Hid.out K3B) (fun hHeld => ?_)
   refine wpAnyH_take (i := 0) rfl (by kernel_rfl) (by kernel_rfl) (by kernel_rfl) (fun _ _ _ h => h) (Or.inl ⟨by rfl, fun w hSw => by (dsimp only at hSw; go_simp; first | done | with_reducible rfl)⟩) hHeld ?_
   go_frame
   refine wpAnyH_take (i := 1) rfl (by kernel_rfl) (by kernel_rfl) (by kernel_rfl) (fun _ _ _ h => h) (Or.inl ⟨by rfl, fun w hSw => by (dsimp only at hSw; go_simp; first | done | with_reducible rfl)⟩) hHeld ?_
   go_frame
   refine wpAnyH_take (i := 2) rfl (by kernel_rfl) (by kernel_rfl) (by kernel_rfl) (fun _ _ _ h => h) (Or.inl ⟨by rfl, fun w hSw => by (dsimp only at hSw; go_simp; first | done | with_reducible rfl)⟩) hHeld ?_
   go_frame
   refine wpAnyH_take (i := 3) rfl (by kernel_rfl) (by kernel_rfl) (by kernel_rfl) (fun _ _ _ h => h) (Or.inl ⟨by rfl, fun w hSw => by (dsimp only at hSw; go_simp; first | done | with_reducible rfl)⟩) hHeld ?_
   go_frame
   refine wpAnyH_take (i := 5) rfl (by kernel_rfl) (by kernel_rfl) (by kernel_rfl) (fun _ _ _ h => h) (Or.inl ⟨by rfl, fun w hSw => by (dsimp only at hSw; go_simp; first | done | with_reducible rfl)⟩) hHeld ?_
   go_frame
   refine wpAnyH_ready (rs := [4, 6]) (by kernel_rfl) (by simp) (AllReadyH.cons rfl (fun K hK => ?_) (AllReadyH.cons rfl (fun K hK => ?_) AllReadyH.nil))
   ·go_simp
    refine hK.out _ _ hHeld (fun _ => ?_)
    clear hK K
    try go_frame
    refine wpAnyH_ready (rs := [6]) (by kernel_rfl) (by simp) (AllReadyH.cons rfl (fun K hK => ?_) AllReadyH.nil)
    go_simp
    refine (Hid.out HCP).mono ?_
    rintro e w8 ⟨oa2, oc2, rfl, h80, h8b, lb8, lB8, a', c', w13, hrun, h130, hf13, h13b, hfin⟩
    have HRUN : Hid ((Builtin.append_ #[135, 135] 135 #[.slice a n c, .slice (some ⟨w8.heap.size, 0, none⟩) 1 1]).run Tryz.prog (w8.alloc (.cells #[.int .i64 y1, .int .i64 y2, .int .i64 y3, .int .i64 y4, .int .i64 y5, .int .i64 y6, .int .i64 y7, .int .i64 y8, .int .i64 y9, .slice oa2 m oc2] 126)) = .ok (.slice a' (n + 1) c') w13) := hrun
    have HFIN : Hid (PushP X w fl (l.map E.p) b (.slice a n c) p (.returned (.int .i64 0)) (w13.setCell ⟨b, 0, none⟩ (.slice a' (n + 1) c'))) := hfin
    clear hrun hfin
    go_wp2_with fail
    refine hK.out _ _ h8b (fun hHeld8 => ?_)
    clear hK K
    try go_frame
    refine wpAnyH_ready (rs := [7]) (by kernel_rfl) (by simp) (AllReadyH.cons rfl (fun K hK => ?_) AllReadyH.nil)
    go_simp
    refine hK.out _ _ (by (try dsimp only); go_keep) (fun hHeld9 => ?_)
    clear hK K
    try go_frame
    refine wpAnyH_ready (rs := [8]) (by kernel_rfl) (by simp) (AllReadyH.cons rfl (fun K hK => ?_) AllReadyH.nil)
    refine step_append_run rfl (.tmp 41) (.tmp 44) 135 rfl (by simp [Act.eval]) (by simp [Act.eval]) HRUN.out ?_
    refine hK.out _ _ h13b (fun hHeld11 => ?_)
    clear hK K
    try go_frame
    refine wpAnyH_take (i := 9) rfl (by kernel_rfl) (by kernel_rfl) (by kernel_rfl) (fun _ _ _ h => h) (Or.inl ⟨by rfl, fun w hSw => by (dsimp only at hSw; go_simp; first | done | with_reducible rfl)⟩) hHeld11 ?_
    go_frame
    refine wpAnyH_take (i := 10) rfl (by kernel_rfl) (by kernel_rfl) (by kernel_rfl) (fun _ _ _ h => h) (Or.inl ⟨by rfl, fun w hSw => by (dsimp only at hSw; go_simp; first | done | with_reducible rfl)⟩) hHeld11 ?_
    go_frame
    refine wpAnyH_ready (rs := [11]) (by kernel_rfl) (by simp) (AllReadyH.cons rfl (fun K hK => ?_) AllReadyH.nil)
    go_simp
    refine hK.out _ _ (by (try dsimp only); go_keep) (fun hHeld13 => ?_)
    clear hK K
    refine wpAnyH_done (by kernel_rfl) ?_ _
    go_wp2
    go_ret
    exact HFIN.out
   ·go_simp
    refine (Hid.out HCP).mono ?_
    rintro e w8 ⟨oa2, oc2, rfl, h80, h8b, lb8, lB8, a', c', w13, hrun, h130, hf13, h13b, hfin⟩
    have HRUN : Hid ((Builtin.append_ #[135, 135] 135 #[.slice a n c, .slice (some ⟨w8.heap.size, 0, none⟩) 1 1]).run Tryz.prog (w8.alloc (.cells #[.int .i64 y1, .int .i64 y2, .int .i64 y3, .int .i64 y4, .int .i64 y5, .int .i64 y6, .int .i64 y7, .int .i64 y8, .int .i64 y9, .slice oa2 m oc2] 126)) = .ok (.slice a' (n + 1) c') w13) := hrun
    have HFIN : Hid (PushP X w fl (l.map E.p) b (.slice a n c) p (.returned (.int .i64 0)) (w13.setCell ⟨b, 0, none⟩ (.slice a' (n + 1) c'))) := hfin
    clear hrun hfin
    go_wp2_with fail
    refine hK.out _ _ h8b (fun hHeld8 => ?_)
    clear hK K
    try go_frame
    refine wpAnyH_ready (rs := [4, 7]) (by kernel_rfl) (by simp) (AllReadyH.cons rfl (fun K hK => ?_) (AllReadyH.cons rfl (fun K hK => ?_) AllReadyH.nil))
    ·go_simp
     refine hK.out _ _ hHeld8 (fun _ => ?_)
     clear hK K
     try go_frame
     refine wpAnyH_ready (rs := [7]) (by kernel_rfl) (by simp) (AllReadyH.cons rfl (fun K hK => ?_) AllReadyH.nil)
     go_simp
     refine hK.out _ _ (by (try dsimp only); go_keep) (fun hHeld9 => ?_)
     clear hK K
     try go_frame
     refine wpAnyH_ready (rs := [8]) (by kernel_rfl) (by simp) (AllReadyH.cons rfl (fun K hK => ?_) AllReadyH.nil)
     refine step_append_run rfl (.tmp 41) (.tmp 44) 135 rfl (by simp [Act.eval]) (by simp [Act.eval]) HRUN.out ?_
     refine hK.out _ _ h13b (fun hHeld11 => ?_)
     clear hK K
     try go_frame
     refine wpAnyH_take (i := 9) rfl (by kernel_rfl) (by kernel_rfl) (by kernel_rfl) (fun _ _ _ h => h) (Or.inl ⟨by rfl, fun w hSw => by (dsimp only at hSw; go_simp; first | done | with_reducible rfl)⟩) hHeld11 ?_
     go_frame
     refine wpAnyH_take (i := 10) rfl (by kernel_rfl) (by kernel_rfl) (by kernel_rfl) (fun _ _ _ h => h) (Or.inl ⟨by rfl, fun w hSw => by (dsimp only at hSw; go_simp; first | done | with_reducible rfl)⟩) hHeld11 ?_
     go_frame
     refine wpAnyH_ready (rs := [11]) (by kernel_rfl) (by simp) (AllReadyH.cons rfl (fun K hK => ?_) AllReadyH.nil)
     go_simp
     refine hK.out _ _ (by (try dsimp only); go_keep) (fun hHeld13 => ?_)
     clear hK K
     refine wpAnyH_done (by kernel_rfl) ?_ _
     go_wp2
     go_ret
     exact HFIN.out
    ·go_simp
     refine hK.out _ _ (by (try dsimp only); go_keep) (fun hHeld9 => ?_)
     clear hK K
     try go_frame
     refine wpAnyH_ready (rs := [4]) (by kernel_rfl) (by simp) (AllReadyH.cons rfl (fun K hK => ?_) AllReadyH.nil)
     go_simp
     refine hK.out _ _ hHeld9 (fun _ => ?_)
     clear hK K
     try go_frame
     refine wpAnyH_ready (rs := [8]) (by kernel_rfl) (by simp) (AllReadyH.cons rfl (fun K hK => ?_) AllReadyH.nil)
     refine step_append_run rfl (.tmp 41) (.tmp 44) 135 rfl (by simp [Act.eval]) (by simp [Act.eval]) HRUN.out ?_
     refine hK.out _ _ h13b (fun hHeld11 => ?_)
     clear hK K
     try go_frame
     refine wpAnyH_take (i := 9) rfl (by kernel_rfl) (by kernel_rfl) (by kernel_rfl) (fun _ _ _ h => h) (Or.inl ⟨by rfl, fun w hSw => by (dsimp only at hSw; go_simp; first | done | with_reducible rfl)⟩) hHeld11 ?_
     go_frame
     refine wpAnyH_take (i := 10) rfl (by kernel_rfl) (by kernel_rfl) (by kernel_rfl) (fun _ _ _ h => h) (Or.inl ⟨by rfl, fun w hSw => by (dsimp only at hSw; go_simp; first | done | with_reducible rfl)⟩) hHeld11 ?_
     go_frame
     refine wpAnyH_ready (rs := [11]) (by kernel_rfl) (by simp) (AllReadyH.cons rfl (fun K hK => ?_) AllReadyH.nil)
     go_simp
     refine hK.out _ _ (by (try dsimp only); go_keep) (fun hHeld13 => ?_)
     clear hK K
     refine wpAnyH_done (by kernel_rfl) ?_ _
     go_wp2
     go_ret
     exact HFIN.out
end Go.Proofs.YtiaopafkfadmkaaGreat.A
