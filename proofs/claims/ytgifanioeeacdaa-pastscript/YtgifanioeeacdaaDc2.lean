/- Proved: the contract of Back of the document's past. -/
import Derived.Test.YtgifanioeeacdaaDc0
import Derived.Test.YtgifanioeeacdaaPa2
namespace Go.Proofs.Ytgifanioeeacdaa
open Go.RowKit Go.Shelf Go.Sort
set_option linter.unusedVariables false

/-- What a call of the document's that takes entries out leaves behind. -/
def ROut (Y : Nat → Prop) (w : World) (fl : Int) (G R : List P) (b : Nat) (e : Ending) (w' : World) : Prop :=
  ∃ a c, e = .returned (.slice a G.length c) ∧ Gon (fun k => k ≠ b ∧ ¬ Y k) w' a G ∧ RP Y w' fl R b ∧ Fr (fun k => k = b) w w'
/-- Two rows that a call makes beside each other. -/
structure R2 (w W : World) (vo : Value) (lo : List E) (vl : Value) (ll : List E) : Prop where
  o : RwS cE 40 w W vo lo
  l : RwS cE 40 w W vl ll
  ne : ∀ k, vo.ownBlock = some k → vl.ownBlock ≠ some k
theorem R2.on {w W W2 : World} {vo vl : Value} {lo ll : List E} (h : R2 w W vo lo vl ll) (hb : Below W.heap.size W W2) : R2 w W2 vo lo vl ll := ⟨h.o.on hb, h.l.on hb, h.ne⟩
theorem R2.left {w W w' : World} {vo vl v' : Value} {lo ll X : List E} (h : R2 w W vo lo vl ll) (ho : OwR cE 40 w' v' X) (hm : Mw (fun k => vl.ownBlock = some k) (fun k => v'.ownBlock = some k) W w') : R2 w w' vo lo v' X := by
  obtain ⟨h1, h2⟩ := h.o.keep h.ne h.l.new hm
  exact ⟨h1, h.l.app ho hm, h2⟩
theorem R2.out {w W w' : World} {vo vl v' : Value} {lo ll X : List E} (h : R2 w W vo lo vl ll) (ho : OwR cE 40 w' v' X) (hm : Mw (fun k => vo.ownBlock = some k) (fun k => v'.ownBlock = some k) W w') : R2 w w' v' X vl ll := by
  obtain ⟨h1, h2⟩ := h.l.keep (fun k e s => h.ne k s e) h.o.new hm
  exact ⟨h.o.app ho hm, h1, fun k e s => h2 k s e⟩
theorem R2.made (w : World) : R2 w ((w.alloc (.cells #[] 40)).alloc (.cells #[] 40)) (.slice (some ⟨w.heap.size, 0, none⟩) 0 0) [] (.slice (some ⟨w.heap.size + 1, 0, none⟩) 0 0) [] := by
  refine ⟨(RwS.made cE _ (Below.refl _ w)).on (al _ _), ?_, fun k e s => ?_⟩
  · have := RwS.made cE 40 (al w (.cells #[] 40))
    simpa using this
  · simp [Value.ownBlock] at e s
    omega
theorem rout_fin {Y : Nat → Prop} {w w1 W : World} {fl : Int} {l lo ll : List E} {b : Nat} {ra oa la : Option Addr} {rc oc lc : Nat} {G R : List P} (h : RQ Y w fl l b ra rc) (hb1 : Below w.heap.size w w1) (h2 : R2 w1 W (.slice oa lo.length oc) lo (.slice la ll.length lc) ll) (ho : ∀ x ∈ lo, x ∈ l) (hl : ∀ x ∈ ll, x ∈ l) (hlen : ll.length ≤ 64) (eG : lo.map E.p = G) (eR : ll.map E.p = R) (hR : SrtP R) (t : Int) :
    ROut Y w fl G R b (.returned (.slice oa lo.length oc)) (W.setCell ⟨b, 1, none⟩ (.slice la ll.length lc)) ∧ ROut Y w t G R b (.returned (.slice oa lo.length oc)) ((W.setCell ⟨b, 1, none⟩ (.slice la ll.length lc)).setCell ⟨b, 0, none⟩ (.int .i64 t)) := by
  have hq1 := h.below hb1
  obtain ⟨hq, hf⟩ := hq1.put h2.l (fun x hx => hq1.outs x (hl x hx)) hlen
  obtain ⟨hq2, hf2⟩ := hq.floor t
  have hfw : Fr (fun k => k = b) w (W.setCell ⟨b, 1, none⟩ (.slice la ll.length lc)) := (Fr.of_below hb1).then hf
  have hfw2 := hfw.then hf2
  have f1 : Fr (fun k => k = b) W (W.setCell ⟨b, 1, none⟩ (.slice la ll.length lc)) := (Fr.refl _ _).setCell _ _ (Or.inl rfl)
  have hN : ∀ k, (Value.slice oa lo.length oc).ownBlock = some k → k ≠ b ∧ ¬ Y k := fun k e => by
    have h3 := h2.o.new k e
    have h4 := hq1.lt
    exact ⟨by omega, fun y => by have := hq1.yl k y; omega⟩
  have gon1 : Gon (fun k => k ≠ b ∧ ¬ Y k) (W.setCell ⟨b, 1, none⟩ (.slice la ll.length lc)) oa G := ⟨lo, eG, (h2.o.own.look.2.wide (fun k _ e => hN k e)).keep f1 (fun k _ g => ⟨g.1, g⟩), fun x hx => (h.outs x (ho x hx)).keep hfw (fun k _ g => ⟨g.1, g⟩)⟩
  have gl : G.length = lo.length := by rw [← eG]; simp
  exact ⟨⟨oa, oc, by rw [gl], gon1, ⟨ll, la, lc, eR, hq, hR⟩, hfw⟩, ⟨oa, oc, by rw [gl], gon1.keep hf2 (fun k _ g => ⟨g.1, g⟩), ⟨ll, la, lc, eR, hq2, hR⟩, hfw2⟩⟩
theorem filter_step {α : Type} (f : α → Bool) (l : List α) {i : Nat} (hi : i < l.length) : (l.take (i + 1)).filter f = (l.take i).filter f ++ (if f l[i] = true then [l[i]] else []) := by
  rw [List.take_add_one, List.filter_append, List.getElem?_eq_getElem hi]
  by_cases h : f l[i] = true
  · simp [h]
  · simp [h]
theorem filter_p (f : P → Bool) (l : List E) : (l.filter (fun x => f x.p)).map E.p = (l.map E.p).filter f := by
  rw [List.filter_map]; rfl
set_option maxRecDepth 100000 in
set_option maxHeartbeats 4000000 in
theorem rback_any {Y : Nat → Prop} {w : World} {fl : Int} {L : List P} {b : Nat} (h : RP Y w fl L b) (k : K) :
    Calls Try.prog 15 #[.pointer (some ⟨b, 0, none⟩), kv k] w (ROut Y w fl (gonK k L) (L.filter (bef k)) b) := by
  have mixed : Try.prog.follows .mixedOrders = true := by kernel_rfl
  obtain ⟨l, ra, rc, rfl, hq, hs⟩ := h
  obtain ⟨n, hn⟩ : ∃ n, l.length = n := ⟨_, rfl⟩
  obtain ⟨k1, k2, k3⟩ := k
  obtain ⟨w1, hw1⟩ : ∃ w1, w1 = w.alloc (.cells #[.int .i64 k1, .int .i64 k2, .int .i64 k3] 29) := ⟨_, rfl⟩
  have hb1 : Below w.heap.size w w1 := by rw [hw1]; exact al _ _
  obtain ⟨B, hB⟩ : ∃ B, w.heap.size = B := ⟨_, rfl⟩
  have B0 : w1.heap[B]? = some (.cells #[.int .i64 k1, .int .i64 k2, .int .i64 k3] 29) := by rw [hw1, ← hB]; exact newB _ _
  have hq1 := hq.below hb1
  obtain ⟨f, hf⟩ : ∃ f : E → Bool, f = fun x => bef (k1, k2, k3) x.p := ⟨_, rfl⟩
  have hcut : (l.filter f).length = cut (bef (k1, k2, k3)) (l.map E.p) := by rw [hf, cut, ← filter_p]; simp
  obtain ⟨c, hc⟩ : ∃ c, (l.filter f).length = c := ⟨_, rfl⟩
  obtain ⟨ec1, ec2⟩ := cls_cut (cls_bef hs (k1, k2, k3))
  rw [← hcut, hc] at ec1 ec2
  have hcn : c ≤ n := by rw [← hc, ← hn]; exact List.length_filter_le _ _
  have HFIN : Hid (∀ {W : World} {oa la : Option Addr} {oc lc : Nat}, R2 w1 W (.slice oa (n - c) oc) (l.drop c).reverse (.slice la c lc) (l.filter f) → ROut Y w fl (gonK (k1, k2, k3) (l.map E.p)) ((l.map E.p).filter (bef (k1, k2, k3))) b (.returned (.slice oa (n - c) oc)) (W.setCell ⟨b, 1, none⟩ (.slice la c lc))) := fun {W oa la oc lc} h2 => by
    have e1 : (l.drop c).reverse.length = n - c := by simp [hn]
    have h3 := h2
    rw [← e1, ← hc] at h3
    have := (rout_fin hq hb1 (by rw [hc] at h3 ⊢; exact h3) (fun x hx => List.mem_of_mem_drop (List.mem_reverse.1 hx)) (fun x hx => (List.mem_filter.1 hx).1) (by have := hq.cap; omega) (G := gonK (k1, k2, k3) (l.map E.p)) (R := (l.map E.p).filter (bef (k1, k2, k3))) (by unfold gonK; rw [ec2]; simp) (by rw [hf]; exact filter_p _ _) (hs.filter _) 0).1
    rw [e1, hc] at this
    exact this
  have HRD : Hid (∀ W, Below w1.heap.size w1 W → (W.cell? ⟨b, 1, none⟩ = some (.slice ra n rc) ∧ W.frozen? ⟨b, 1, none⟩ = false ∧ b < W.heap.size) ∧ (W.cell? ⟨B, 0, none⟩ = some (.int .i64 k1) ∧ W.cell? ⟨B, 1, none⟩ = some (.int .i64 k2) ∧ W.cell? ⟨B, 2, none⟩ = some (.int .i64 k3)) ∧ RdN cE (fun _ => True) W ra l) := fun W hW => by
    have B := (hW.block B (Array.getElem?_eq_some_iff.1 B0).1).trans B0
    have c1 := (hq1.below hW).c1
    rw [hn] at c1
    exact ⟨⟨c1, frozB (hq1.below hW).blk 1, (hq1.below hW).lt⟩, ⟨cellB B 0, cellB B 1, cellB B 2⟩, (hq1.below hW).row.wide (fun _ _ _ => trivial)⟩
  have HW : Hid (w1 = w.alloc (.cells #[.int .i64 k1, .int .i64 k2, .int .i64 k3] 29)) := hw1
  have HBB : Hid (w.heap.size = B) := hB
  have HMD : Hid (R2 w1 ((w1.alloc (.cells #[] 40)).alloc (.cells #[] 40)) (.slice (some ⟨B + 1, 0, none⟩) 0 0) [] (.slice (some ⟨B + 1 + 1, 0, none⟩) 0 0) []) := by
    have s1 : w1.heap.size = B + 1 := by rw [hw1, ← hB]; simp
    have h1 := R2.made w1
    rw [s1] at h1
    exact h1
  have HNL : Hid (l.length = n) := hn
  have HFF : Hid (f = fun x => bef (k1, k2, k3) x.p) := hf
  have HCC : Hid ((l.filter f).length = c) := hc
  have hcap : n ≤ 64 := by rw [← hn]; exact hq.cap
  dsimp only [kv]
  clear hw1 hb1 B0 hq1 hq hs hB hn hf hcut ec1 ec2 hc
  go_enter Try.func15, Try.ntmps15
  go_wp2_with fail
  rw [← HW.out]
  try simp only [HBB.out]
  go_loopw [6, 7] (fun s6 s7 wr => ∃ (i : Nat) (la : Option Addr) (lc m : Nat), s7 = .int .i64 i ∧ i ≤ n ∧ s6 = .slice la m lc ∧ m ≤ i ∧ Hid (((l.take i).filter f).length = m) ∧ Hid (R2 w1 wr (.slice (some ⟨B + 1, 0, none⟩) 0 0) [] (.slice la m lc) ((l.take i).filter f))) (fun _ s7 _ => n - (intOf s7).toNat)
  case atStart => exact ⟨0, _, _, 0, rfl, Nat.zero_le _, rfl, Nat.le_refl _, (rfl : (([] : List E).filter f).length = 0), HMD.out⟩
  case round =>
    obtain ⟨i, la, lc, m0, rfl, hi, rfl, hmi, HML, H2⟩ := hrel
    have HBW : Hid (Below w1.heap.size w1 wr) := H2.out.l.bel
    obtain ⟨⟨q1, _, lbw⟩, ⟨q2, q3, q4⟩, _⟩ := HRD.out wr HBW.out
    by_cases hlt : i < n
    · have hlt' : (i : Int) < (n : Int) := by omega
      have hil : i < l.length := by rw [HNL.out]; exact hlt
      obtain ⟨x, hx⟩ : ∃ x, nth cE l i = x := ⟨_, rfl⟩
      obtain ⟨g, go, rfl, lgw, _, u0, u1, u2, u3, u4, u5, u6, u7, u8, u9⟩ := (HRD.out wr HBW.out).2.2.entry hil hx
      have hfx : f x = decide (kcmp x.p.m.1 (k1, k2, k3) < 0) := by rw [HFF.out]; rfl
      have hstep := filter_step f l hil
      rw [← nth_get (C := cE) hil, hx] at hstep
      obtain ⟨r, hr⟩ : ∃ r, kcmp x.p.m.1 (k1, k2, k3) = r := ⟨_, rfl⟩
      rw [hr] at hfx
      have RC := refcmp_any x.p.m.1 (k1, k2, k3)
      rw [hr] at RC
      have HEV : Hid (ecs x = (cE.enc x).toArray) := rfl
      obtain ⟨⟨⟨⟨y1, y2, y3⟩, y4, y5, y6⟩, y7, y8, y9, yos⟩, yoa, yoc⟩ := x
      dsimp only at u0 u1 u2 u3 u4 u5 u6 u7 u8 u9 RC
      obtain ⟨m, hm⟩ : ∃ m, yos.length = m := ⟨_, rfl⟩
      rw [hm] at u9
      have HEV2 : Hid (#[.int .i64 y1, .int .i64 y2, .int .i64 y3, .int .i64 y4, .int .i64 y5, .int .i64 y6, .int .i64 y7, .int .i64 y8, .int .i64 y9, .slice yoa m yoc] = (cE.enc ⟨⟨((y1, y2, y3), y4, y5, y6), y7, y8, y9, yos⟩, yoa, yoc⟩).toArray) := by show #[.int .i64 y1, .int .i64 y2, .int .i64 y3, .int .i64 y4, .int .i64 y5, .int .i64 y6, .int .i64 y7, .int .i64 y8, .int .i64 y9, .slice yoa m yoc] = (cE.enc ⟨⟨((y1, y2, y3), y4, y5, y6), y7, y8, y9, yos⟩, yoa, yoc⟩).toArray; rw [← hm]; rfl
      have HFC : Hid (∀ W, Below wr.heap.size wr W → ((W.cell? ⟨b, 1, none⟩ = some (.slice (some ⟨g, go, none⟩) n rc)) ∧ (W.cell? ⟨g, go + i * 10, none⟩ = some (.int .i64 y1) ∧ W.cell? ⟨g, go + i * 10 + 1, none⟩ = some (.int .i64 y2) ∧ W.cell? ⟨g, go + i * 10 + 2, none⟩ = some (.int .i64 y3)) ∧ (W.cell? ⟨B, 0, none⟩ = some (.int .i64 k1) ∧ W.cell? ⟨B, 1, none⟩ = some (.int .i64 k2) ∧ W.cell? ⟨B, 2, none⟩ = some (.int .i64 k3))) ∧ (W.cell? ⟨g, go + i * 10, none⟩ = some (.int .i64 y1) ∧ W.cell? ⟨g, go + i * 10 + 1, none⟩ = some (.int .i64 y2) ∧ W.cell? ⟨g, go + i * 10 + 2, none⟩ = some (.int .i64 y3) ∧ W.cell? ⟨g, go + i * 10 + 3, none⟩ = some (.int .i64 y4) ∧ W.cell? ⟨g, go + i * 10 + 4, none⟩ = some (.int .i64 y5) ∧ W.cell? ⟨g, go + i * 10 + 5, none⟩ = some (.int .i64 y6) ∧ W.cell? ⟨g, go + i * 10 + 6, none⟩ = some (.int .i64 y7) ∧ W.cell? ⟨g, go + i * 10 + 7, none⟩ = some (.int .i64 y8) ∧ W.cell? ⟨g, go + i * 10 + 8, none⟩ = some (.int .i64 y9) ∧ W.cell? ⟨g, go + i * 10 + 9, none⟩ = some (.slice yoa m yoc))) := fun W hW => by
        have hh := HRD.out W (Below.on HBW.out hW)
        obtain ⟨g', go', e, _, _, v0, v1, v2, v3, v4, v5, v6, v7, v8, v9⟩ := hh.2.2.entry hil hx
        simp at e
        obtain ⟨rfl, rfl⟩ := e
        rw [← hm]
        exact ⟨⟨hh.1.1, ⟨v0, v1, v2⟩, hh.2.1⟩, v0, v1, v2, v3, v4, v5, v6, v7, v8, v9⟩
      have HCM : Hid (Calls Try.prog 25 #[.agg #[.int .i64 y1, .int .i64 y2, .int .i64 y3], .agg #[.int .i64 k1, .int .i64 k2, .int .i64 k3]] wr.drew fun e w' => e = .returned (.int .i64 r) ∧ Below wr.heap.size wr w') := (RC wr.drew).mono fun e w' ⟨he, hb⟩ => ⟨he, ⟨hb.os, hb.tape, hb.output, hb.size, hb.block⟩⟩
      have KEEP0 : Hid ((wr.drew.cell? ⟨b, 1, none⟩ = some (.slice (some ⟨g, go, none⟩) n rc)) ∧ (wr.drew.cell? ⟨g, go + i * 10, none⟩ = some (.int .i64 y1) ∧ wr.drew.cell? ⟨g, go + i * 10 + 1, none⟩ = some (.int .i64 y2) ∧ wr.drew.cell? ⟨g, go + i * 10 + 2, none⟩ = some (.int .i64 y3)) ∧ (wr.drew.cell? ⟨B, 0, none⟩ = some (.int .i64 k1) ∧ wr.drew.cell? ⟨B, 1, none⟩ = some (.int .i64 k2) ∧ wr.drew.cell? ⟨B, 2, none⟩ = some (.int .i64 k3))) := (HFC.out wr.drew (Below.refl _ wr).drew).1
      by_cases hrl : r < 0
      · have hft : f ⟨⟨((y1, y2, y3), y4, y5, y6), y7, y8, y9, yos⟩, yoa, yoc⟩ = true := by rw [hfx]; simpa using hrl
        rw [hft] at hstep
        simp only [if_true] at hstep
        obtain ⟨X, hX⟩ : ∃ X, (l.take i).filter f ++ [⟨⟨((y1, y2, y3), y4, y5, y6), y7, y8, y9, yos⟩, yoa, yoc⟩] = X := ⟨_, rfl⟩
        have HX : Hid ((l.take i).filter f ++ [⟨⟨((y1, y2, y3), y4, y5, y6), y7, y8, y9, yos⟩, yoa, yoc⟩] = X) := hX
        have HX2 : Hid (X = (l.take (i + 1)).filter f) := by show X = _; rw [hstep, ← hX]
        have HXL : Hid (X.length = m0 + 1) := by show X.length = m0 + 1; rw [← hX, List.length_append, HML.out]; rfl
        have HAL : Hid (((l.take i).filter f).length ≤ 100000) := by show ((l.take i).filter f).length ≤ 100000; rw [HML.out]; omega
        clear hx hfx hstep hr RC hm hX hft
        go_wp2_with fail
        go_region_held3 (fun w' => (w'.cell? ⟨b, 1, none⟩ = some (.slice (some ⟨g, go, none⟩) n rc)) ∧ (w'.cell? ⟨g, go + i * 10, none⟩ = some (.int .i64 y1) ∧ w'.cell? ⟨g, go + i * 10 + 1, none⟩ = some (.int .i64 y2) ∧ w'.cell? ⟨g, go + i * 10 + 2, none⟩ = some (.int .i64 y3)) ∧ (w'.cell? ⟨B, 0, none⟩ = some (.int .i64 k1) ∧ w'.cell? ⟨B, 1, none⟩ = some (.int .i64 k2) ∧ w'.cell? ⟨B, 2, none⟩ = some (.int .i64 k3))) (first | (go_keep; done) | exact Hid.out KEEP2 | exact Hid.out KEEP0) (first
          | (go_at_call 25; refine (Hid.out HCM).mono ?_; rintro e w7 ⟨rfl, h7⟩; have HB7 : Hid (Below wr.heap.size wr w7) := h7; have KEEP2 : Hid ((w7.cell? ⟨b, 1, none⟩ = some (.slice (some ⟨g, go, none⟩) n rc)) ∧ (w7.cell? ⟨g, go + i * 10, none⟩ = some (.int .i64 y1) ∧ w7.cell? ⟨g, go + i * 10 + 1, none⟩ = some (.int .i64 y2) ∧ w7.cell? ⟨g, go + i * 10 + 2, none⟩ = some (.int .i64 y3)) ∧ (w7.cell? ⟨B, 0, none⟩ = some (.int .i64 k1) ∧ w7.cell? ⟨B, 1, none⟩ = some (.int .i64 k2) ∧ w7.cell? ⟨B, 2, none⟩ = some (.int .i64 k3))) := (Hid.out HFC _ h7).1; clear h7))
        obtain ⟨⟨p1, _, _⟩, t0, t1, t2, t3, t4, t5, t6, t7, t8, t9⟩ := HFC.out w7 HB7.out
        have H27 : Hid (R2 w1 w7 (.slice (some ⟨B + 1, 0, none⟩) 0 0) [] (.slice la m0 lc) ((l.take i).filter f)) := H2.out.on HB7.out
        clear u0 u1 u2 u3 u4 u5 u6 u7 u8 u9 q1 q2 q3 q4 lgw lbw
        go_wp2_with (at_builtin; refine wpList_append_R tyD (fun _ => True) _ rfl (.tmp 32) (.tmp 40) rfl (.slice la m0 lc) _ _ ((l.take i).filter f) [⟨⟨((y1, y2, y3), y4, y5, y6), y7, y8, y9, yos⟩, yoa, yoc⟩] rfl rfl (OwR.below (RwS.own (R2.l (Hid.out H27))) (al _ _)) (RdN.new cE _ ⟨⟨((y1, y2, y3), y4, y5, y6), y7, y8, y9, yos⟩, yoa, yoc⟩ _ _ (Hid.out HEV2) trivial) (Hid.out HAL) (by simp) X (Hid.out HX) ?_; intro a' c' w8 ho hm; have H28 : Hid (R2 w1 w8 (.slice (some ⟨B + 1, 0, none⟩) 0 0) [] (.slice a' X.length c') X) := R2.left (R2.on (Hid.out H27) (al _ _)) ho hm; clear ho hm)
        go_roundw
        case rel =>
          refine ⟨i + 1, a', c', m0 + 1, by go_num, by omega, by rw [HXL.out], by omega, ?_, ?_⟩
          · have h1 := HXL.out
            rw [HX2.out] at h1
            exact h1
          · have h1 : R2 w1 w8 (.slice (some ⟨B + 1, 0, none⟩) 0 0) [] (.slice a' X.length c') X := H28.out
            rw [HXL.out, HX2.out] at h1
            exact h1
        case measure => simp [intOf]; omega
      · have hft : f ⟨⟨((y1, y2, y3), y4, y5, y6), y7, y8, y9, yos⟩, yoa, yoc⟩ = false := by rw [hfx]; simpa using hrl
        rw [hft] at hstep
        simp only [Bool.false_eq_true, if_false, List.append_nil] at hstep
        have HST : Hid ((l.take (i + 1)).filter f = (l.take i).filter f) := hstep
        clear hx hfx hstep hr RC hm hft
        go_wp2_with fail
        go_region_held3 (fun w' => (w'.cell? ⟨b, 1, none⟩ = some (.slice (some ⟨g, go, none⟩) n rc)) ∧ (w'.cell? ⟨g, go + i * 10, none⟩ = some (.int .i64 y1) ∧ w'.cell? ⟨g, go + i * 10 + 1, none⟩ = some (.int .i64 y2) ∧ w'.cell? ⟨g, go + i * 10 + 2, none⟩ = some (.int .i64 y3)) ∧ (w'.cell? ⟨B, 0, none⟩ = some (.int .i64 k1) ∧ w'.cell? ⟨B, 1, none⟩ = some (.int .i64 k2) ∧ w'.cell? ⟨B, 2, none⟩ = some (.int .i64 k3))) (first | (go_keep; done) | exact Hid.out KEEP2 | exact Hid.out KEEP0) (first
          | (go_at_call 25; refine (Hid.out HCM).mono ?_; rintro e w7 ⟨rfl, h7⟩; have HB7 : Hid (Below wr.heap.size wr w7) := h7; have KEEP2 : Hid ((w7.cell? ⟨b, 1, none⟩ = some (.slice (some ⟨g, go, none⟩) n rc)) ∧ (w7.cell? ⟨g, go + i * 10, none⟩ = some (.int .i64 y1) ∧ w7.cell? ⟨g, go + i * 10 + 1, none⟩ = some (.int .i64 y2) ∧ w7.cell? ⟨g, go + i * 10 + 2, none⟩ = some (.int .i64 y3)) ∧ (w7.cell? ⟨B, 0, none⟩ = some (.int .i64 k1) ∧ w7.cell? ⟨B, 1, none⟩ = some (.int .i64 k2) ∧ w7.cell? ⟨B, 2, none⟩ = some (.int .i64 k3))) := (Hid.out HFC _ h7).1; clear h7))
        go_wp2
        go_roundw
        case rel =>
          refine ⟨i + 1, la, lc, m0, by go_num, by omega, rfl, by omega, ?_, ?_⟩
          · have h1 := HML.out
            rw [← HST.out] at h1
            exact h1
          · have h1 := H2.out.on HB7.out
            rw [← HST.out] at h1
            exact h1
        case measure => simp [intOf]; omega
    · obtain rfl : i = n := by omega
      have htk : l.take i = l := List.take_of_length_le (by rw [HNL.out]; exact Nat.le_refl _)
      have hmc : m0 = c := by rw [← HML.out, htk, HCC.out]
      subst hmc
      have H3 : Hid (R2 w1 wr (.slice (some ⟨B + 1, 0, none⟩) 0 0) [] (.slice la m0 lc) (l.filter f)) := by have h1 := H2.out; rw [htk] at h1; exact h1
      clear htk H2 HML
      go_wp2_with fail
      go_loopw [5, 8] (fun s5 s8 wr => ∃ (j : Nat) (oa : Option Addr) (oc : Nat), s8 = .int .i64 ((j : Int) - 1) ∧ m0 ≤ j ∧ j ≤ i ∧ s5 = .slice oa (i - j) oc ∧ Hid (R2 w1 wr (.slice oa (i - j) oc) (l.drop j).reverse (.slice la m0 lc) (l.filter f))) (fun _ s8 _ => (intOf s8 + 1).toNat)
      case atStart => exact ⟨i, some ⟨B + 1, 0, none⟩, 0, rfl, hcn, Nat.le_refl _, by rw [Nat.sub_self], by rw [Nat.sub_self, List.drop_of_length_le (by rw [HNL.out]; exact Nat.le_refl _)]; exact H3.out⟩
      case round =>
        obtain ⟨j, oa, oc, rfl, hmj, hji, rfl, H4⟩ := hrel
        have HBW4 : Hid (Below w1.heap.size w1 wr) := H4.out.l.bel
        by_cases hlt2 : m0 < j
        · obtain ⟨t, ht⟩ : ∃ t, j = t + 1 := ⟨j - 1, by omega⟩
          have ht1 : (j : Int) - 1 = (t : Int) := by omega
          rw [ht1]
          have htl : t < l.length := by rw [HNL.out]; omega
          obtain ⟨x, hx⟩ : ∃ x, nth cE l t = x := ⟨_, rfl⟩
          obtain ⟨⟨p1, _, lbw4⟩, _, _⟩ := HRD.out wr HBW4.out
          obtain ⟨g, go, rfl, lg4, _, u0, u1, u2, u3, u4, u5, u6, u7, u8, u9⟩ := (HRD.out wr HBW4.out).2.2.entry htl hx
          obtain ⟨X, hX⟩ : ∃ X, (l.drop j).reverse ++ [x] = X := ⟨_, rfl⟩
          have hX2 : X = (l.drop t).reverse := by
            rw [← hX, ht]
            have : l.drop t = l[t] :: l.drop (t + 1) := List.drop_eq_getElem_cons htl
            rw [this, List.reverse_cons, ← nth_get (C := cE) htl, hx]
          have HX2 : Hid (X = (l.drop t).reverse) := hX2
          have HXL : Hid (X.length = i - t) := by show X.length = i - t; rw [hX2, List.length_reverse, List.length_drop, HNL.out]
          have HX : Hid ((l.drop j).reverse ++ [x] = X) := hX
          have HAL : Hid ((l.drop j).reverse.length ≤ 100000) := by show (l.drop j).reverse.length ≤ 100000; rw [List.length_reverse, List.length_drop, HNL.out]; omega
          obtain ⟨nn, hnn⟩ : ∃ nn, i - j = nn := ⟨_, rfl⟩
          rw [hnn] at H4 ⊢
          have HTT : Hid (j = t + 1) := ht
          have e0 : (m0 : Int) ≤ (t : Int) := by omega
          have e1 : (t : Int) < (i : Int) := by omega
          have e2 : (0 : Int) ≤ (t : Int) := by omega
          obtain ⟨⟨⟨⟨y1, y2, y3⟩, y4, y5, y6⟩, y7, y8, y9, yos⟩, yoa, yoc⟩ := x
          dsimp only at u0 u1 u2 u3 u4 u5 u6 u7 u8 u9
          obtain ⟨m, hm⟩ : ∃ m, yos.length = m := ⟨_, rfl⟩
          rw [hm] at u9
          have HEV2 : Hid (#[.int .i64 y1, .int .i64 y2, .int .i64 y3, .int .i64 y4, .int .i64 y5, .int .i64 y6, .int .i64 y7, .int .i64 y8, .int .i64 y9, .slice yoa m yoc] = (cE.enc ⟨⟨((y1, y2, y3), y4, y5, y6), y7, y8, y9, yos⟩, yoa, yoc⟩).toArray) := by show #[.int .i64 y1, .int .i64 y2, .int .i64 y3, .int .i64 y4, .int .i64 y5, .int .i64 y6, .int .i64 y7, .int .i64 y8, .int .i64 y9, .slice yoa m yoc] = (cE.enc ⟨⟨((y1, y2, y3), y4, y5, y6), y7, y8, y9, yos⟩, yoa, yoc⟩).toArray; rw [← hm]; rfl
          clear hx hX hX2 hm ht ht1 hnn
          go_wp2_with (at_builtin; refine wpList_append_R tyD (fun _ => True) _ rfl (.tmp 54) (.tmp 62) rfl (.slice oa nn oc) _ _ (l.drop j).reverse [⟨⟨((y1, y2, y3), y4, y5, y6), y7, y8, y9, yos⟩, yoa, yoc⟩] rfl rfl (OwR.below (RwS.own (R2.o (Hid.out H4))) (al _ _)) (RdN.new cE _ ⟨⟨((y1, y2, y3), y4, y5, y6), y7, y8, y9, yos⟩, yoa, yoc⟩ _ _ (Hid.out HEV2) trivial) (Hid.out HAL) (by simp) X (Hid.out HX) ?_; intro a' c' w8 ho hm; have H5 : Hid (R2 w1 w8 (.slice a' X.length c') X (.slice la m0 lc) (l.filter f)) := R2.out (R2.on (Hid.out H4) (al _ _)) ho hm; clear ho hm)
          go_roundw
          case rel =>
            refine ⟨t, a', c', by congr 1, by omega, by omega, by rw [HXL.out], ?_⟩
            have h1 : R2 w1 w8 (.slice a' X.length c') X (.slice la m0 lc) (l.filter f) := H5.out
            rw [HXL.out, HX2.out] at h1
            exact h1
          case measure => simp [intOf] <;> omega
        · obtain rfl : j = m0 := by omega
          obtain ⟨⟨p1, p2, lbw4⟩, _, _⟩ := HRD.out wr HBW4.out
          have e0 : ¬ (j : Int) ≤ (j : Int) - 1 := by omega
          go_wp2
          go_ret
          exact HFIN.out H4.out
end Go.Proofs.Ytgifanioeeacdaa
