/- Proved: the contract of Push of the document's past. -/
import Derived.Test.YtgifanioeeacdaaDc0
import Derived.Test.YtgifanioeeacdaaPa4
import Derived.Test.YtgifanioeeacdaaPky
import Derived.BigQuiet
import Derived.Deep.QuietTactic
namespace Go.Proofs.Ytgifanioeeacdaa
open Go.RowKit Go.Shelf Go.Sort
set_option linter.unusedVariables false

def RPush (Y : Nat → Prop) (w : World) (fl : Int) (L : List P) (b : Nat) (p : P) (e : Ending) (w' : World) : Prop := e = .returned (.int .i64 (pushE fl L p)) ∧ RP Y w' fl (pushL fl L p) b ∧ Fr (fun k => k = b) w w'
theorem rpush_no {Y : Nat → Prop} {w w' : World} {fl : Int} {L : List P} {b : Nat} {p : P} {c : Int} (h : RP Y w fl L b) (hb : Below w.heap.size w w') (hc : pushE fl L p = c) (hn : c ≠ 0) : RPush Y w fl L b p (.returned (.int .i64 c)) w' := by
  refine ⟨by rw [hc], ?_, Fr.of_below hb⟩
  unfold pushL
  rw [if_neg (by rw [hc]; exact hn)]
  exact h.below hb
theorem rpush_yes {Y : Nat → Prop} {w W : World} {fl : Int} {l : List E} {b : Nat} {ra a' : Option Addr} {rc c' : Nat} {x : E} {X : List E} (h : RQ Y w fl l b ra rc) (hs : SrtP (l.map E.p)) (hx : Out (fun k => k ≠ b ∧ ¬ Y k) w x) (hc : pushE fl (l.map E.p) x.p = 0) (hX : l ++ [x] = X) (hr : RwS cE 40 w W (.slice a' X.length c') X) :
    RPush Y w fl (l.map E.p) b x.p (.returned (.int .i64 0)) (W.setCell ⟨b, 1, none⟩ (.slice a' X.length c')) := by
  have hce := hc
  unfold pushE at hc
  split at hc
  · simp at hc
  split at hc
  · simp at hc
  split at hc
  · simp at hc
  rename_i h1 h2 h3
  rw [List.length_map] at h3
  subst hX
  obtain ⟨hp, hf⟩ := h.put hr (fun y hy => by
    rcases List.mem_append.1 hy with g | g
    · exact h.outs y g
    · obtain rfl : y = x := by simpa using g
      exact hx) (by simp; omega)
  refine ⟨by rw [hce], ?_, hf⟩
  unfold pushL
  rw [if_pos hce]
  exact ⟨l ++ [x], a', c', by simp, hp, hs.push (by simpa using h2)⟩
theorem cmp_ge (a b : K) : 0 ≤ kcmp a b ↔ klt a b = false := by
  have := kcmp_neg a b
  cases h : klt a b
  · rw [h] at this; simp at this; simpa using this
  · rw [h] at this; simp at this; simp; omega
set_option maxRecDepth 100000 in
set_option maxHeartbeats 4000000 in
theorem rpush_any {Y : Nat → Prop} {w : World} {fl : Int} {L : List P} {b : Nat} (h : RP Y w fl L b) {x : E} (ho : Out (fun k => k ≠ b ∧ ¬ Y k) w x) :
    Calls Try.prog 12 #[.pointer (some ⟨b, 0, none⟩), ev x] w (RPush Y w fl L b x.p) := by
  have mixed : Try.prog.follows .mixedOrders = true := by kernel_rfl
  have HH : RP Y w fl L b := h
  obtain ⟨l, ra, rc, rfl, hq, hs⟩ := h
  obtain ⟨n, hn⟩ : ∃ n, l.length = n := ⟨_, rfl⟩
  obtain ⟨⟨⟨⟨y1, y2, y3⟩, y4, y5, y6⟩, y7, y8, y9, yos⟩, yoa, yoc⟩ := x
  obtain ⟨p, hp⟩ : ∃ p : P, p = ⟨((y1, y2, y3), y4, y5, y6), y7, y8, y9, yos⟩ := ⟨_, rfl⟩
  obtain ⟨m, hm⟩ : ∃ m, yos.length = m := ⟨_, rfl⟩
  obtain ⟨w1, hw1⟩ : ∃ w1, w1 = w.alloc (.cells #[.int .i64 y1, .int .i64 y2, .int .i64 y3, .int .i64 y4, .int .i64 y5, .int .i64 y6, .int .i64 y7, .int .i64 y8, .int .i64 y9, .slice yoa m yoc] 40) := ⟨_, rfl⟩
  have hb1 : Below w.heap.size w w1 := by rw [hw1]; exact al _ _
  obtain ⟨B, hB⟩ : ∃ B, w.heap.size = B := ⟨_, rfl⟩
  have B0 : w1.heap[B]? = some (.cells #[.int .i64 y1, .int .i64 y2, .int .i64 y3, .int .i64 y4, .int .i64 y5, .int .i64 y6, .int .i64 y7, .int .i64 y8, .int .i64 y9, .slice yoa m yoc] 40) := by rw [hw1, ← hB]; exact newB _ _
  have hq1 := hq.below hb1
  have HRD : Hid (∀ W, Below w1.heap.size w1 W → (W.cell? ⟨b, 0, none⟩ = some (.int .i64 fl) ∧ W.cell? ⟨b, 1, none⟩ = some (.slice ra n rc) ∧ W.frozen? ⟨b, 1, none⟩ = false) ∧ (W.cell? ⟨B, 0, none⟩ = some (.int .i64 y1) ∧ W.cell? ⟨B, 1, none⟩ = some (.int .i64 y2) ∧ W.cell? ⟨B, 2, none⟩ = some (.int .i64 y3) ∧ W.cell? ⟨B, 3, none⟩ = some (.int .i64 y4) ∧ W.cell? ⟨B, 4, none⟩ = some (.int .i64 y5) ∧ W.cell? ⟨B, 5, none⟩ = some (.int .i64 y6) ∧ W.cell? ⟨B, 6, none⟩ = some (.int .i64 y7) ∧ W.cell? ⟨B, 7, none⟩ = some (.int .i64 y8) ∧ W.cell? ⟨B, 8, none⟩ = some (.int .i64 y9) ∧ W.cell? ⟨B, 9, none⟩ = some (.slice yoa m yoc))) := fun W hW => by
    have B := (hW.block B (Array.getElem?_eq_some_iff.1 B0).1).trans B0
    have c1 := (hq1.below hW).c1
    rw [hn] at c1
    exact ⟨⟨(hq1.below hW).c0, c1, frozB (hq1.below hW).blk 1⟩, cellB B 0, cellB B 1, cellB B 2, cellB B 3, cellB B 4, cellB B 5, cellB B 6, cellB B 7, cellB B 8, cellB B 9⟩
  have HNO : Hid (∀ {W : World} {k : Int}, Below w1.heap.size w1 W → pushE fl (l.map E.p) p = k → k ≠ 0 → RPush Y w fl (l.map E.p) b p (.returned (.int .i64 k)) W) := fun hW he hk => rpush_no HH (Below.on hb1 hW) he hk
  have HYES : Hid (∀ {W : World} {a' : Option Addr} {c' : Nat} {X : List E}, pushE fl (l.map E.p) p = 0 → l ++ [⟨p, yoa, yoc⟩] = X → RwS cE 40 w W (.slice a' X.length c') X → RPush Y w fl (l.map E.p) b p (.returned (.int .i64 0)) (W.setCell ⟨b, 1, none⟩ (.slice a' X.length c'))) := fun he hX hr => rpush_yes (x := ⟨p, yoa, yoc⟩) hq hs (by rw [hp]; exact ho) he hX hr
  obtain ⟨⟨x0, x1, _⟩, z0, z1, z2, z3, z4, z5, z6, z7, z8, z9⟩ := HRD.out w1 (Below.refl _ _)
  have hpe : pushE fl (l.map E.p) p = if y1 < fl then 110 else if 0 < n ∧ klt (nth cE l (n - 1)).p.m.1 (y1, y2, y3) = false then 130 else if 64 ≤ n then 2 else 0 := by
    unfold pushE
    rw [List.length_map, nthP_map, hp, hn]
  have HW : Hid (w1 = w.alloc (.cells #[.int .i64 y1, .int .i64 y2, .int .i64 y3, .int .i64 y4, .int .i64 y5, .int .i64 y6, .int .i64 y7, .int .i64 y8, .int .i64 y9, .slice yoa m yoc] 40)) := hw1
  have HQ : Hid (RQ Y w fl l b ra rc) := hq
  have HB1 : Hid (Below w.heap.size w w1) := hb1
  have HM : Hid (yos.length = m) := hm
  have HPP : Hid (p = ⟨((y1, y2, y3), y4, y5, y6), y7, y8, y9, yos⟩) := hp
  have hcap : n ≤ 64 := by rw [← hn]; exact hq.cap
  have lb : b < w1.heap.size := hq1.lt
  have lB : B < w1.heap.size := (Array.getElem?_eq_some_iff.1 B0).1
  have hbB : b ≠ B := by have := hq.lt; omega
  have HBB : Hid (w.heap.size = B) := hB
  have HNL : Hid (l.length = n) := hn
  have HROW : Hid (∀ W, Below w1.heap.size w1 W → RdN cE (fun _ => True) W ra l) := fun W hW => ((hq1.below hW).row).wide (fun _ _ _ => trivial)
  have HRW : Hid (∀ {W : World}, Below w1.heap.size w1 W → RwS cE 40 w (W.alloc (.cells #[] 40)) (.slice (some ⟨W.heap.size, 0, none⟩) 0 0) []) := fun hW => RwS.made _ _ (Below.on hb1 hW)
  have HEV : Hid (#[.int .i64 y1, .int .i64 y2, .int .i64 y3, .int .i64 y4, .int .i64 y5, .int .i64 y6, .int .i64 y7, .int .i64 y8, .int .i64 y9, .slice yoa m yoc] = (cE.enc ⟨p, yoa, yoc⟩).toArray) := by show #[.int .i64 y1, .int .i64 y2, .int .i64 y3, .int .i64 y4, .int .i64 y5, .int .i64 y6, .int .i64 y7, .int .i64 y8, .int .i64 y9, .slice yoa m yoc] = (cE.enc ⟨p, yoa, yoc⟩).toArray; rw [hp, ← hm]; rfl
  dsimp only [ev]
  rw [hm, ← hp]
  clear hn HH hb1 B0 hq1 hq hs hm hp ho hw1 hB
  by_cases c1 : y1 < fl
  · rw [if_pos c1] at hpe
    have HPE : Hid (pushE fl (l.map E.p) p = 110) := hpe
    clear hpe
    go_enter Try.func12, Try.ntmps12
    go_wp2_with fail
    rw [← HW.out]
    simp only [HBB.out]
    go_quiet (fail)
    go_wp2
    go_ret
    exact HNO.out ⟨rfl, rfl, rfl, Nat.le_refl _, fun _ _ => rfl⟩ HPE.out (by decide)
  · rw [if_neg c1] at hpe
    by_cases c2 : 0 < n
    · obtain ⟨j, hj⟩ : ∃ j, n = j + 1 := ⟨n - 1, by omega⟩
      obtain ⟨x', hx'⟩ : ∃ x', nth cE l j = x' := ⟨_, rfl⟩
      have hj1 : n - 1 = j := by omega
      rw [hj1, hx'] at hpe
      obtain ⟨g, go, rfl, hgl, _⟩ := HQ.out.row.entry (i := j) (by rw [HNL.out]; omega) hx'
      obtain ⟨k1, k2, k3, hk⟩ : ∃ k1 k2 k3, x'.p.m.1 = (k1, k2, k3) := ⟨_, _, _, rfl⟩
      rw [hk] at hpe
      have HRL : Hid (∀ W, Below w1.heap.size w1 W → W.cell? ⟨g, go + j * 10, none⟩ = some (.int .i64 k1) ∧ W.cell? ⟨g, go + j * 10 + 1, none⟩ = some (.int .i64 k2) ∧ W.cell? ⟨g, go + j * 10 + 2, none⟩ = some (.int .i64 k3)) := fun W hW => by
        obtain ⟨g', go', e, _, _, u0, u1, u2, _⟩ := (HROW.out W hW).entry (i := j) (by rw [HNL.out]; omega) hx'
        simp at e
        obtain ⟨rfl, rfl⟩ := e
        rw [hk] at u0 u1 u2
        exact ⟨u0, u1, u2⟩
      obtain ⟨r2, hr2⟩ : ∃ r2, kcmp (k1, k2, k3) (y1, y2, y3) = r2 := ⟨_, rfl⟩
      have hle := cmp_ge (k1, k2, k3) (y1, y2, y3)
      rw [hr2] at hle
      have HSK : Hid (∀ W, Below w1.heap.size w1 W → Calls Try.prog 25 #[.agg #[.int .i64 k1, .int .i64 k2, .int .i64 k3], .agg #[.int .i64 y1, .int .i64 y2, .int .i64 y3]] W.drew fun e w' => e = .returned (.int .i64 r2) ∧ Below w1.heap.size w1 w') := fun W hW => by
        have h1 := refcmp_any (k1, k2, k3) (y1, y2, y3) W.drew
        rw [hr2] at h1
        exact h1.mono fun e w' ⟨he, hb⟩ => ⟨he, Below.on hW.drew hb⟩
      have e1 : (n : Int) - 1 = (j : Int) := by omega
      have e2 : IntKind.i64.wrap ((n : Int) - 1) = (j : Int) := by rw [e1]; exact wrapN j (by omega)
      have e3 : IntKind.i64.wrap (j : Int) = (j : Int) := wrapN j (by omega)
      have e4 : (0 : Int) ≤ (j : Int) := by omega
      have e5 : (j : Int) < (n : Int) := by omega
      have hd : decide ((0 : Int) < (n : Int)) = true := by simp; omega
      have hd2 : (0 : Int) < (n : Int) := by omega
      have hd3 : decide (0 < n) = true := by simpa using c2
      have lg : g < w1.heap.size := Nat.lt_of_lt_of_le hgl HB1.out.size
      by_cases c3 : 0 ≤ r2
      · rw [if_pos ⟨c2, hle.1 c3⟩] at hpe
        have HPE : Hid (pushE fl (l.map E.p) p = 130) := hpe
        clear hpe hle hr2 hx' hk hj hj1 hgl c2
        go_enter Try.func12, Try.ntmps12
        go_wp2_with fail
        rw [← HW.out]
        simp only [HBB.out]
        go_quiet (fail)
        obtain ⟨w2, hw2⟩ : ∃ w2, w2 = w1.drewN nq := ⟨_, rfl⟩
        rw [← hw2]
        have HB2 : Hid (Below w1.heap.size w1 w2) := by rw [hw2]; exact ⟨rfl, rfl, rfl, Nat.le_refl _, fun _ _ => rfl⟩
        clear hw2
        have d20 := (HRD.out w2 HB2.out).1.2.1
        go_wp2_with fail
        have KEEP2 : Hid ((w2.drew.cell? ⟨b, 1, none⟩ = some (.slice (some ⟨g, go, none⟩) n rc)) ∧ (w2.drew.cell? ⟨g, go + j * 10, none⟩ = some (.int .i64 k1) ∧ w2.drew.cell? ⟨g, go + j * 10 + 1, none⟩ = some (.int .i64 k2) ∧ w2.drew.cell? ⟨g, go + j * 10 + 2, none⟩ = some (.int .i64 k3)) ∧ (w2.drew.cell? ⟨B, 0, none⟩ = some (.int .i64 y1) ∧ w2.drew.cell? ⟨B, 1, none⟩ = some (.int .i64 y2) ∧ w2.drew.cell? ⟨B, 2, none⟩ = some (.int .i64 y3))) := ⟨(HRD.out _ HB2.out.drew).1.2.1, HRL.out _ HB2.out.drew, (HRD.out _ HB2.out.drew).2.1, (HRD.out _ HB2.out.drew).2.2.1, (HRD.out _ HB2.out.drew).2.2.2.1⟩
        obtain ⟨_, ⟨f0, f1, f2⟩, f3, f4, f5⟩ := KEEP2.out
        go_region_held3 (fun w' => (w'.cell? ⟨b, 1, none⟩ = some (.slice (some ⟨g, go, none⟩) n rc)) ∧ (w'.cell? ⟨g, go + j * 10, none⟩ = some (.int .i64 k1) ∧ w'.cell? ⟨g, go + j * 10 + 1, none⟩ = some (.int .i64 k2) ∧ w'.cell? ⟨g, go + j * 10 + 2, none⟩ = some (.int .i64 k3)) ∧ (w'.cell? ⟨B, 0, none⟩ = some (.int .i64 y1) ∧ w'.cell? ⟨B, 1, none⟩ = some (.int .i64 y2) ∧ w'.cell? ⟨B, 2, none⟩ = some (.int .i64 y3))) (first | (go_keep; done) | exact Hid.out KEEP3 | exact Hid.out KEEP2) (first
          | (go_at_call 25; refine (Hid.out HSK _ (Hid.out HB2)).mono ?_; rintro e w3 ⟨rfl, hb3⟩; have HB3 : Hid (Below w1.heap.size w1 w3) := hb3; have KEEP3 : Hid ((w3.cell? ⟨b, 1, none⟩ = some (.slice (some ⟨g, go, none⟩) n rc)) ∧ (w3.cell? ⟨g, go + j * 10, none⟩ = some (.int .i64 k1) ∧ w3.cell? ⟨g, go + j * 10 + 1, none⟩ = some (.int .i64 k2) ∧ w3.cell? ⟨g, go + j * 10 + 2, none⟩ = some (.int .i64 k3)) ∧ (w3.cell? ⟨B, 0, none⟩ = some (.int .i64 y1) ∧ w3.cell? ⟨B, 1, none⟩ = some (.int .i64 y2) ∧ w3.cell? ⟨B, 2, none⟩ = some (.int .i64 y3))) := ⟨(Hid.out HRD _ hb3).1.2.1, Hid.out HRL _ hb3, (Hid.out HRD _ hb3).2.1, (Hid.out HRD _ hb3).2.2.1, (Hid.out HRD _ hb3).2.2.2.1⟩; clear hb3))
        go_wp2
        go_ret
        exact HNO.out HB3.out HPE.out (by decide)
      · rw [if_neg (fun e => c3 (hle.2 e.2))] at hpe
        by_cases c4 : 64 ≤ n
        · rw [if_pos c4] at hpe
          have HPE : Hid (pushE fl (l.map E.p) p = 2) := hpe
          have c4' : (64 : Int) ≤ (n : Int) := by omega
          clear hpe hle hr2 hx' hk hj hj1 hgl c2
          go_enter Try.func12, Try.ntmps12
          go_wp2_with fail
          rw [← HW.out]
          simp only [HBB.out]
          go_quiet (fail)
          obtain ⟨w2, hw2⟩ : ∃ w2, w2 = w1.drewN nq := ⟨_, rfl⟩
          rw [← hw2]
          have HB2 : Hid (Below w1.heap.size w1 w2) := by rw [hw2]; exact ⟨rfl, rfl, rfl, Nat.le_refl _, fun _ _ => rfl⟩
          clear hw2
          have d20 := (HRD.out w2 HB2.out).1.2.1
          go_wp2_with fail
          have KEEP2 : Hid ((w2.drew.cell? ⟨b, 1, none⟩ = some (.slice (some ⟨g, go, none⟩) n rc)) ∧ (w2.drew.cell? ⟨g, go + j * 10, none⟩ = some (.int .i64 k1) ∧ w2.drew.cell? ⟨g, go + j * 10 + 1, none⟩ = some (.int .i64 k2) ∧ w2.drew.cell? ⟨g, go + j * 10 + 2, none⟩ = some (.int .i64 k3)) ∧ (w2.drew.cell? ⟨B, 0, none⟩ = some (.int .i64 y1) ∧ w2.drew.cell? ⟨B, 1, none⟩ = some (.int .i64 y2) ∧ w2.drew.cell? ⟨B, 2, none⟩ = some (.int .i64 y3))) := ⟨(HRD.out _ HB2.out.drew).1.2.1, HRL.out _ HB2.out.drew, (HRD.out _ HB2.out.drew).2.1, (HRD.out _ HB2.out.drew).2.2.1, (HRD.out _ HB2.out.drew).2.2.2.1⟩
          obtain ⟨_, ⟨f0, f1, f2⟩, f3, f4, f5⟩ := KEEP2.out
          go_region_held3 (fun w' => (w'.cell? ⟨b, 1, none⟩ = some (.slice (some ⟨g, go, none⟩) n rc)) ∧ (w'.cell? ⟨g, go + j * 10, none⟩ = some (.int .i64 k1) ∧ w'.cell? ⟨g, go + j * 10 + 1, none⟩ = some (.int .i64 k2) ∧ w'.cell? ⟨g, go + j * 10 + 2, none⟩ = some (.int .i64 k3)) ∧ (w'.cell? ⟨B, 0, none⟩ = some (.int .i64 y1) ∧ w'.cell? ⟨B, 1, none⟩ = some (.int .i64 y2) ∧ w'.cell? ⟨B, 2, none⟩ = some (.int .i64 y3))) (first | (go_keep; done) | exact Hid.out KEEP3 | exact Hid.out KEEP2) (first
            | (go_at_call 25; refine (Hid.out HSK _ (Hid.out HB2)).mono ?_; rintro e w3 ⟨rfl, hb3⟩; have HB3 : Hid (Below w1.heap.size w1 w3) := hb3; have KEEP3 : Hid ((w3.cell? ⟨b, 1, none⟩ = some (.slice (some ⟨g, go, none⟩) n rc)) ∧ (w3.cell? ⟨g, go + j * 10, none⟩ = some (.int .i64 k1) ∧ w3.cell? ⟨g, go + j * 10 + 1, none⟩ = some (.int .i64 k2) ∧ w3.cell? ⟨g, go + j * 10 + 2, none⟩ = some (.int .i64 k3)) ∧ (w3.cell? ⟨B, 0, none⟩ = some (.int .i64 y1) ∧ w3.cell? ⟨B, 1, none⟩ = some (.int .i64 y2) ∧ w3.cell? ⟨B, 2, none⟩ = some (.int .i64 y3))) := ⟨(Hid.out HRD _ hb3).1.2.1, Hid.out HRL _ hb3, (Hid.out HRD _ hb3).2.1, (Hid.out HRD _ hb3).2.2.1, (Hid.out HRD _ hb3).2.2.2.1⟩; clear hb3))
          go_wp2
          go_ret
          exact HNO.out HB3.out HPE.out (by decide)
        · rw [if_neg c4] at hpe
          have c4' : ¬ (64 : Int) ≤ (n : Int) := by omega
          have HPE : Hid (pushE fl (l.map E.p) p = 0) := hpe
          clear hpe hle hr2 hx' hk hj hj1 hgl c2
          go_enter Try.func12, Try.ntmps12
          go_wp2_with fail
          rw [← HW.out]
          simp only [HBB.out]
          go_quiet (fail)
          obtain ⟨w2, hw2⟩ : ∃ w2, w2 = w1.drewN nq := ⟨_, rfl⟩
          rw [← hw2]
          have HB2 : Hid (Below w1.heap.size w1 w2) := by rw [hw2]; exact ⟨rfl, rfl, rfl, Nat.le_refl _, fun _ _ => rfl⟩
          clear hw2
          have d20 := (HRD.out w2 HB2.out).1.2.1
          go_wp2_with fail
          have KEEP2 : Hid ((w2.drew.cell? ⟨b, 1, none⟩ = some (.slice (some ⟨g, go, none⟩) n rc)) ∧ (w2.drew.cell? ⟨g, go + j * 10, none⟩ = some (.int .i64 k1) ∧ w2.drew.cell? ⟨g, go + j * 10 + 1, none⟩ = some (.int .i64 k2) ∧ w2.drew.cell? ⟨g, go + j * 10 + 2, none⟩ = some (.int .i64 k3)) ∧ (w2.drew.cell? ⟨B, 0, none⟩ = some (.int .i64 y1) ∧ w2.drew.cell? ⟨B, 1, none⟩ = some (.int .i64 y2) ∧ w2.drew.cell? ⟨B, 2, none⟩ = some (.int .i64 y3))) := ⟨(HRD.out _ HB2.out.drew).1.2.1, HRL.out _ HB2.out.drew, (HRD.out _ HB2.out.drew).2.1, (HRD.out _ HB2.out.drew).2.2.1, (HRD.out _ HB2.out.drew).2.2.2.1⟩
          obtain ⟨_, ⟨f0, f1, f2⟩, f3, f4, f5⟩ := KEEP2.out
          go_region_held3 (fun w' => (w'.cell? ⟨b, 1, none⟩ = some (.slice (some ⟨g, go, none⟩) n rc)) ∧ (w'.cell? ⟨g, go + j * 10, none⟩ = some (.int .i64 k1) ∧ w'.cell? ⟨g, go + j * 10 + 1, none⟩ = some (.int .i64 k2) ∧ w'.cell? ⟨g, go + j * 10 + 2, none⟩ = some (.int .i64 k3)) ∧ (w'.cell? ⟨B, 0, none⟩ = some (.int .i64 y1) ∧ w'.cell? ⟨B, 1, none⟩ = some (.int .i64 y2) ∧ w'.cell? ⟨B, 2, none⟩ = some (.int .i64 y3))) (first | (go_keep; done) | exact Hid.out KEEP3 | exact Hid.out KEEP2) (first
            | (go_at_call 25; refine (Hid.out HSK _ (Hid.out HB2)).mono ?_; rintro e w3 ⟨rfl, hb3⟩; have HB3 : Hid (Below w1.heap.size w1 w3) := hb3; have KEEP3 : Hid ((w3.cell? ⟨b, 1, none⟩ = some (.slice (some ⟨g, go, none⟩) n rc)) ∧ (w3.cell? ⟨g, go + j * 10, none⟩ = some (.int .i64 k1) ∧ w3.cell? ⟨g, go + j * 10 + 1, none⟩ = some (.int .i64 k2) ∧ w3.cell? ⟨g, go + j * 10 + 2, none⟩ = some (.int .i64 k3)) ∧ (w3.cell? ⟨B, 0, none⟩ = some (.int .i64 y1) ∧ w3.cell? ⟨B, 1, none⟩ = some (.int .i64 y2) ∧ w3.cell? ⟨B, 2, none⟩ = some (.int .i64 y3))) := ⟨(Hid.out HRD _ hb3).1.2.1, Hid.out HRL _ hb3, (Hid.out HRD _ hb3).2.1, (Hid.out HRD _ hb3).2.2.1, (Hid.out HRD _ hb3).2.2.2.1⟩; clear hb3))
          have d30 := (HRD.out w3 HB3.out).1.2.1
          obtain ⟨X, hX⟩ : ∃ X, l ++ [⟨p, yoa, yoc⟩] = X := ⟨_, rfl⟩
          have HX : Hid (l ++ [⟨p, yoa, yoc⟩] = X) := hX
          have HXL : Hid (X.length = n + 1) := by show X.length = n + 1; rw [← hX, List.length_append, HNL.out]; rfl
          have HLL : Hid (l.length ≤ 100000) := by show l.length ≤ 100000; rw [HNL.out]; omega
          have HAP : Hid (∀ o, RdN cE (fun _ => True) (w3.alloc o) (some ⟨g, go, none⟩) l) := fun o => HROW.out _ (Below.on HB3.out (al _ _))
          have HA0 : Hid ([] ++ l = l) := List.nil_append l
          have lb3 : b < w3.heap.size := Nat.lt_of_lt_of_le lb HB3.out.size
          clear hX
          go_wp2_with (first
            | (at_builtin; refine wpList_append_R tyD (fun _ => True) _ rfl (.tmp 50) (.tmp 52) rfl (.slice a1 l.length c1) _ _ l [⟨p, yoa, yoc⟩] rfl rfl (OwR.below (RwS.own (Hid.out H4)) (al _ _)) (RdN.new cE _ ⟨p, yoa, yoc⟩ _ _ (Hid.out HEV) trivial) (Hid.out HLL) (by simp) X (Hid.out HX) ?_; intro a2 c2 w5 ho hm; have H5 : Hid (RwS cE 40 w w5 (.slice a2 X.length c2) X) := RwS.app (RwS.on (Hid.out H4) (al _ _)) ho hm; have HB5 : Hid (Below w1.heap.size w1 w5) := (Below.on (Hid.out HB4) (al _ _)).trans (hm.fr.below (by have := (Hid.out HB4).size; simp; omega) (fun k e => by have := RwS.new (Hid.out H4) k e; have h9 := (Hid.out HNEW) k e; exact h9)); have f51 := (Hid.out HRD w5 (Hid.out HB5)).1.2.1; have f52 := (Hid.out HRD w5 (Hid.out HB5)).1.2.2; clear ho hm)
            | (at_builtin; refine wpList_append_R tyD (fun _ => True) _ rfl (.tmp 43) (.tmp 47) rfl (.slice (some ⟨w3.heap.size, 0, none⟩) 0 0) (some ⟨g, go, none⟩) rc [] l rfl (by rw [HNL.out]; rfl) (RwS.own (Hid.out HRW (Hid.out HB3))) (Hid.out HAP _) (by simp) (Hid.out HLL) l (Hid.out HA0) ?_; intro a1 c1 w4 ho hm; have H4 : Hid (RwS cE 40 w w4 (.slice a1 l.length c1) l) := RwS.app (Hid.out HRW (Hid.out HB3)) ho hm; have HNEW : Hid (∀ k, (Value.slice a1 l.length c1).ownBlock = some k → w1.heap.size ≤ k) := (fun k e => new_ge (w := w1) (by have := (Hid.out HB3).size; simp; omega) (fun k e => by have := (Hid.out HB3).size; simp [Value.ownBlock] at e; omega) hm e); have HB4 : Hid (Below w1.heap.size w1 w4) := (Below.on (Hid.out HB3) (al _ _)).trans (hm.fr.below (by have := (Hid.out HB3).size; simp; omega) (fun k e => by have := (Hid.out HB3).size; simp [Value.ownBlock] at e; omega)); obtain ⟨g0, g1, g2, g3, g4, g5, g6, g7, g8, g9⟩ := (Hid.out HRD w4 (Hid.out HB4)).2; clear ho hm))
          go_ret
          exact HYES.out HPE.out HX.out H5.out
    · have hl0 : n = 0 := by omega
      have hd : decide ((0 : Int) < (n : Int)) = false := by simp; omega
      have hd2 : ¬ (0 : Int) < (n : Int) := by omega
      have hd3 : decide (0 < n) = false := by simpa using c2
      rw [if_neg (fun e => c2 e.1), if_neg (by omega)] at hpe
      have HPE : Hid (pushE fl (l.map E.p) p = 0) := hpe
      have c4' : ¬ (64 : Int) ≤ (n : Int) := by omega
      clear hpe c2 hl0
      go_enter Try.func12, Try.ntmps12
      go_wp2_with fail
      rw [← HW.out]
      simp only [HBB.out]
      go_quiet (fail)
      obtain ⟨w2, hw2⟩ : ∃ w2, w2 = w1.drewN nq := ⟨_, rfl⟩
      rw [← hw2]
      have HB2 : Hid (Below w1.heap.size w1 w2) := by rw [hw2]; exact ⟨rfl, rfl, rfl, Nat.le_refl _, fun _ _ => rfl⟩
      clear hw2
      have d20 := (HRD.out w2 HB2.out).1.2.1
      obtain ⟨b20, b21, b22, _⟩ := (HRD.out w2 HB2.out).2
      go_wp2_with fail
      go_quiet (fail)
      obtain ⟨w3, hw3⟩ : ∃ w3, w3 = w2.drewN nq := ⟨_, rfl⟩
      have HB3 : Hid (Below w1.heap.size w1 w3) := by rw [hw3]; exact ⟨HB2.out.os, HB2.out.tape, HB2.out.output, HB2.out.size, HB2.out.block⟩
      rw [← hw3]
      clear hw3
      have d30 := (HRD.out w3 HB3.out).1.2.1
      obtain ⟨X, hX⟩ : ∃ X, l ++ [⟨p, yoa, yoc⟩] = X := ⟨_, rfl⟩
      have HX : Hid (l ++ [⟨p, yoa, yoc⟩] = X) := hX
      have HXL : Hid (X.length = n + 1) := by show X.length = n + 1; rw [← hX, List.length_append, HNL.out]; rfl
      have HLL : Hid (l.length ≤ 100000) := by show l.length ≤ 100000; rw [HNL.out]; omega
      have HAP : Hid (∀ o, RdN cE (fun _ => True) (w3.alloc o) ra l) := fun o => HROW.out _ (Below.on HB3.out (al _ _))
      have HA0 : Hid ([] ++ l = l) := List.nil_append l
      have lb3 : b < w3.heap.size := Nat.lt_of_lt_of_le lb HB3.out.size
      clear hX
      go_wp2_with (first
        | (at_builtin; refine wpList_append_R tyD (fun _ => True) _ rfl (.tmp 50) (.tmp 52) rfl (.slice a1 l.length c1) _ _ l [⟨p, yoa, yoc⟩] rfl rfl (OwR.below (RwS.own (Hid.out H4)) (al _ _)) (RdN.new cE _ ⟨p, yoa, yoc⟩ _ _ (Hid.out HEV) trivial) (Hid.out HLL) (by simp) X (Hid.out HX) ?_; intro a2 c2 w5 ho hm; have H5 : Hid (RwS cE 40 w w5 (.slice a2 X.length c2) X) := RwS.app (RwS.on (Hid.out H4) (al _ _)) ho hm; have HB5 : Hid (Below w1.heap.size w1 w5) := (Below.on (Hid.out HB4) (al _ _)).trans (hm.fr.below (by have := (Hid.out HB4).size; simp; omega) (fun k e => by have := RwS.new (Hid.out H4) k e; have h9 := (Hid.out HNEW) k e; exact h9)); have f51 := (Hid.out HRD w5 (Hid.out HB5)).1.2.1; have f52 := (Hid.out HRD w5 (Hid.out HB5)).1.2.2; clear ho hm)
        | (at_builtin; refine wpList_append_R tyD (fun _ => True) _ rfl (.tmp 43) (.tmp 47) rfl (.slice (some ⟨w3.heap.size, 0, none⟩) 0 0) ra rc [] l rfl (by rw [HNL.out]; rfl) (RwS.own (Hid.out HRW (Hid.out HB3))) (Hid.out HAP _) (by simp) (Hid.out HLL) l (Hid.out HA0) ?_; intro a1 c1 w4 ho hm; have H4 : Hid (RwS cE 40 w w4 (.slice a1 l.length c1) l) := RwS.app (Hid.out HRW (Hid.out HB3)) ho hm; have HNEW : Hid (∀ k, (Value.slice a1 l.length c1).ownBlock = some k → w1.heap.size ≤ k) := (fun k e => new_ge (w := w1) (by have := (Hid.out HB3).size; simp; omega) (fun k e => by have := (Hid.out HB3).size; simp [Value.ownBlock] at e; omega) hm e); have HB4 : Hid (Below w1.heap.size w1 w4) := (Below.on (Hid.out HB3) (al _ _)).trans (hm.fr.below (by have := (Hid.out HB3).size; simp; omega) (fun k e => by have := (Hid.out HB3).size; simp [Value.ownBlock] at e; omega)); obtain ⟨g0, g1, g2, g3, g4, g5, g6, g7, g8, g9⟩ := (Hid.out HRD w4 (Hid.out HB4)).2; clear ho hm))
      go_ret
      exact HYES.out HPE.out HX.out H5.out
end Go.Proofs.Ytgifanioeeacdaa
