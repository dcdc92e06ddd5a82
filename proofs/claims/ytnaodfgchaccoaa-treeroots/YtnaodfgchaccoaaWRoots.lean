/- Proved: TreeRoots answers true, whatever it is asked; what lay in memory is as it was. -/
import Derived.Test.YtnaodfgchaccoaaCom
import Derived.Deep.RegionHeld3
import Derived.BigQuiet
namespace Go.Proofs.Ytnaodfgchaccoaa
open Go.RowKit Go.Shelf
set_option linter.unusedVariables false

/-- What the walk holds on to: the slices of parents, of what is above the one class, and above the other one. -/
structure Hold (w1 : World) (b1 o1 : Nat) (zs : List Int) (b2 o2 : Nat) (xs : List Int) (b3 o3 : Nat) (ys : List Int) (W : World) : Prop where
  bel : Below w1.heap.size w1 W
  l1 : b1 < W.heap.size
  l2 : b2 < W.heap.size
  l3 : b3 < W.heap.size
  c1 : ∀ i, i < zs.length → W.cell? ⟨b1, o1 + i, none⟩ = some (.int .i64 (nthI zs i))
  c2 : ∀ i, i < xs.length → W.cell? ⟨b2, o2 + i, none⟩ = some (.int .i64 (nthI xs i))
  c3 : ∀ i, i < ys.length → W.cell? ⟨b3, o3 + i, none⟩ = some (.int .i64 (nthI ys i))
theorem Hold.on {w1 : World} {b1 o1 : Nat} {zs : List Int} {b2 o2 : Nat} {xs : List Int} {b3 o3 : Nat} {ys : List Int} {W W' : World} (h : Hold w1 b1 o1 zs b2 o2 xs b3 o3 ys W) (g : Below W.heap.size W W') : Hold w1 b1 o1 zs b2 o2 xs b3 o3 ys W' :=
  ⟨Below.on h.bel g, Nat.lt_of_lt_of_le h.l1 g.size, Nat.lt_of_lt_of_le h.l2 g.size, Nat.lt_of_lt_of_le h.l3 g.size, fun i hi => (g.cell (p := ⟨b1, o1 + i, none⟩) h.l1).trans (h.c1 i hi), fun i hi => (g.cell (p := ⟨b2, o2 + i, none⟩) h.l2).trans (h.c2 i hi), fun i hi => (g.cell (p := ⟨b3, o3 + i, none⟩) h.l3).trans (h.c3 i hi)⟩
theorem Hold.rd {w1 : World} {b1 o1 : Nat} {zs : List Int} {b2 o2 : Nat} {xs : List Int} {b3 o3 : Nat} {ys : List Int} {W : World} (h : Hold w1 b1 o1 zs b2 o2 xs b3 o3 ys W) : RdI W W.heap.size (some ⟨b2, o2, none⟩) xs := fun _ => ⟨b2, o2, rfl, h.l2, h.c2⟩
theorem Hold.rd1 {w1 : World} {b1 o1 : Nat} {zs : List Int} {b2 o2 : Nat} {xs : List Int} {b3 o3 : Nat} {ys : List Int} {W : World} (h : Hold w1 b1 o1 zs b2 o2 xs b3 o3 ys W) : RdI W W.heap.size (some ⟨b1, o1, none⟩) zs := fun _ => ⟨b1, o1, rfl, h.l1, h.c1⟩
theorem Below.drewN {B : Nat} {a w : World} (h : Below B a w) (n : Nat) : Below B a (w.drewN n) := h.trans ⟨rfl, rfl, rfl, Nat.le_refl _, fun _ _ => rfl⟩
theorem rd_some {W : World} {n0 : Nat} {a : Option Addr} {xs : List Int} (h : RdI W n0 a xs) (hx : 1 ≤ xs.length) : ∃ b o, a = some ⟨b, o, none⟩ ∧ (b < n0 ∧ ∀ i, i < xs.length → W.cell? ⟨b, o + i, none⟩ = some (.int .i64 (nthI xs i))) := by
  obtain ⟨b, o, e, h1, h2⟩ := h (by intro e; rw [e] at hx; simp at hx)
  exact ⟨b, o, e, h1, h2⟩
theorem hold_mk {w1 : World} {b1 o1 : Nat} {zs : List Int} {b2 o2 : Nat} {xs : List Int} {b3 o3 : Nat} {ys : List Int} {w2 w3 : World}
    (h1 : b1 < w1.heap.size ∧ ∀ i, i < zs.length → w1.cell? ⟨b1, o1 + i, none⟩ = some (.int .i64 (nthI zs i)))
    (h2 : b2 < w2.heap.size ∧ ∀ i, i < xs.length → w2.cell? ⟨b2, o2 + i, none⟩ = some (.int .i64 (nthI xs i)))
    (h3 : b3 < w3.heap.size ∧ ∀ i, i < ys.length → w3.cell? ⟨b3, o3 + i, none⟩ = some (.int .i64 (nthI ys i)))
    (hB : Below w1.heap.size w1 w3) (hb : Below w2.heap.size w2 w3) : Hold w1 b1 o1 zs b2 o2 xs b3 o3 ys w3 :=
  ⟨hB, Nat.lt_of_lt_of_le h1.1 hB.size, Nat.lt_of_lt_of_le h2.1 hb.size, h3.1, fun i hi => (hB.cell (p := ⟨b1, o1 + i, none⟩) h1.1).trans (h1.2 i hi), fun i hi => (hb.cell (p := ⟨b2, o2 + i, none⟩) h2.1).trans (h2.2 i hi), h3.2⟩

set_option maxRecDepth 100000 in
set_option maxHeartbeats 4000000 in
theorem roots_walk (w : World) (a : Option Addr) (n c : Nat) (z : List Int) (x y : Int) (hn : n ≤ maxLen) (h : InB w a n z) (hx : 0 ≤ x ∧ x ≤ 255) (hy : 0 ≤ y ∧ y ≤ 255) :
    Calls Try.prog 7 #[.slice a n c, .int .u8 x, .int .u8 y] w fun e w' => e = .returned (.bool true) ∧ Below w.heap.size w w' := by
  have MD := Tr.made (c := c) hn h
  clear h
  go_enter Try.func7, Try.ntmps7
  go_wp2_with (go_at_call 20; refine MD.mono ?_; rintro e w1 ⟨zs, a1, c1, rfl, T, hb1⟩; have hl1 := T.ok.1; have hl2 := T.ok.2.1; have HT : Hid (Tr w1 a1 zs) := T; clear MD T; have hnz := len_nz hl1; have hnz' : ¬ ((zs.length : Int) = 0) := (by omega); have hAb := mod_in hl1 x; have hBb := mod_in hl1 y; obtain ⟨A, hA⟩ : ∃ A, x % (zs.length : Int) = A := ⟨_, rfl⟩; obtain ⟨B, hB⟩ : ∃ B, y % (zs.length : Int) = B := ⟨_, rfl⟩; rw [hA] at hAb; rw [hB] at hBb)
  have hB1 := Below.refl w1.heap.size w1
  have A1 := Tr.above (c := c1) HT.out A hB1
  have A2 : Hid (∀ W, Below w1.heap.size w1 W → Calls Try.prog 12 #[.slice a1 zs.length c1, .int .i64 B] W _) := fun W (hb : Below w1.heap.size w1 W) => Tr.above (c := c1) HT.out B hb
  have A3 : Hid (∀ W, Below w1.heap.size w1 W → Calls Try.prog 13 #[.slice a1 zs.length c1, .int .i64 A] W _) := fun W (hb : Below w1.heap.size w1 W) => Tr.rabove (c := c1) HT.out A hb
  have M1 : Hid (∀ W, Below w1.heap.size w1 W → Calls Try.prog 18 #[.slice a1 zs.length c1, .int .i64 A, .int .i64 B] W _) := fun W (hb : Below w1.heap.size w1 W) => Tr.meet (c := c1) HT.out A B hb
  have HRM : Hid _ := roots_meet (Tr.ok HT.out) hAb.1 hAb.2 hBb.1 hBb.2
  have CH : Hid _ := ups_chain (Tr.ok HT.out) _ A hAb.1 hAb.2 (Nat.le_refl _)
  have CH2 : Hid _ := ups_chain (Tr.ok HT.out) _ B hBb.1 hBb.2 (Nat.le_refl _)
  rw [← abv_ok (Tr.ok HT.out) hAb.1 hAb.2] at CH
  rw [← abv_ok (Tr.ok HT.out) hBb.1 hBb.2] at CH2
  have hxl := abv_len zs A
  have hyl := abv_len zs B
  have HVX : Hid (∀ v, v ∈ abv zs A → 0 ≤ v ∧ v < zs.length) := fun v (hv : v ∈ abv zs A) => by have := abv_valid hv; omega
  have hx1 : 1 ≤ (abv zs A).length := by rw [abv_step (Tr.ok HT.out) hAb.1 hAb.2]; simp
  have hy1 : 1 ≤ (abv zs B).length := by rw [abv_step (Tr.ok HT.out) hBb.1 hBb.2]; simp
  unfold root at HRM
  obtain ⟨M, hM⟩ : ∃ M, meet zs A B = M := ⟨_, rfl⟩
  rw [hM] at M1 HRM
  obtain ⟨xs, hxs⟩ : ∃ xs, abv zs A = xs := ⟨_, rfl⟩
  rw [hxs] at A1 A3 hxl hx1 CH HRM HVX
  obtain ⟨ys, hys⟩ : ∃ ys, abv zs B = ys := ⟨_, rfl⟩
  rw [hys] at A2 hyl hy1 CH2 HRM
  obtain ⟨m, hm⟩ : ∃ m, xs.length = m + 1 := ⟨xs.length - 1, by omega⟩
  obtain ⟨q, hq⟩ : ∃ q, ys.length = q + 1 := ⟨ys.length - 1, by omega⟩
  rw [hm, hq] at HRM
  rw [hm] at CH
  simp only [Nat.add_sub_cancel] at CH HRM
  have HM : Hid _ := hM
  have HXE : Hid _ := hxs
  clear hM hxs hys
  refine A1.mono ?_
  rintro e w2 ⟨a2, c2, rfl, hR2, _, hB2⟩
  have HR2 : Hid (RdI w2 w2.heap.size a2 xs) := hR2
  clear A1 hR2
  go_wp2_with fail
  refine (A2.out w2 hB2).mono ?_
  rintro e w3 ⟨a3, c3, rfl, hR3, hb3, hB3⟩
  obtain ⟨b1, o1, rfl, HH1⟩ := rd_some (Tr.rd HT.out) (by omega)
  obtain ⟨b2, o2, rfl, HH2⟩ := rd_some HR2.out (by omega)
  obtain ⟨b3, o3, rfl, HH3⟩ := rd_some hR3 (by omega)
  have HH : Hid (Hold w1 b1 o1 zs b2 o2 xs b3 o3 ys w3) := hold_mk HH1 HH2 HH3 hB3 hb3
  clear A2 hR3 hB2 HR2 hb3 HH1 HH2 HH3 hB3
  have hrv := HVX.out _ (nth_mem (xs := xs) (i := m) (by omega))
  have hrz := CH.out.2.2
  have hrm := HRM.out
  have cm := Hold.c2 HH.out m (by omega)
  obtain ⟨r, hr⟩ := Int.eq_ofNat_of_zero_le hrv.1
  rw [hr] at hrv hrz cm hrm
  have hrl : r < zs.length := by omega
  have cz := Hold.c1 HH.out r hrl
  rw [show nthI zs r = -1 by simpa using hrz] at cz
  have HRM2 : Hid _ := hrm
  have HRR : Hid _ := hr
  clear hrm hr hrz HRM
  have hmz : ((m : Int) + 1 == 0) = false := by rw [beq_eq_false_iff_ne]; omega
  have hqz : ((q : Int) + 1 == 0) = false := by rw [beq_eq_false_iff_ne]; omega
  have hrl' : (r : Int) < (zs.length : Int) := by omega
  go_wp2_with fail
  go_loopw [10] (fun s wr => ∃ j : Nat, j ≤ m ∧ s = .int .i64 ((j : Int) + 1) ∧ Hid (Hold w1 b1 o1 zs b2 o2 xs b3 o3 ys wr)) (fun s _ => m + 1 - (intOf s).toNat)
  case atStart => exact ⟨0, Nat.zero_le _, by simp, HH.out⟩
  case round =>
    obtain ⟨j, hj, rfl, HW⟩ := hrel
    clear cm cz HH
    by_cases hjm : j < m
    · have hjm' : (j : Int) < (m : Int) := by omega
      have hc := CH.out.2.1 j (by omega)
      have hu := HVX.out _ (nth_mem (xs := xs) (i := j) (by omega))
      have cj := Hold.c2 HW.out j (by omega)
      have cj1 := Hold.c2 HW.out (j + 1) (by omega)
      obtain ⟨u, hu'⟩ := Int.eq_ofNat_of_zero_le hu.1
      rw [hu'] at hc hu cj
      have hul : u < zs.length := by omega
      have hul' : (u : Int) < (zs.length : Int) := by omega
      have cu := Hold.c1 HW.out u hul
      rw [show nthI zs u = nthI xs (j + 1) by rw [hc.1]; simp] at cu
      have hlt := hc.2
      obtain ⟨V, hV⟩ : ∃ V, nthI xs (j + 1) = V := ⟨_, rfl⟩
      rw [hV] at cj1 cu hlt
      have d1 : decide ((u : Int) ≤ V) = false := by simpa using hlt
      clear hV hu' hc
      go_wp2_with fail
      go_quiet (fail)
      go_wp2
      go_roundw
      case rel => exact ⟨j + 1, by omega, by go_num, Hold.on HW.out (Below.drewN (Below.refl _ _) _)⟩
      case measure => simp [intOf]; omega
    · obtain rfl : j = m := by omega
      have HD : Hid (Hold w1 b1 o1 zs b2 o2 xs b3 o3 ys wr.drew) := Hold.on HW.out (Below.refl _ _).drew
      have F : Hid (∀ W, Hold w1 b1 o1 zs b2 o2 xs b3 o3 ys W → W.cell? ⟨b2, o2, none⟩ = some (.int .i64 A) ∧ W.cell? ⟨b2, o2 + j, none⟩ = some (.int .i64 r) ∧ W.cell? ⟨b3, o3, none⟩ = some (.int .i64 B) ∧ W.cell? ⟨b3, o3 + q, none⟩ = some (.int .i64 (nthI ys q))) := fun W (hW : Hold w1 b1 o1 zs b2 o2 xs b3 o3 ys W) => by
        have h0 := hW.c2 0 (by omega)
        have h1 := hW.c2 j (by omega)
        have h2 := hW.c3 0 (by omega)
        have h3 := hW.c3 q (by omega)
        rw [CH.out.1] at h0
        rw [HRR.out] at h1
        rw [CH2.out.1] at h2
        exact ⟨h0, h1, h2, h3⟩
      obtain ⟨RB, hRB⟩ : ∃ RB, nthI ys q = RB := ⟨_, rfl⟩
      have hrm := HRM2.out
      rw [hRB] at F hrm
      have P1 := (meet_any wr.drew (some ⟨b1, o1, none⟩) c1 zs A B (Hold.rd1 HD.out) (by omega)).mono (R' := fun e w' => e = .returned (.int .i64 M) ∧ Hold w1 b1 o1 zs b2 o2 xs b3 o3 ys w') (fun e w' g => ⟨by rw [g.1, HM.out], Hold.on HD.out g.2⟩)
      have P2 : Hid (∀ W, Hold w1 b1 o1 zs b2 o2 xs b3 o3 ys W → Calls Try.prog 13 #[.slice (some ⟨b1, o1, none⟩) zs.length c1, .int .i64 A] W fun e w' => ∃ a4 c4, e = .returned (.slice a4 (j + 1) c4) ∧ RdI w' w'.heap.size a4 xs ∧ Hold w1 b1 o1 zs b2 o2 xs b3 o3 ys w') := fun W (hW : Hold w1 b1 o1 zs b2 o2 xs b3 o3 ys W) => (rabove_any W (some ⟨b1, o1, none⟩) c1 zs A (Hold.rd1 hW) (by omega)).mono (fun e w' g => by
        obtain ⟨a4, c4, rfl, g1, g2⟩ := g
        rw [HXE.out] at g1 ⊢
        rw [hm]
        exact ⟨a4, c4, rfl, g1, Hold.on hW g2⟩)
      have P3 : Hid (∀ W a4 c4, Hold w1 b1 o1 zs b2 o2 xs b3 o3 ys W → RdI W W.heap.size a4 xs → Calls Try.prog 11 #[.slice (some ⟨b2, o2, none⟩) (j + 1) c2, .slice a4 (j + 1) c4] W fun e w' => e = .returned (.bool true) ∧ Hold w1 b1 o1 zs b2 o2 xs b3 o3 ys w') := fun W a4 c4 (hW : Hold w1 b1 o1 zs b2 o2 xs b3 o3 ys W) (h4 : RdI W W.heap.size a4 xs) => by
        have := same_yes W W.heap.size (some ⟨b2, o2, none⟩) a4 c2 c4 xs (Nat.le_refl _) (Hold.rd hW) h4 (by omega)
        rw [hm] at this
        exact this.mono (fun e w' g => ⟨g.1, Hold.on hW g.2⟩)
      obtain ⟨f1, f2, f3, f4⟩ := F.out wr HW.out
      have v1 : IntKind.i64.wrap ((j : Int) + 1 - 1) = (j : Int) := by rw [IntKind.wrap_i64]; omega
      have v2 : IntKind.i64.wrap ((q : Int) + 1 - 1) = (q : Int) := by rw [IntKind.wrap_i64]; omega
      have v3 : IntKind.i64.wrap (j : Int) = (j : Int) := by rw [IntKind.wrap_i64]; omega
      have v4 : IntKind.i64.wrap (q : Int) = (q : Int) := by rw [IntKind.wrap_i64]; omega
      have v5 : (0 : Int) ≤ (j : Int) := by omega
      have v6 : (0 : Int) ≤ (q : Int) := by omega
      have v7 : (j : Int) < (j : Int) + 1 := by omega
      have v8 : (q : Int) < (q : Int) + 1 := by omega
      clear hRB HD M1 A3
      by_cases hreq : (r : Int) = RB
      · have hM0 := hrm.1 hreq
        subst hreq
        have d1 : decide (0 ≤ M) = true := by simpa using hM0
        clear hrm
        go_wp2_with fail
        go_region_held3 (fun w' => w'.cell? ⟨b2, o2, none⟩ = some (.int .i64 A) ∧ w'.cell? ⟨b2, o2 + j, none⟩ = some (.int .i64 r) ∧ w'.cell? ⟨b3, o3, none⟩ = some (.int .i64 B) ∧ w'.cell? ⟨b3, o3 + q, none⟩ = some (.int .i64 r)) (go_keep) (first | (go_at_call 18; refine P1.mono ?_; rintro e wA ⟨rfl, zA⟩; obtain ⟨g1, g2, g3, g4⟩ := F.out wA zA) | (go_at_call 13; refine (P2.out wA zA).mono ?_; rintro e wC ⟨a4, c4, rfl, oC, zC⟩; obtain ⟨k1, k2, k3, k4⟩ := F.out wC zC) | (go_at_call 11; refine (P3.out wC a4 c4 zC oC).mono ?_; rintro e wD ⟨rfl, zD⟩; obtain ⟨l1, l2, l3, l4⟩ := F.out wD zD))
        go_wp2
        go_ret
        exact ⟨rfl, Below.on hb1 (Hold.bel zD)⟩
      · have hM0 : ¬ 0 ≤ M := fun g => hreq (hrm.2 g)
        have d1 : decide (0 ≤ M) = false := by simpa using hM0
        have d2 : ((r : Int) == RB) = false := by rw [beq_eq_false_iff_ne]; exact hreq
        clear hrm
        go_wp2_with fail
        go_region_held3 (fun w' => w'.cell? ⟨b2, o2, none⟩ = some (.int .i64 A) ∧ w'.cell? ⟨b2, o2 + j, none⟩ = some (.int .i64 r) ∧ w'.cell? ⟨b3, o3, none⟩ = some (.int .i64 B) ∧ w'.cell? ⟨b3, o3 + q, none⟩ = some (.int .i64 RB)) (go_keep) (first | (go_at_call 18; refine P1.mono ?_; rintro e wA ⟨rfl, zA⟩; obtain ⟨g1, g2, g3, g4⟩ := F.out wA zA) | (go_at_call 13; refine (P2.out wA zA).mono ?_; rintro e wC ⟨a4, c4, rfl, oC, zC⟩; obtain ⟨k1, k2, k3, k4⟩ := F.out wC zC) | (go_at_call 11; refine (P3.out wC a4 c4 zC oC).mono ?_; rintro e wD ⟨rfl, zD⟩; obtain ⟨l1, l2, l3, l4⟩ := F.out wD zD))
        go_wp2
        go_ret
        exact ⟨rfl, Below.on hb1 (Hold.bel zD)⟩
end Go.Proofs.Ytnaodfgchaccoaa
