/- Proved: the walk of PastScript. -/
import Derived.Test.YtgifanioeeacdaaSbb
import Derived.BigQuiet
import Derived.Deep.QuietTactic
namespace Go.Proofs.Ytgifanioeeacdaa
open Go.RowKit Go.Shelf Go.Sort
set_option linter.unusedVariables false

theorem keysP_len (L : List P) : (keysP L).length = L.length := by simp [keysP]
set_option maxRecDepth 100000 in
set_option maxHeartbeats 8000000 in
theorem script_walk (w : World) (sa : Option Addr) (sc : Nat) (z : List St) (hz : RdS w sa z) (hn : z.length ≤ maxLen) :
    Calls Try.prog 3 #[.slice sa z.length sc] w fun e w' => e = .returned (.bool true) ∧ Below w.heap.size w w' := by
  have mixed : Try.prog.follows .mixedOrders = true := by kernel_rfl
  have HV := heavy_any w sa sc z hz hn
  obtain ⟨b1, hp⟩ : ∃ b1, w.heap.size = b1 := ⟨_, rfl⟩
  have NW := One.new w
  rw [hp] at NW
  have HZ : Hid (RdS w sa z) := hz
  clear hz hn hp
  go_enter Try.func3, Try.ntmps3
  go_wp2_with fail
  refine HV.mono ?_
  rintro e w0 ⟨he, rfl⟩
  rcases he with rfl | ⟨rfl, hz2, hos⟩
  · go_wp2
    go_ret
    exact ⟨rfl, Below.refl _ _⟩
  have HOS : Hid (∀ s ∈ z, s.e.p.os.length ≤ 20) := hos
  clear hos HV
  go_wp2_with (first | (go_at_call 10; refine (Sb.new (Hid.out H1)).mono ?_; rintro e w2 ⟨rfl, h2⟩; have H2 : Hid (Sb w w2 0 [] b1 0 [] w1.heap.size [] []) := h2; clear h2) | (go_at_call 9; refine NW.mono ?_; rintro e w1 ⟨rfl, h1⟩; have H1 : Hid (One w w1 0 [] b1) := h1; clear h1 NW))
  obtain ⟨b2, hb2⟩ : ∃ b2, w1.heap.size = b2 := ⟨_, rfl⟩
  rw [hb2] at H2 ⊢
  clear hb2 H1
  go_loopw [5] (fun s5 wr => ∃ (i : Nat) (fl : Int) (L : List P), s5 = .int .i64 i ∧ i ≤ z.length ∧ 0 ≤ fl ∧ Hid (Sb w wr fl L b1 fl L b2 [] [])) (fun s5 _ => z.length - (intOf s5).toNat)
  case atStart => exact ⟨0, 0, [], rfl, Nat.zero_le _, Int.le_refl _, H2.out⟩
  case round =>
    clear H2
    obtain ⟨i, fl, L, rfl, hi, hf0, HP⟩ := hrel
    by_cases hlt : i < z.length
    · have hlt' : (i : Int) < (z.length : Int) := by omega
      obtain ⟨s, hs⟩ : ∃ s, nth cS z i = s := ⟨_, rfl⟩
      have hso : s.e.p.os.length ≤ 20 := HOS.out s (by rw [← hs]; exact nth_mem hlt)
      obtain ⟨hro, sb, off, rfl, hB, hcs⟩ := HZ.out.cells hlt hs
      obtain ⟨sk, ⟨⟨⟨⟨y1, y2, y3⟩, y4, y5, y6⟩, y7, y8, y9, yos⟩, yoa, yoc⟩⟩ := s
      dsimp only at hso hro hcs
      obtain ⟨m, hm⟩ : ∃ m, yos.length = m := ⟨_, rfl⟩
      rw [hm] at hcs
      obtain ⟨x0, x1, x2, x3, x4, x5, x6, x7, x8, x9, x10⟩ := hcs wr HP.out.bel
      obtain ⟨EB, hEB⟩ : ∃ EB, wr.heap.size = EB := ⟨_, rfl⟩
      obtain ⟨W2, hW2⟩ : ∃ W2, W2 = wr.alloc (.cells #[.int .i64 y1, .int .i64 y2, .int .i64 y3, .int .i64 y4, .int .i64 y5, .int .i64 y6, .int .i64 y7, .int .i64 y8, .int .i64 y9, .slice yoa m yoc] 34) := ⟨_, rfl⟩
      obtain ⟨p, hp⟩ : ∃ p : P, p = ⟨((y1, y2, y3), y4, y5, y6), y7, y8, y9, yos⟩ := ⟨_, rfl⟩
      have HPB : Hid (Sb w W2 fl L b1 fl L b2 [(some ⟨EB, 0, none⟩, [⟨p, yoa, yoc⟩])] []) := by
        have h1 := HP.out.box ⟨p, yoa, yoc⟩ 34
        rw [hEB, hp] at h1
        dsimp only [ecs] at h1
        rw [hm, ← hW2, ← hp] at h1
        exact h1
      have HEC : Hid (∀ {W : World} {fp fr : Int} {Lp Lr : List P} {gs : RowsG}, Sb w W fp Lp b1 fr Lr b2 [(some ⟨EB, 0, none⟩, [⟨p, yoa, yoc⟩])] gs → W.cell? ⟨EB, 0, none⟩ = some (.int .i64 y1) ∧ W.cell? ⟨EB, 1, none⟩ = some (.int .i64 y2) ∧ W.cell? ⟨EB, 2, none⟩ = some (.int .i64 y3) ∧ W.cell? ⟨EB, 3, none⟩ = some (.int .i64 y4) ∧ W.cell? ⟨EB, 4, none⟩ = some (.int .i64 y5) ∧ W.cell? ⟨EB, 5, none⟩ = some (.int .i64 y6) ∧ W.cell? ⟨EB, 6, none⟩ = some (.int .i64 y7) ∧ W.cell? ⟨EB, 7, none⟩ = some (.int .i64 y8) ∧ W.cell? ⟨EB, 8, none⟩ = some (.int .i64 y9) ∧ W.cell? ⟨EB, 9, none⟩ = some (.slice yoa m yoc)) := fun {W fp fr Lp Lr gs} h => by
        obtain ⟨b', o', e, _, _, u⟩ := (h.row (List.mem_singleton.2 rfl)).entry (i := 0) (by simp) (x := ⟨p, yoa, yoc⟩) rfl
        simp only [Option.some.injEq, Addr.mk.injEq, and_true] at e
        obtain ⟨rfl, rfl⟩ := e
        rw [hp] at u
        dsimp only at u
        rw [hm] at u
        simpa only [Nat.zero_mul, Nat.add_zero, Nat.zero_add] using u
      have HPU : Hid (Calls Try.prog 11 #[.pointer (some ⟨b1, 0, none⟩), .agg #[.int .i64 y1, .int .i64 y2, .int .i64 y3, .int .i64 y4, .int .i64 y5, .int .i64 y6, .int .i64 y7, .int .i64 y8, .int .i64 y9, .slice yoa m yoc]] W2.drew fun e w' => e = .returned (.int .i64 (pushE fl L p)) ∧ Sb w w' fl (pushL fl L p) b1 fl L b2 [(some ⟨EB, 0, none⟩, [⟨p, yoa, yoc⟩])] []) := by
        have h0 := HPB.out.on (Below.refl _ W2).drew
        have h1 := h0.push (N := fun _ => True) (x := ⟨⟨((y1, y2, y3), y4, y5, y6), y7, y8, y9, yos⟩, yoa, yoc⟩) ⟨hro.below h0.bel, hso⟩
        dsimp only [ev] at h1
        rw [hm, ← hp] at h1
        exact h1
      have HRU : Hid (∀ {W : World} {gs : RowsG} {Lp : List P}, Sb w W fl Lp b1 fl L b2 [(some ⟨EB, 0, none⟩, [⟨p, yoa, yoc⟩])] gs → Calls Try.prog 12 #[.pointer (some ⟨b2, 0, none⟩), .agg #[.int .i64 y1, .int .i64 y2, .int .i64 y3, .int .i64 y4, .int .i64 y5, .int .i64 y6, .int .i64 y7, .int .i64 y8, .int .i64 y9, .slice yoa m yoc]] W fun e w' => e = .returned (.int .i64 (pushE fl L p)) ∧ Sb w w' fl Lp b1 fl (pushL fl L p) b2 [(some ⟨EB, 0, none⟩, [⟨p, yoa, yoc⟩])] gs) := fun {W gs Lp} h => by
        have h1 := h.rpush (N := fun _ => True) (x := ⟨⟨((y1, y2, y3), y4, y5, y6), y7, y8, y9, yos⟩, yoa, yoc⟩) ⟨hro, hso⟩
        dsimp only [ev] at h1
        rw [hm, ← hp] at h1
        exact h1
      have hL64 : L.length ≤ 64 := HP.out.cap
      have HKY : Hid ((gonK (y1, y2, y3) L).length ≤ 64 ∧ (gonT y1 L).length ≤ 64) := by
        have h1 : (gonT y1 L).length ≤ L.length := List.length_filter_le _ _
        have h2 : (gonK (y1, y2, y3) L).length ≤ L.length := by unfold gonK; rw [List.length_reverse]; exact List.length_filter_le _ _
        exact ⟨by omega, by omega⟩
      have HW2 : Hid (W2 = wr.alloc (.cells #[.int .i64 y1, .int .i64 y2, .int .i64 y3, .int .i64 y4, .int .i64 y5, .int .i64 y6, .int .i64 y7, .int .i64 y8, .int .i64 y9, .slice yoa m yoc] 34)) := hW2
      have HEB : Hid (wr.heap.size = EB) := hEB
      have lsb : sb < wr.heap.size := clt x0
      have y0 : W2.cell? ⟨sb, off + i * 11, none⟩ = some (.int .i64 sk) := by rw [hW2]; exact ((al wr _).cell (p := ⟨sb, off + i * 11, none⟩) lsb).trans x0
      clear hro hso hs hm hcs hp hEB hW2 hL64
      have hcase : sk = 0 ∨ sk = 1 ∨ sk = 2 ∨ (sk ≠ 0 ∧ sk ≠ 1 ∧ sk ≠ 2) := by omega
      rcases hcase with rfl | rfl | rfl | ⟨g0, g1, g2⟩
      · obtain ⟨c, hc⟩ : ∃ c, pushE fl L p = c := ⟨_, rfl⟩
        obtain ⟨L5, hL5⟩ : ∃ L5, pushL fl L p = L5 := ⟨_, rfl⟩
        rw [hc, hL5] at HPU HRU
        have dc : (c != c) = false := by simp
        have KEEP0 : Hid (W2.drew.cell? ⟨EB, 0, none⟩ = some (.int .i64 y1) ∧ W2.drew.cell? ⟨EB, 1, none⟩ = some (.int .i64 y2) ∧ W2.drew.cell? ⟨EB, 2, none⟩ = some (.int .i64 y3) ∧ W2.drew.cell? ⟨EB, 3, none⟩ = some (.int .i64 y4) ∧ W2.drew.cell? ⟨EB, 4, none⟩ = some (.int .i64 y5) ∧ W2.drew.cell? ⟨EB, 5, none⟩ = some (.int .i64 y6) ∧ W2.drew.cell? ⟨EB, 6, none⟩ = some (.int .i64 y7) ∧ W2.drew.cell? ⟨EB, 7, none⟩ = some (.int .i64 y8) ∧ W2.drew.cell? ⟨EB, 8, none⟩ = some (.int .i64 y9) ∧ W2.drew.cell? ⟨EB, 9, none⟩ = some (.slice yoa m yoc)) := HEC.out (HPB.out.on (Below.refl _ W2).drew)
        obtain ⟨k0, k1, k2, k3, k4, k5, k6, k7, k8, k9⟩ := HEC.out HPB.out
        clear hc hL5
        go_wp2_with fail
        rw [← HW2.out]
        simp only [HEB.out]
        go_region_held3 (fun w' => w'.cell? ⟨EB, 0, none⟩ = some (.int .i64 y1) ∧ w'.cell? ⟨EB, 1, none⟩ = some (.int .i64 y2) ∧ w'.cell? ⟨EB, 2, none⟩ = some (.int .i64 y3) ∧ w'.cell? ⟨EB, 3, none⟩ = some (.int .i64 y4) ∧ w'.cell? ⟨EB, 4, none⟩ = some (.int .i64 y5) ∧ w'.cell? ⟨EB, 5, none⟩ = some (.int .i64 y6) ∧ w'.cell? ⟨EB, 6, none⟩ = some (.int .i64 y7) ∧ w'.cell? ⟨EB, 7, none⟩ = some (.int .i64 y8) ∧ w'.cell? ⟨EB, 8, none⟩ = some (.int .i64 y9) ∧ w'.cell? ⟨EB, 9, none⟩ = some (.slice yoa m yoc)) (first | (go_keep; done) | exact Hid.out KEEP2 | exact Hid.out KEEP1 | exact Hid.out KEEP0) (first
          | (go_at_call 12; refine (Hid.out HRU (Hid.out H4)).mono ?_; rintro e w5 ⟨rfl, h5⟩; have HQ : Hid (Sb w w5 fl L5 b1 fl L5 b2 [(some ⟨EB, 0, none⟩, [⟨p, yoa, yoc⟩])] []) := h5; have KEEP2 : Hid (w5.cell? ⟨EB, 0, none⟩ = some (.int .i64 y1) ∧ w5.cell? ⟨EB, 1, none⟩ = some (.int .i64 y2) ∧ w5.cell? ⟨EB, 2, none⟩ = some (.int .i64 y3) ∧ w5.cell? ⟨EB, 3, none⟩ = some (.int .i64 y4) ∧ w5.cell? ⟨EB, 4, none⟩ = some (.int .i64 y5) ∧ w5.cell? ⟨EB, 5, none⟩ = some (.int .i64 y6) ∧ w5.cell? ⟨EB, 6, none⟩ = some (.int .i64 y7) ∧ w5.cell? ⟨EB, 7, none⟩ = some (.int .i64 y8) ∧ w5.cell? ⟨EB, 8, none⟩ = some (.int .i64 y9) ∧ w5.cell? ⟨EB, 9, none⟩ = some (.slice yoa m yoc)) := Hid.out HEC h5; clear h5)
          | (go_at_call 11; refine (Hid.out HPU).mono ?_; rintro e w4 ⟨rfl, h4⟩; have H4 : Hid (Sb w w4 fl L5 b1 fl L b2 [(some ⟨EB, 0, none⟩, [⟨p, yoa, yoc⟩])] []) := h4; have KEEP1 : Hid (w4.cell? ⟨EB, 0, none⟩ = some (.int .i64 y1) ∧ w4.cell? ⟨EB, 1, none⟩ = some (.int .i64 y2) ∧ w4.cell? ⟨EB, 2, none⟩ = some (.int .i64 y3) ∧ w4.cell? ⟨EB, 3, none⟩ = some (.int .i64 y4) ∧ w4.cell? ⟨EB, 4, none⟩ = some (.int .i64 y5) ∧ w4.cell? ⟨EB, 5, none⟩ = some (.int .i64 y6) ∧ w4.cell? ⟨EB, 6, none⟩ = some (.int .i64 y7) ∧ w4.cell? ⟨EB, 7, none⟩ = some (.int .i64 y8) ∧ w4.cell? ⟨EB, 8, none⟩ = some (.int .i64 y9) ∧ w4.cell? ⟨EB, 9, none⟩ = some (.slice yoa m yoc)) := Hid.out HEC h4; clear h4))
        clear HPU HRU HEC KEEP0 KEEP1 KEEP2 k0 k1 k2 k3 k4 k5 k6 k7 k8 k9 dc H4
        have HQ0 : Hid (Sb w w5 fl L5 b1 fl L5 b2 [] []) := Sb.less HQ.out (fun r hr => by cases hr) (fun r hr => by cases hr)
        obtain ⟨ra, rc, hcel⟩ := HQ0.out.cells
        have hl64 : L5.length ≤ 64 := HQ0.out.cap
        obtain ⟨n, hnn⟩ : ∃ n, L5.length = n := ⟨_, rfl⟩
        obtain ⟨d, hd⟩ : ∃ d, decide (0 < L5.length) = d := ⟨_, rfl⟩
        rw [hnn] at hcel hl64
        have HCEL : Hid (∀ W, Below w5.heap.size w5 W → W.cell? ⟨b2, 0, none⟩ = some (.int .i64 fl) ∧ W.cell? ⟨b2, 1, none⟩ = some (.slice ra n rc)) := hcel
        have HLA : Hid (∀ {W : World}, Below w5.heap.size w5 W → Calls Try.prog 18 #[.pointer (some ⟨b1, 0, none⟩)] W fun e w' => ∃ x : E, e = .returned (.tuple #[ev x, .bool d]) ∧ x.p = lastP L5 ∧ Out (fun _ => True) w' x ∧ Below W.heap.size W w') := fun hW => by have h1 := HQ0.out.last hW; rw [hd] at h1; exact h1
        have HRA : Hid (∀ {W : World}, Below w5.heap.size w5 W → Calls Try.prog 19 #[.pointer (some ⟨b2, 0, none⟩)] W fun e w' => ∃ x : E, e = .returned (.tuple #[ev x, .bool d]) ∧ x.p = lastP L5 ∧ Out (fun _ => True) w' x ∧ Below W.heap.size W w') := fun hW => by have h1 := HQ0.out.rlast hW; rw [hd] at h1; exact h1
        have HKS : Hid (∀ {W : World}, Below w5.heap.size w5 W → Calls Try.prog 20 #[.pointer (some ⟨b1, 0, none⟩)] W fun e w' => ∃ a c, e = .returned (.slice a n c) ∧ RdN cK (fun _ => True) w' a (keysP L5) ∧ Below W.heap.size W w') := fun hW => by have h1 := HQ0.out.keys hW; rw [hnn] at h1; exact h1
        have HRK : Hid (∀ {W : World}, Below w5.heap.size w5 W → Calls Try.prog 21 #[.pointer (some ⟨b2, 0, none⟩)] W fun e w' => ∃ a c, e = .returned (.slice a n c) ∧ RdN cK (fun _ => True) w' a (keysP L5) ∧ Below W.heap.size W w') := fun hW => by have h1 := HQ0.out.rkeys hW; rw [hnn] at h1; exact h1
        have HLE : Hid (∀ {W : World}, Below w5.heap.size w5 W → Calls Try.prog 23 #[.pointer (some ⟨b1, 0, none⟩)] W fun e w' => e = .returned (.int .i64 n) ∧ W = w') := fun hW => by have h1 := HQ0.out.len hW; rw [hnn] at h1; exact h1
        have HFO : Hid (∀ {W : World}, Below w5.heap.size w5 W → Calls Try.prog 24 #[.pointer (some ⟨b1, 0, none⟩)] W fun e w' => e = .returned (.int .i64 fl) ∧ W = w') := fun hW => HQ0.out.floor hW
        have HNN : Hid (L5.length = n) := hnn
        clear hcel hnn hd
        go_wp2_with (go_at_call 18; refine (Hid.out HLA (Below.refl _ _)).mono ?_; rintro e w6 ⟨xe, rfl, hxp, hxo, hb6⟩; obtain ⟨⟨⟨⟨z1, z2, z3⟩, z4, z5, z6⟩, z7, z8, z9, zos⟩, xa, xc⟩ := xe; obtain ⟨q, hq⟩ : ∃ q, zos.length = q := ⟨_, rfl⟩; dsimp only [ev] at hxp ⊢; rw [hq]; have HXP : Hid ((⟨((z1, z2, z3), z4, z5, z6), z7, z8, z9, zos⟩ : P) = lastP L5) := hxp; have HXO : Hid (Out (fun _ => True) w6 ⟨⟨((z1, z2, z3), z4, z5, z6), z7, z8, z9, zos⟩, xa, xc⟩) := hxo; have HB6 : Hid (Below w5.heap.size w5 w6) := hb6; have HQQ : Hid (zos.length = q) := hq; clear hxp hxo hb6 hq HLA; go_wp2_with fail)
        obtain ⟨AB, hAB⟩ : ∃ AB, w6.heap.size = AB := ⟨_, rfl⟩
        obtain ⟨W6, hW6⟩ : ∃ W6, W6 = w6.alloc (.cells #[.int .i64 z1, .int .i64 z2, .int .i64 z3, .int .i64 z4, .int .i64 z5, .int .i64 z6, .int .i64 z7, .int .i64 z8, .int .i64 z9, .slice xa q xc] 34) := ⟨_, rfl⟩
        have HAX : Hid (W6.heap[AB]? = some (.cells #[.int .i64 z1, .int .i64 z2, .int .i64 z3, .int .i64 z4, .int .i64 z5, .int .i64 z6, .int .i64 z7, .int .i64 z8, .int .i64 z9, .slice xa q xc] 34 (0, 0))) := by show W6.heap[AB]? = some (.cells #[.int .i64 z1, .int .i64 z2, .int .i64 z3, .int .i64 z4, .int .i64 z5, .int .i64 z6, .int .i64 z7, .int .i64 z8, .int .i64 z9, .slice xa q xc] 34 (0, 0)); rw [hW6, ← hAB]; exact newB _ _
        have HB66 : Hid (Below w6.heap.size w6 W6) := by show Below w6.heap.size w6 W6; rw [hW6]; exact al _ _
        rw [← hW6, hAB]
        clear hW6 hAB
        refine (HRA.out (Below.on HB6.out HB66.out)).mono ?_
        rintro e w7 ⟨xe, rfl, hxp, hxo, hb7⟩
        obtain ⟨up, ua, uc⟩ := xe
        dsimp only at hxp
        rw [← HXP.out] at hxp
        subst hxp
        dsimp only [ev]
        rw [HQQ.out]
        have HUO : Hid (Out (fun _ => True) w7 ⟨⟨((z1, z2, z3), z4, z5, z6), z7, z8, z9, zos⟩, ua, uc⟩) := hxo
        have HB7 : Hid (Below W6.heap.size W6 w7) := hb7
        clear hxo hb7 HRA
        go_wp2_with fail
        obtain ⟨BB, hBB⟩ : ∃ BB, w7.heap.size = BB := ⟨_, rfl⟩
        obtain ⟨W7, hW7⟩ : ∃ W7, W7 = w7.alloc (.cells #[.int .i64 z1, .int .i64 z2, .int .i64 z3, .int .i64 z4, .int .i64 z5, .int .i64 z6, .int .i64 z7, .int .i64 z8, .int .i64 z9, .slice ua q uc] 40) := ⟨_, rfl⟩
        have HBX : Hid (W7.heap[BB]? = some (.cells #[.int .i64 z1, .int .i64 z2, .int .i64 z3, .int .i64 z4, .int .i64 z5, .int .i64 z6, .int .i64 z7, .int .i64 z8, .int .i64 z9, .slice ua q uc] 40 (0, 0))) := by show W7.heap[BB]? = some (.cells #[.int .i64 z1, .int .i64 z2, .int .i64 z3, .int .i64 z4, .int .i64 z5, .int .i64 z6, .int .i64 z7, .int .i64 z8, .int .i64 z9, .slice ua q uc] 40 (0, 0)); rw [hW7, ← hBB]; exact newB _ _
        have HB77 : Hid (Below w7.heap.size w7 W7) := by show Below w7.heap.size w7 W7; rw [hW7]; exact al _ _
        rw [← hW7, hBB]
        clear hW7 hBB
        have HB5 : Hid (Below w5.heap.size w5 W7) := Below.on (Below.on (Below.on HB6.out HB66.out) HB7.out) HB77.out
        have HXO7 : Hid (Out (fun _ => True) W7 ⟨⟨((z1, z2, z3), z4, z5, z6), z7, z8, z9, zos⟩, xa, xc⟩) := HXO.out.below (Below.on (Below.on HB66.out HB7.out) HB77.out)
        have HUO7 : Hid (Out (fun _ => True) W7 ⟨⟨((z1, z2, z3), z4, z5, z6), z7, z8, z9, zos⟩, ua, uc⟩) := HUO.out.below HB77.out
        have HS25 : Hid (∀ W, Below W7.heap.size W7 W → (AB < W.heap.size ∧ BB < W.heap.size) ∧ (W.cell? ⟨b2, 0, none⟩ = some (.int .i64 fl) ∧ W.cell? ⟨b2, 1, none⟩ = some (.slice ra n rc)) ∧ (W.cell? ⟨AB, 0, none⟩ = some (.int .i64 z1) ∧ W.cell? ⟨AB, 1, none⟩ = some (.int .i64 z2) ∧ W.cell? ⟨AB, 2, none⟩ = some (.int .i64 z3) ∧ W.cell? ⟨AB, 3, none⟩ = some (.int .i64 z4) ∧ W.cell? ⟨AB, 4, none⟩ = some (.int .i64 z5) ∧ W.cell? ⟨AB, 5, none⟩ = some (.int .i64 z6) ∧ W.cell? ⟨AB, 6, none⟩ = some (.int .i64 z7) ∧ W.cell? ⟨AB, 7, none⟩ = some (.int .i64 z8) ∧ W.cell? ⟨AB, 8, none⟩ = some (.int .i64 z9) ∧ W.cell? ⟨AB, 9, none⟩ = some (.slice xa q xc)) ∧ (W.cell? ⟨BB, 0, none⟩ = some (.int .i64 z1) ∧ W.cell? ⟨BB, 1, none⟩ = some (.int .i64 z2) ∧ W.cell? ⟨BB, 2, none⟩ = some (.int .i64 z3) ∧ W.cell? ⟨BB, 3, none⟩ = some (.int .i64 z4) ∧ W.cell? ⟨BB, 4, none⟩ = some (.int .i64 z5) ∧ W.cell? ⟨BB, 5, none⟩ = some (.int .i64 z6) ∧ W.cell? ⟨BB, 6, none⟩ = some (.int .i64 z7) ∧ W.cell? ⟨BB, 7, none⟩ = some (.int .i64 z8) ∧ W.cell? ⟨BB, 8, none⟩ = some (.int .i64 z9) ∧ W.cell? ⟨BB, 9, none⟩ = some (.slice ua q uc))) := fun W hW => by
          have b0 := ((Below.on (Below.on HB7.out HB77.out) hW).block AB (Array.getElem?_eq_some_iff.1 HAX.out).1).trans HAX.out
          have b1' := (hW.block BB (Array.getElem?_eq_some_iff.1 HBX.out).1).trans HBX.out
          exact ⟨⟨(Array.getElem?_eq_some_iff.1 b0).1, (Array.getElem?_eq_some_iff.1 b1').1⟩, HCEL.out W (Below.on HB5.out hW), ⟨cellB b0 0, cellB b0 1, cellB b0 2, cellB b0 3, cellB b0 4, cellB b0 5, cellB b0 6, cellB b0 7, cellB b0 8, cellB b0 9⟩, cellB b1' 0, cellB b1' 1, cellB b1' 2, cellB b1' 3, cellB b1' 4, cellB b1' 5, cellB b1' 6, cellB b1' 7, cellB b1' 8, cellB b1' 9⟩
        have HSAF : Hid (∀ W, Below W7.heap.size W7 W → Calls Try.prog 22 #[.agg #[.int .i64 z1, .int .i64 z2, .int .i64 z3, .int .i64 z4, .int .i64 z5, .int .i64 z6, .int .i64 z7, .int .i64 z8, .int .i64 z9, .slice xa q xc], .agg #[.int .i64 z1, .int .i64 z2, .int .i64 z3, .int .i64 z4, .int .i64 z5, .int .i64 z6, .int .i64 z7, .int .i64 z8, .int .i64 z9, .slice ua q uc]] W.drew fun e w' => e = .returned (.bool true) ∧ Below W.heap.size W w') := fun W hW => by
          have h1 := same_entry (HXO7.out.below hW.drew) (HUO7.out.below hW.drew) rfl
          dsimp only [ev] at h1
          rw [HQQ.out] at h1
          exact h1.mono fun e w' ⟨he, hb⟩ => ⟨he, ⟨hb.os, hb.tape, hb.output, hb.size, hb.block⟩⟩
        clear HXO HUO HXP HB6 HB66 HB7 HB77 HAX HBX
        refine (HKS.out HB5.out).mono ?_
        rintro e w8 ⟨ka, kc, rfl, hk8, hb8⟩
        have HK8 : Hid (RdN cK (fun _ => True) w8 ka (keysP L5)) := hk8
        have HB8 : Hid (Below W7.heap.size W7 w8) := hb8
        clear hk8 hb8 HKS
        go_wp2_with (go_at_call 21; refine (Hid.out HRK (Below.on (Hid.out HB5) (Hid.out HB8))).mono ?_; rintro e w9 ⟨ma, mc, rfl, hk9, hb9⟩; have HM9 : Hid (RdN cK (fun _ => True) w9 ma (keysP L5)) := hk9; have HK9 : Hid (RdN cK (fun _ => True) w9 ka (keysP L5)) := RdN.below (Hid.out HK8) hb9; have HB9 : Hid (Below W7.heap.size W7 w9) := Below.on (Hid.out HB8) hb9; clear hk9 hb9 HRK)
        obtain ⟨⟨lAB, lBB⟩, ⟨s1, s2⟩, ⟨p0, p1, p2, p3, p4, p5, p6, p7, p8, p9⟩, r0, r1, r2, r3, r4, r5, r6, r7, r8, r9⟩ := HS25.out w9 HB9.out
        have HSAM : Hid (Calls Try.prog 22 #[.agg #[.int .i64 z1, .int .i64 z2, .int .i64 z3, .int .i64 z4, .int .i64 z5, .int .i64 z6, .int .i64 z7, .int .i64 z8, .int .i64 z9, .slice xa q xc], .agg #[.int .i64 z1, .int .i64 z2, .int .i64 z3, .int .i64 z4, .int .i64 z5, .int .i64 z6, .int .i64 z7, .int .i64 z8, .int .i64 z9, .slice ua q uc]] w9.drew fun e w' => e = .returned (.bool true) ∧ Below w9.heap.size w9 w') := HSAF.out w9 HB9.out
        have KEEP0 : Hid ((w9.drew.cell? ⟨b2, 0, none⟩ = some (.int .i64 fl) ∧ w9.drew.cell? ⟨b2, 1, none⟩ = some (.slice ra n rc)) ∧ (w9.drew.cell? ⟨AB, 0, none⟩ = some (.int .i64 z1) ∧ w9.drew.cell? ⟨AB, 1, none⟩ = some (.int .i64 z2) ∧ w9.drew.cell? ⟨AB, 2, none⟩ = some (.int .i64 z3) ∧ w9.drew.cell? ⟨AB, 3, none⟩ = some (.int .i64 z4) ∧ w9.drew.cell? ⟨AB, 4, none⟩ = some (.int .i64 z5) ∧ w9.drew.cell? ⟨AB, 5, none⟩ = some (.int .i64 z6) ∧ w9.drew.cell? ⟨AB, 6, none⟩ = some (.int .i64 z7) ∧ w9.drew.cell? ⟨AB, 7, none⟩ = some (.int .i64 z8) ∧ w9.drew.cell? ⟨AB, 8, none⟩ = some (.int .i64 z9) ∧ w9.drew.cell? ⟨AB, 9, none⟩ = some (.slice xa q xc)) ∧ (w9.drew.cell? ⟨BB, 0, none⟩ = some (.int .i64 z1) ∧ w9.drew.cell? ⟨BB, 1, none⟩ = some (.int .i64 z2) ∧ w9.drew.cell? ⟨BB, 2, none⟩ = some (.int .i64 z3) ∧ w9.drew.cell? ⟨BB, 3, none⟩ = some (.int .i64 z4) ∧ w9.drew.cell? ⟨BB, 4, none⟩ = some (.int .i64 z5) ∧ w9.drew.cell? ⟨BB, 5, none⟩ = some (.int .i64 z6) ∧ w9.drew.cell? ⟨BB, 6, none⟩ = some (.int .i64 z7) ∧ w9.drew.cell? ⟨BB, 7, none⟩ = some (.int .i64 z8) ∧ w9.drew.cell? ⟨BB, 8, none⟩ = some (.int .i64 z9) ∧ w9.drew.cell? ⟨BB, 9, none⟩ = some (.slice ua q uc))) := (HS25.out w9.drew HB9.out.drew).2
        have dd : (d != d) = false := by cases d <;> rfl
        have dn : ((n : Int) != (n : Int)) = false := by simp
        have df : (fl != fl) = false := by simp
        have dl : n ≤ 64 := hl64
        go_region_held3 (fun w' => (w'.cell? ⟨b2, 0, none⟩ = some (.int .i64 fl) ∧ w'.cell? ⟨b2, 1, none⟩ = some (.slice ra n rc)) ∧ (w'.cell? ⟨AB, 0, none⟩ = some (.int .i64 z1) ∧ w'.cell? ⟨AB, 1, none⟩ = some (.int .i64 z2) ∧ w'.cell? ⟨AB, 2, none⟩ = some (.int .i64 z3) ∧ w'.cell? ⟨AB, 3, none⟩ = some (.int .i64 z4) ∧ w'.cell? ⟨AB, 4, none⟩ = some (.int .i64 z5) ∧ w'.cell? ⟨AB, 5, none⟩ = some (.int .i64 z6) ∧ w'.cell? ⟨AB, 6, none⟩ = some (.int .i64 z7) ∧ w'.cell? ⟨AB, 7, none⟩ = some (.int .i64 z8) ∧ w'.cell? ⟨AB, 8, none⟩ = some (.int .i64 z9) ∧ w'.cell? ⟨AB, 9, none⟩ = some (.slice xa q xc)) ∧ (w'.cell? ⟨BB, 0, none⟩ = some (.int .i64 z1) ∧ w'.cell? ⟨BB, 1, none⟩ = some (.int .i64 z2) ∧ w'.cell? ⟨BB, 2, none⟩ = some (.int .i64 z3) ∧ w'.cell? ⟨BB, 3, none⟩ = some (.int .i64 z4) ∧ w'.cell? ⟨BB, 4, none⟩ = some (.int .i64 z5) ∧ w'.cell? ⟨BB, 5, none⟩ = some (.int .i64 z6) ∧ w'.cell? ⟨BB, 6, none⟩ = some (.int .i64 z7) ∧ w'.cell? ⟨BB, 7, none⟩ = some (.int .i64 z8) ∧ w'.cell? ⟨BB, 8, none⟩ = some (.int .i64 z9) ∧ w'.cell? ⟨BB, 9, none⟩ = some (.slice ua q uc))) (first | (go_keep; done) | exact Hid.out KEEP2 | exact Hid.out KEEP0) (first
          | (go_at_call 24; refine (Hid.out HFO (Below.on (Hid.out HB5) (Hid.out HB10))).mono ?_; rintro e w11 ⟨rfl, rfl⟩)
          | (go_at_call 23; refine (Hid.out HLE (Below.on (Hid.out HB5) (Hid.out HB10))).mono ?_; rintro e w11 ⟨rfl, rfl⟩)
          | (go_at_call 22; refine (Hid.out HSAM).mono ?_; rintro e w10 ⟨rfl, hb10⟩; have HB10 : Hid (Below W7.heap.size W7 w10) := (Below.on (Hid.out HB9) hb10); have HB910 : Hid (Below w9.heap.size w9 w10) := hb10; have KEEP2 : Hid ((w10.cell? ⟨b2, 0, none⟩ = some (.int .i64 fl) ∧ w10.cell? ⟨b2, 1, none⟩ = some (.slice ra n rc)) ∧ (w10.cell? ⟨AB, 0, none⟩ = some (.int .i64 z1) ∧ w10.cell? ⟨AB, 1, none⟩ = some (.int .i64 z2) ∧ w10.cell? ⟨AB, 2, none⟩ = some (.int .i64 z3) ∧ w10.cell? ⟨AB, 3, none⟩ = some (.int .i64 z4) ∧ w10.cell? ⟨AB, 4, none⟩ = some (.int .i64 z5) ∧ w10.cell? ⟨AB, 5, none⟩ = some (.int .i64 z6) ∧ w10.cell? ⟨AB, 6, none⟩ = some (.int .i64 z7) ∧ w10.cell? ⟨AB, 7, none⟩ = some (.int .i64 z8) ∧ w10.cell? ⟨AB, 8, none⟩ = some (.int .i64 z9) ∧ w10.cell? ⟨AB, 9, none⟩ = some (.slice xa q xc)) ∧ (w10.cell? ⟨BB, 0, none⟩ = some (.int .i64 z1) ∧ w10.cell? ⟨BB, 1, none⟩ = some (.int .i64 z2) ∧ w10.cell? ⟨BB, 2, none⟩ = some (.int .i64 z3) ∧ w10.cell? ⟨BB, 3, none⟩ = some (.int .i64 z4) ∧ w10.cell? ⟨BB, 4, none⟩ = some (.int .i64 z5) ∧ w10.cell? ⟨BB, 5, none⟩ = some (.int .i64 z6) ∧ w10.cell? ⟨BB, 6, none⟩ = some (.int .i64 z7) ∧ w10.cell? ⟨BB, 7, none⟩ = some (.int .i64 z8) ∧ w10.cell? ⟨BB, 8, none⟩ = some (.int .i64 z9) ∧ w10.cell? ⟨BB, 9, none⟩ = some (.slice ua q uc))) := (Hid.out HS25 _ (Below.on (Hid.out HB9) hb10)).2; clear hb10))
        obtain ⟨w11, hw11⟩ : ∃ w11, w11 = w10 := ⟨_, rfl⟩
        have HK10 : Hid (∀ W, Below w9.heap.size w9 W → RdN cK (fun _ => True) W ka (keysP L5) ∧ RdN cK (fun _ => True) W ma (keysP L5)) := fun W hW => ⟨HK9.out.below hW, HM9.out.below hW⟩
        clear hw11 KEEP0 KEEP2 p0 p1 p2 p3 p4 p5 p6 p7 p8 p9 r0 r1 r2 r3 r4 r5 r6 r7 r8 r9 s1 s2 dd df lAB lBB
        go_wp2_with fail
        go_loopw [13] (fun s13 wr => ∃ j : Nat, s13 = .int .i64 j ∧ j ≤ n ∧ Hid (Below w9.heap.size w9 wr)) (fun s13 _ => n - (intOf s13).toNat)
        case atStart => exact ⟨0, rfl, Nat.zero_le _, HB910.out⟩
        case round =>
          obtain ⟨j, rfl, hj, HBJ⟩ := hrel
          by_cases hlt3 : j < n
          · have hlt3' : (j : Int) < (n : Int) := by omega
            obtain ⟨k1, k2, k3, hk⟩ : ∃ k1 k2 k3, nth cK (keysP L5) j = (k1, k2, k3) := ⟨_, _, _, rfl⟩
            obtain ⟨kb, ko, rfl, lkb, u0, u1, u2⟩ := (HK10.out wr HBJ.out).1.key (i := j) (by rw [keysP_len, HNN.out]; exact hlt3) hk
            obtain ⟨mb, mo, rfl, lmb, v0, v1, v2⟩ := (HK10.out wr HBJ.out).2.key (i := j) (by rw [keysP_len, HNN.out]; exact hlt3) hk
            clear hk
            go_wp2_with fail
            go_quiet (fail)
            go_wp2
            go_roundw
            case rel => exact ⟨j + 1, by go_num, by omega, HBJ.out.trans ⟨rfl, rfl, rfl, Nat.le_refl _, fun _ _ => rfl⟩⟩
            case measure => simp [intOf]; omega
          · obtain rfl : j = n := by omega
            go_wp2
            go_roundw
            case rel => exact ⟨i + 1, fl, L5, by go_num, by omega, hf0, HQ0.out.on (Below.on HB5.out (Below.on HB9.out HBJ.out))⟩
            case measure => simp [intOf]; omega
      · obtain ⟨G, hG⟩ : ∃ G, gonK (y1, y2, y3) L = G := ⟨_, rfl⟩
        obtain ⟨nG, hnG⟩ : ∃ nG, G.length = nG := ⟨_, rfl⟩
        obtain ⟨L5, hL5⟩ : ∃ L5, L.filter (bef (y1, y2, y3)) = L5 := ⟨_, rfl⟩
        have hG64 : nG ≤ 64 := by rw [← hnG, ← hG]; exact HKY.out.1
        have HBA : Hid (Calls Try.prog 14 #[.pointer (some ⟨b1, 0, none⟩), .agg #[.int .i64 y1, .int .i64 y2, .int .i64 y3]] W2.drew fun e w' => ∃ a c, e = .returned (.slice a nG c) ∧ Sb w w' fl L5 b1 fl L b2 [(some ⟨EB, 0, none⟩, [⟨p, yoa, yoc⟩])] [(a, G)]) := by
          have h1 := (HPB.out.on (Below.refl _ W2).drew).back (y1, y2, y3)
          rw [hG, hnG, hL5] at h1
          exact h1
        have HRB : Hid (∀ {W : World} {a : Option Addr}, Sb w W fl L5 b1 fl L b2 [(some ⟨EB, 0, none⟩, [⟨p, yoa, yoc⟩])] [(a, G)] → Calls Try.prog 15 #[.pointer (some ⟨b2, 0, none⟩), .agg #[.int .i64 y1, .int .i64 y2, .int .i64 y3]] W fun e w' => ∃ a2 c2, e = .returned (.slice a2 nG c2) ∧ Sb w w' fl L5 b1 fl L5 b2 [(some ⟨EB, 0, none⟩, [⟨p, yoa, yoc⟩])] [(a2, G), (a, G)]) := fun h => by
          have h1 := h.rback (y1, y2, y3)
          rw [hG, hnG, hL5] at h1
          exact h1
        have HSA : Hid (∀ {W : World} {a a2 : Option Addr} {c c2 : Nat}, Sb w W fl L5 b1 fl L5 b2 [(some ⟨EB, 0, none⟩, [⟨p, yoa, yoc⟩])] [(a2, G), (a, G)] → Calls Try.prog 13 #[.slice a nG c, .slice a2 nG c2] W fun e w' => e = .returned (.bool true) ∧ Sb w w' fl L5 b1 fl L5 b2 [(some ⟨EB, 0, none⟩, [⟨p, yoa, yoc⟩])] [(a2, G), (a, G)]) := fun h => h.same (by simp) (by simp) hnG (by omega)
        have KEEP0 : Hid (W2.drew.cell? ⟨EB, 0, none⟩ = some (.int .i64 y1) ∧ W2.drew.cell? ⟨EB, 1, none⟩ = some (.int .i64 y2) ∧ W2.drew.cell? ⟨EB, 2, none⟩ = some (.int .i64 y3)) := ⟨(HEC.out (HPB.out.on (Below.refl _ W2).drew)).1, (HEC.out (HPB.out.on (Below.refl _ W2).drew)).2.1, (HEC.out (HPB.out.on (Below.refl _ W2).drew)).2.2.1⟩
        obtain ⟨k0, k1, k2, k3, k4, k5, k6, k7, k8, k9⟩ := HEC.out HPB.out
        have hf5 : 0 ≤ fl := by omega
        clear hG hnG hL5 HPU HRU
        go_wp2_with fail
        rw [← HW2.out]
        simp only [HEB.out]
        go_region_held3 (fun w' => w'.cell? ⟨EB, 0, none⟩ = some (.int .i64 y1) ∧ w'.cell? ⟨EB, 1, none⟩ = some (.int .i64 y2) ∧ w'.cell? ⟨EB, 2, none⟩ = some (.int .i64 y3)) (first | (go_keep; done) | exact Hid.out KEEP3 | exact Hid.out KEEP2 | exact Hid.out KEEP1 | exact Hid.out KEEP0) (first
          | (go_at_call 13; refine (Hid.out HSA (Hid.out H4)).mono ?_; rintro e w5 ⟨rfl, h5⟩; have HQ : Hid (Sb w w5 fl L5 b1 fl L5 b2 [(some ⟨EB, 0, none⟩, [⟨p, yoa, yoc⟩])] [(a4, G), (a3, G)]) := h5; have KEEP3 : Hid (w5.cell? ⟨EB, 0, none⟩ = some (.int .i64 y1) ∧ w5.cell? ⟨EB, 1, none⟩ = some (.int .i64 y2) ∧ w5.cell? ⟨EB, 2, none⟩ = some (.int .i64 y3)) := ⟨(Hid.out HEC h5).1, (Hid.out HEC h5).2.1, (Hid.out HEC h5).2.2.1⟩; clear h5)
          | (go_at_call 15; refine (Hid.out HRB (Hid.out H3)).mono ?_; rintro e w4 ⟨a4, c4, rfl, h4⟩; have H4 : Hid (Sb w w4 fl L5 b1 fl L5 b2 [(some ⟨EB, 0, none⟩, [⟨p, yoa, yoc⟩])] [(a4, G), (a3, G)]) := h4; have KEEP2 : Hid (w4.cell? ⟨EB, 0, none⟩ = some (.int .i64 y1) ∧ w4.cell? ⟨EB, 1, none⟩ = some (.int .i64 y2) ∧ w4.cell? ⟨EB, 2, none⟩ = some (.int .i64 y3)) := ⟨(Hid.out HEC h4).1, (Hid.out HEC h4).2.1, (Hid.out HEC h4).2.2.1⟩; clear h4)
          | (go_at_call 14; refine (Hid.out HBA).mono ?_; rintro e w3 ⟨a3, c3, rfl, h3⟩; have H3 : Hid (Sb w w3 fl L5 b1 fl L b2 [(some ⟨EB, 0, none⟩, [⟨p, yoa, yoc⟩])] [(a3, G)]) := h3; have KEEP1 : Hid (w3.cell? ⟨EB, 0, none⟩ = some (.int .i64 y1) ∧ w3.cell? ⟨EB, 1, none⟩ = some (.int .i64 y2) ∧ w3.cell? ⟨EB, 2, none⟩ = some (.int .i64 y3)) := ⟨(Hid.out HEC h3).1, (Hid.out HEC h3).2.1, (Hid.out HEC h3).2.2.1⟩; clear h3))
        clear HBA HRB HSA HEC KEEP0 KEEP1 KEEP2 KEEP3 k0 k1 k2 k3 k4 k5 k6 k7 k8 k9 H3 H4
        have HQ0 : Hid (Sb w w5 fl L5 b1 fl L5 b2 [] []) := Sb.less HQ.out (fun r hr => by cases hr) (fun r hr => by cases hr)
        obtain ⟨ra, rc, hcel⟩ := HQ0.out.cells
        have hl64 : L5.length ≤ 64 := HQ0.out.cap
        obtain ⟨n, hnn⟩ : ∃ n, L5.length = n := ⟨_, rfl⟩
        obtain ⟨d, hd⟩ : ∃ d, decide (0 < L5.length) = d := ⟨_, rfl⟩
        rw [hnn] at hcel hl64
        have HCEL : Hid (∀ W, Below w5.heap.size w5 W → W.cell? ⟨b2, 0, none⟩ = some (.int .i64 fl) ∧ W.cell? ⟨b2, 1, none⟩ = some (.slice ra n rc)) := hcel
        have HLA : Hid (∀ {W : World}, Below w5.heap.size w5 W → Calls Try.prog 18 #[.pointer (some ⟨b1, 0, none⟩)] W fun e w' => ∃ x : E, e = .returned (.tuple #[ev x, .bool d]) ∧ x.p = lastP L5 ∧ Out (fun _ => True) w' x ∧ Below W.heap.size W w') := fun hW => by have h1 := HQ0.out.last hW; rw [hd] at h1; exact h1
        have HRA : Hid (∀ {W : World}, Below w5.heap.size w5 W → Calls Try.prog 19 #[.pointer (some ⟨b2, 0, none⟩)] W fun e w' => ∃ x : E, e = .returned (.tuple #[ev x, .bool d]) ∧ x.p = lastP L5 ∧ Out (fun _ => True) w' x ∧ Below W.heap.size W w') := fun hW => by have h1 := HQ0.out.rlast hW; rw [hd] at h1; exact h1
        have HKS : Hid (∀ {W : World}, Below w5.heap.size w5 W → Calls Try.prog 20 #[.pointer (some ⟨b1, 0, none⟩)] W fun e w' => ∃ a c, e = .returned (.slice a n c) ∧ RdN cK (fun _ => True) w' a (keysP L5) ∧ Below W.heap.size W w') := fun hW => by have h1 := HQ0.out.keys hW; rw [hnn] at h1; exact h1
        have HRK : Hid (∀ {W : World}, Below w5.heap.size w5 W → Calls Try.prog 21 #[.pointer (some ⟨b2, 0, none⟩)] W fun e w' => ∃ a c, e = .returned (.slice a n c) ∧ RdN cK (fun _ => True) w' a (keysP L5) ∧ Below W.heap.size W w') := fun hW => by have h1 := HQ0.out.rkeys hW; rw [hnn] at h1; exact h1
        have HLE : Hid (∀ {W : World}, Below w5.heap.size w5 W → Calls Try.prog 23 #[.pointer (some ⟨b1, 0, none⟩)] W fun e w' => e = .returned (.int .i64 n) ∧ W = w') := fun hW => by have h1 := HQ0.out.len hW; rw [hnn] at h1; exact h1
        have HFO : Hid (∀ {W : World}, Below w5.heap.size w5 W → Calls Try.prog 24 #[.pointer (some ⟨b1, 0, none⟩)] W fun e w' => e = .returned (.int .i64 fl) ∧ W = w') := fun hW => HQ0.out.floor hW
        have HNN : Hid (L5.length = n) := hnn
        clear hcel hnn hd
        go_wp2_with (go_at_call 18; refine (Hid.out HLA (Below.refl _ _)).mono ?_; rintro e w6 ⟨xe, rfl, hxp, hxo, hb6⟩; obtain ⟨⟨⟨⟨z1, z2, z3⟩, z4, z5, z6⟩, z7, z8, z9, zos⟩, xa, xc⟩ := xe; obtain ⟨q, hq⟩ : ∃ q, zos.length = q := ⟨_, rfl⟩; dsimp only [ev] at hxp ⊢; rw [hq]; have HXP : Hid ((⟨((z1, z2, z3), z4, z5, z6), z7, z8, z9, zos⟩ : P) = lastP L5) := hxp; have HXO : Hid (Out (fun _ => True) w6 ⟨⟨((z1, z2, z3), z4, z5, z6), z7, z8, z9, zos⟩, xa, xc⟩) := hxo; have HB6 : Hid (Below w5.heap.size w5 w6) := hb6; have HQQ : Hid (zos.length = q) := hq; clear hxp hxo hb6 hq HLA; go_wp2_with fail)
        obtain ⟨AB, hAB⟩ : ∃ AB, w6.heap.size = AB := ⟨_, rfl⟩
        obtain ⟨W6, hW6⟩ : ∃ W6, W6 = w6.alloc (.cells #[.int .i64 z1, .int .i64 z2, .int .i64 z3, .int .i64 z4, .int .i64 z5, .int .i64 z6, .int .i64 z7, .int .i64 z8, .int .i64 z9, .slice xa q xc] 34) := ⟨_, rfl⟩
        have HAX : Hid (W6.heap[AB]? = some (.cells #[.int .i64 z1, .int .i64 z2, .int .i64 z3, .int .i64 z4, .int .i64 z5, .int .i64 z6, .int .i64 z7, .int .i64 z8, .int .i64 z9, .slice xa q xc] 34 (0, 0))) := by show W6.heap[AB]? = some (.cells #[.int .i64 z1, .int .i64 z2, .int .i64 z3, .int .i64 z4, .int .i64 z5, .int .i64 z6, .int .i64 z7, .int .i64 z8, .int .i64 z9, .slice xa q xc] 34 (0, 0)); rw [hW6, ← hAB]; exact newB _ _
        have HB66 : Hid (Below w6.heap.size w6 W6) := by show Below w6.heap.size w6 W6; rw [hW6]; exact al _ _
        rw [← hW6, hAB]
        clear hW6 hAB
        refine (HRA.out (Below.on HB6.out HB66.out)).mono ?_
        rintro e w7 ⟨xe, rfl, hxp, hxo, hb7⟩
        obtain ⟨up, ua, uc⟩ := xe
        dsimp only at hxp
        rw [← HXP.out] at hxp
        subst hxp
        dsimp only [ev]
        rw [HQQ.out]
        have HUO : Hid (Out (fun _ => True) w7 ⟨⟨((z1, z2, z3), z4, z5, z6), z7, z8, z9, zos⟩, ua, uc⟩) := hxo
        have HB7 : Hid (Below W6.heap.size W6 w7) := hb7
        clear hxo hb7 HRA
        go_wp2_with fail
        obtain ⟨BB, hBB⟩ : ∃ BB, w7.heap.size = BB := ⟨_, rfl⟩
        obtain ⟨W7, hW7⟩ : ∃ W7, W7 = w7.alloc (.cells #[.int .i64 z1, .int .i64 z2, .int .i64 z3, .int .i64 z4, .int .i64 z5, .int .i64 z6, .int .i64 z7, .int .i64 z8, .int .i64 z9, .slice ua q uc] 40) := ⟨_, rfl⟩
        have HBX : Hid (W7.heap[BB]? = some (.cells #[.int .i64 z1, .int .i64 z2, .int .i64 z3, .int .i64 z4, .int .i64 z5, .int .i64 z6, .int .i64 z7, .int .i64 z8, .int .i64 z9, .slice ua q uc] 40 (0, 0))) := by show W7.heap[BB]? = some (.cells #[.int .i64 z1, .int .i64 z2, .int .i64 z3, .int .i64 z4, .int .i64 z5, .int .i64 z6, .int .i64 z7, .int .i64 z8, .int .i64 z9, .slice ua q uc] 40 (0, 0)); rw [hW7, ← hBB]; exact newB _ _
        have HB77 : Hid (Below w7.heap.size w7 W7) := by show Below w7.heap.size w7 W7; rw [hW7]; exact al _ _
        rw [← hW7, hBB]
        clear hW7 hBB
        have HB5 : Hid (Below w5.heap.size w5 W7) := Below.on (Below.on (Below.on HB6.out HB66.out) HB7.out) HB77.out
        have HXO7 : Hid (Out (fun _ => True) W7 ⟨⟨((z1, z2, z3), z4, z5, z6), z7, z8, z9, zos⟩, xa, xc⟩) := HXO.out.below (Below.on (Below.on HB66.out HB7.out) HB77.out)
        have HUO7 : Hid (Out (fun _ => True) W7 ⟨⟨((z1, z2, z3), z4, z5, z6), z7, z8, z9, zos⟩, ua, uc⟩) := HUO.out.below HB77.out
        have HS25 : Hid (∀ W, Below W7.heap.size W7 W → (AB < W.heap.size ∧ BB < W.heap.size) ∧ (W.cell? ⟨b2, 0, none⟩ = some (.int .i64 fl) ∧ W.cell? ⟨b2, 1, none⟩ = some (.slice ra n rc)) ∧ (W.cell? ⟨AB, 0, none⟩ = some (.int .i64 z1) ∧ W.cell? ⟨AB, 1, none⟩ = some (.int .i64 z2) ∧ W.cell? ⟨AB, 2, none⟩ = some (.int .i64 z3) ∧ W.cell? ⟨AB, 3, none⟩ = some (.int .i64 z4) ∧ W.cell? ⟨AB, 4, none⟩ = some (.int .i64 z5) ∧ W.cell? ⟨AB, 5, none⟩ = some (.int .i64 z6) ∧ W.cell? ⟨AB, 6, none⟩ = some (.int .i64 z7) ∧ W.cell? ⟨AB, 7, none⟩ = some (.int .i64 z8) ∧ W.cell? ⟨AB, 8, none⟩ = some (.int .i64 z9) ∧ W.cell? ⟨AB, 9, none⟩ = some (.slice xa q xc)) ∧ (W.cell? ⟨BB, 0, none⟩ = some (.int .i64 z1) ∧ W.cell? ⟨BB, 1, none⟩ = some (.int .i64 z2) ∧ W.cell? ⟨BB, 2, none⟩ = some (.int .i64 z3) ∧ W.cell? ⟨BB, 3, none⟩ = some (.int .i64 z4) ∧ W.cell? ⟨BB, 4, none⟩ = some (.int .i64 z5) ∧ W.cell? ⟨BB, 5, none⟩ = some (.int .i64 z6) ∧ W.cell? ⟨BB, 6, none⟩ = some (.int .i64 z7) ∧ W.cell? ⟨BB, 7, none⟩ = some (.int .i64 z8) ∧ W.cell? ⟨BB, 8, none⟩ = some (.int .i64 z9) ∧ W.cell? ⟨BB, 9, none⟩ = some (.slice ua q uc))) := fun W hW => by
          have b0 := ((Below.on (Below.on HB7.out HB77.out) hW).block AB (Array.getElem?_eq_some_iff.1 HAX.out).1).trans HAX.out
          have b1' := (hW.block BB (Array.getElem?_eq_some_iff.1 HBX.out).1).trans HBX.out
          exact ⟨⟨(Array.getElem?_eq_some_iff.1 b0).1, (Array.getElem?_eq_some_iff.1 b1').1⟩, HCEL.out W (Below.on HB5.out hW), ⟨cellB b0 0, cellB b0 1, cellB b0 2, cellB b0 3, cellB b0 4, cellB b0 5, cellB b0 6, cellB b0 7, cellB b0 8, cellB b0 9⟩, cellB b1' 0, cellB b1' 1, cellB b1' 2, cellB b1' 3, cellB b1' 4, cellB b1' 5, cellB b1' 6, cellB b1' 7, cellB b1' 8, cellB b1' 9⟩
        have HSAF : Hid (∀ W, Below W7.heap.size W7 W → Calls Try.prog 22 #[.agg #[.int .i64 z1, .int .i64 z2, .int .i64 z3, .int .i64 z4, .int .i64 z5, .int .i64 z6, .int .i64 z7, .int .i64 z8, .int .i64 z9, .slice xa q xc], .agg #[.int .i64 z1, .int .i64 z2, .int .i64 z3, .int .i64 z4, .int .i64 z5, .int .i64 z6, .int .i64 z7, .int .i64 z8, .int .i64 z9, .slice ua q uc]] W.drew fun e w' => e = .returned (.bool true) ∧ Below W.heap.size W w') := fun W hW => by
          have h1 := same_entry (HXO7.out.below hW.drew) (HUO7.out.below hW.drew) rfl
          dsimp only [ev] at h1
          rw [HQQ.out] at h1
          exact h1.mono fun e w' ⟨he, hb⟩ => ⟨he, ⟨hb.os, hb.tape, hb.output, hb.size, hb.block⟩⟩
        clear HXO HUO HXP HB6 HB66 HB7 HB77 HAX HBX
        refine (HKS.out HB5.out).mono ?_
        rintro e w8 ⟨ka, kc, rfl, hk8, hb8⟩
        have HK8 : Hid (RdN cK (fun _ => True) w8 ka (keysP L5)) := hk8
        have HB8 : Hid (Below W7.heap.size W7 w8) := hb8
        clear hk8 hb8 HKS
        go_wp2_with (go_at_call 21; refine (Hid.out HRK (Below.on (Hid.out HB5) (Hid.out HB8))).mono ?_; rintro e w9 ⟨ma, mc, rfl, hk9, hb9⟩; have HM9 : Hid (RdN cK (fun _ => True) w9 ma (keysP L5)) := hk9; have HK9 : Hid (RdN cK (fun _ => True) w9 ka (keysP L5)) := RdN.below (Hid.out HK8) hb9; have HB9 : Hid (Below W7.heap.size W7 w9) := Below.on (Hid.out HB8) hb9; clear hk9 hb9 HRK)
        obtain ⟨⟨lAB, lBB⟩, ⟨s1, s2⟩, ⟨p0, p1, p2, p3, p4, p5, p6, p7, p8, p9⟩, r0, r1, r2, r3, r4, r5, r6, r7, r8, r9⟩ := HS25.out w9 HB9.out
        have HSAM : Hid (Calls Try.prog 22 #[.agg #[.int .i64 z1, .int .i64 z2, .int .i64 z3, .int .i64 z4, .int .i64 z5, .int .i64 z6, .int .i64 z7, .int .i64 z8, .int .i64 z9, .slice xa q xc], .agg #[.int .i64 z1, .int .i64 z2, .int .i64 z3, .int .i64 z4, .int .i64 z5, .int .i64 z6, .int .i64 z7, .int .i64 z8, .int .i64 z9, .slice ua q uc]] w9.drew fun e w' => e = .returned (.bool true) ∧ Below w9.heap.size w9 w') := HSAF.out w9 HB9.out
        have KEEP0 : Hid ((w9.drew.cell? ⟨b2, 0, none⟩ = some (.int .i64 fl) ∧ w9.drew.cell? ⟨b2, 1, none⟩ = some (.slice ra n rc)) ∧ (w9.drew.cell? ⟨AB, 0, none⟩ = some (.int .i64 z1) ∧ w9.drew.cell? ⟨AB, 1, none⟩ = some (.int .i64 z2) ∧ w9.drew.cell? ⟨AB, 2, none⟩ = some (.int .i64 z3) ∧ w9.drew.cell? ⟨AB, 3, none⟩ = some (.int .i64 z4) ∧ w9.drew.cell? ⟨AB, 4, none⟩ = some (.int .i64 z5) ∧ w9.drew.cell? ⟨AB, 5, none⟩ = some (.int .i64 z6) ∧ w9.drew.cell? ⟨AB, 6, none⟩ = some (.int .i64 z7) ∧ w9.drew.cell? ⟨AB, 7, none⟩ = some (.int .i64 z8) ∧ w9.drew.cell? ⟨AB, 8, none⟩ = some (.int .i64 z9) ∧ w9.drew.cell? ⟨AB, 9, none⟩ = some (.slice xa q xc)) ∧ (w9.drew.cell? ⟨BB, 0, none⟩ = some (.int .i64 z1) ∧ w9.drew.cell? ⟨BB, 1, none⟩ = some (.int .i64 z2) ∧ w9.drew.cell? ⟨BB, 2, none⟩ = some (.int .i64 z3) ∧ w9.drew.cell? ⟨BB, 3, none⟩ = some (.int .i64 z4) ∧ w9.drew.cell? ⟨BB, 4, none⟩ = some (.int .i64 z5) ∧ w9.drew.cell? ⟨BB, 5, none⟩ = some (.int .i64 z6) ∧ w9.drew.cell? ⟨BB, 6, none⟩ = some (.int .i64 z7) ∧ w9.drew.cell? ⟨BB, 7, none⟩ = some (.int .i64 z8) ∧ w9.drew.cell? ⟨BB, 8, none⟩ = some (.int .i64 z9) ∧ w9.drew.cell? ⟨BB, 9, none⟩ = some (.slice ua q uc))) := (HS25.out w9.drew HB9.out.drew).2
        have dd : (d != d) = false := by cases d <;> rfl
        have dn : ((n : Int) != (n : Int)) = false := by simp
        have df : (fl != fl) = false := by simp
        have dl : n ≤ 64 := hl64
        go_region_held3 (fun w' => (w'.cell? ⟨b2, 0, none⟩ = some (.int .i64 fl) ∧ w'.cell? ⟨b2, 1, none⟩ = some (.slice ra n rc)) ∧ (w'.cell? ⟨AB, 0, none⟩ = some (.int .i64 z1) ∧ w'.cell? ⟨AB, 1, none⟩ = some (.int .i64 z2) ∧ w'.cell? ⟨AB, 2, none⟩ = some (.int .i64 z3) ∧ w'.cell? ⟨AB, 3, none⟩ = some (.int .i64 z4) ∧ w'.cell? ⟨AB, 4, none⟩ = some (.int .i64 z5) ∧ w'.cell? ⟨AB, 5, none⟩ = some (.int .i64 z6) ∧ w'.cell? ⟨AB, 6, none⟩ = some (.int .i64 z7) ∧ w'.cell? ⟨AB, 7, none⟩ = some (.int .i64 z8) ∧ w'.cell? ⟨AB, 8, none⟩ = some (.int .i64 z9) ∧ w'.cell? ⟨AB, 9, none⟩ = some (.slice xa q xc)) ∧ (w'.cell? ⟨BB, 0, none⟩ = some (.int .i64 z1) ∧ w'.cell? ⟨BB, 1, none⟩ = some (.int .i64 z2) ∧ w'.cell? ⟨BB, 2, none⟩ = some (.int .i64 z3) ∧ w'.cell? ⟨BB, 3, none⟩ = some (.int .i64 z4) ∧ w'.cell? ⟨BB, 4, none⟩ = some (.int .i64 z5) ∧ w'.cell? ⟨BB, 5, none⟩ = some (.int .i64 z6) ∧ w'.cell? ⟨BB, 6, none⟩ = some (.int .i64 z7) ∧ w'.cell? ⟨BB, 7, none⟩ = some (.int .i64 z8) ∧ w'.cell? ⟨BB, 8, none⟩ = some (.int .i64 z9) ∧ w'.cell? ⟨BB, 9, none⟩ = some (.slice ua q uc))) (first | (go_keep; done) | exact Hid.out KEEP2 | exact Hid.out KEEP0) (first
          | (go_at_call 24; refine (Hid.out HFO (Below.on (Hid.out HB5) (Hid.out HB10))).mono ?_; rintro e w11 ⟨rfl, rfl⟩)
          | (go_at_call 23; refine (Hid.out HLE (Below.on (Hid.out HB5) (Hid.out HB10))).mono ?_; rintro e w11 ⟨rfl, rfl⟩)
          | (go_at_call 22; refine (Hid.out HSAM).mono ?_; rintro e w10 ⟨rfl, hb10⟩; have HB10 : Hid (Below W7.heap.size W7 w10) := (Below.on (Hid.out HB9) hb10); have HB910 : Hid (Below w9.heap.size w9 w10) := hb10; have KEEP2 : Hid ((w10.cell? ⟨b2, 0, none⟩ = some (.int .i64 fl) ∧ w10.cell? ⟨b2, 1, none⟩ = some (.slice ra n rc)) ∧ (w10.cell? ⟨AB, 0, none⟩ = some (.int .i64 z1) ∧ w10.cell? ⟨AB, 1, none⟩ = some (.int .i64 z2) ∧ w10.cell? ⟨AB, 2, none⟩ = some (.int .i64 z3) ∧ w10.cell? ⟨AB, 3, none⟩ = some (.int .i64 z4) ∧ w10.cell? ⟨AB, 4, none⟩ = some (.int .i64 z5) ∧ w10.cell? ⟨AB, 5, none⟩ = some (.int .i64 z6) ∧ w10.cell? ⟨AB, 6, none⟩ = some (.int .i64 z7) ∧ w10.cell? ⟨AB, 7, none⟩ = some (.int .i64 z8) ∧ w10.cell? ⟨AB, 8, none⟩ = some (.int .i64 z9) ∧ w10.cell? ⟨AB, 9, none⟩ = some (.slice xa q xc)) ∧ (w10.cell? ⟨BB, 0, none⟩ = some (.int .i64 z1) ∧ w10.cell? ⟨BB, 1, none⟩ = some (.int .i64 z2) ∧ w10.cell? ⟨BB, 2, none⟩ = some (.int .i64 z3) ∧ w10.cell? ⟨BB, 3, none⟩ = some (.int .i64 z4) ∧ w10.cell? ⟨BB, 4, none⟩ = some (.int .i64 z5) ∧ w10.cell? ⟨BB, 5, none⟩ = some (.int .i64 z6) ∧ w10.cell? ⟨BB, 6, none⟩ = some (.int .i64 z7) ∧ w10.cell? ⟨BB, 7, none⟩ = some (.int .i64 z8) ∧ w10.cell? ⟨BB, 8, none⟩ = some (.int .i64 z9) ∧ w10.cell? ⟨BB, 9, none⟩ = some (.slice ua q uc))) := (Hid.out HS25 _ (Below.on (Hid.out HB9) hb10)).2; clear hb10))
        obtain ⟨w11, hw11⟩ : ∃ w11, w11 = w10 := ⟨_, rfl⟩
        have HK10 : Hid (∀ W, Below w9.heap.size w9 W → RdN cK (fun _ => True) W ka (keysP L5) ∧ RdN cK (fun _ => True) W ma (keysP L5)) := fun W hW => ⟨HK9.out.below hW, HM9.out.below hW⟩
        clear hw11 KEEP0 KEEP2 p0 p1 p2 p3 p4 p5 p6 p7 p8 p9 r0 r1 r2 r3 r4 r5 r6 r7 r8 r9 s1 s2 dd df lAB lBB
        go_wp2_with fail
        go_loopw [13] (fun s13 wr => ∃ j : Nat, s13 = .int .i64 j ∧ j ≤ n ∧ Hid (Below w9.heap.size w9 wr)) (fun s13 _ => n - (intOf s13).toNat)
        case atStart => exact ⟨0, rfl, Nat.zero_le _, HB910.out⟩
        case round =>
          obtain ⟨j, rfl, hj, HBJ⟩ := hrel
          by_cases hlt3 : j < n
          · have hlt3' : (j : Int) < (n : Int) := by omega
            obtain ⟨k1, k2, k3, hk⟩ : ∃ k1 k2 k3, nth cK (keysP L5) j = (k1, k2, k3) := ⟨_, _, _, rfl⟩
            obtain ⟨kb, ko, rfl, lkb, u0, u1, u2⟩ := (HK10.out wr HBJ.out).1.key (i := j) (by rw [keysP_len, HNN.out]; exact hlt3) hk
            obtain ⟨mb, mo, rfl, lmb, v0, v1, v2⟩ := (HK10.out wr HBJ.out).2.key (i := j) (by rw [keysP_len, HNN.out]; exact hlt3) hk
            clear hk
            go_wp2_with fail
            go_quiet (fail)
            go_wp2
            go_roundw
            case rel => exact ⟨j + 1, by go_num, by omega, HBJ.out.trans ⟨rfl, rfl, rfl, Nat.le_refl _, fun _ _ => rfl⟩⟩
            case measure => simp [intOf]; omega
          · obtain rfl : j = n := by omega
            go_wp2
            go_roundw
            case rel => exact ⟨i + 1, fl, L5, by go_num, by omega, hf5, HQ0.out.on (Below.on HB5.out (Below.on HB9.out HBJ.out))⟩
            case measure => simp [intOf]; omega
      · obtain ⟨G, hG⟩ : ∃ G, gonT y1 L = G := ⟨_, rfl⟩
        obtain ⟨nG, hnG⟩ : ∃ nG, G.length = nG := ⟨_, rfl⟩
        obtain ⟨L5, hL5⟩ : ∃ L5, L.filter (fun x => !low y1 x) = L5 := ⟨_, rfl⟩
        have hG64 : nG ≤ 64 := by rw [← hnG, ← hG]; exact HKY.out.2
        have HBA : Hid (Calls Try.prog 16 #[.pointer (some ⟨b1, 0, none⟩), .int .i64 y1] W2.drew fun e w' => ∃ a c, e = .returned (.slice a nG c) ∧ Sb w w' (max fl y1) L5 b1 fl L b2 [(some ⟨EB, 0, none⟩, [⟨p, yoa, yoc⟩])] [(a, G)]) := by
          have h1 := (HPB.out.on (Below.refl _ W2).drew).settle y1
          rw [hG, hnG, hL5] at h1
          exact h1
        have HRB : Hid (∀ {W : World} {a : Option Addr}, Sb w W (max fl y1) L5 b1 fl L b2 [(some ⟨EB, 0, none⟩, [⟨p, yoa, yoc⟩])] [(a, G)] → Calls Try.prog 17 #[.pointer (some ⟨b2, 0, none⟩), .int .i64 y1] W fun e w' => ∃ a2 c2, e = .returned (.slice a2 nG c2) ∧ Sb w w' (max fl y1) L5 b1 (max fl y1) L5 b2 [(some ⟨EB, 0, none⟩, [⟨p, yoa, yoc⟩])] [(a2, G), (a, G)]) := fun h => by
          have h1 := h.rsettle y1
          rw [hG, hnG, hL5] at h1
          exact h1
        have HSA : Hid (∀ {W : World} {a a2 : Option Addr} {c c2 : Nat}, Sb w W (max fl y1) L5 b1 (max fl y1) L5 b2 [(some ⟨EB, 0, none⟩, [⟨p, yoa, yoc⟩])] [(a2, G), (a, G)] → Calls Try.prog 13 #[.slice a nG c, .slice a2 nG c2] W fun e w' => e = .returned (.bool true) ∧ Sb w w' (max fl y1) L5 b1 (max fl y1) L5 b2 [(some ⟨EB, 0, none⟩, [⟨p, yoa, yoc⟩])] [(a2, G), (a, G)]) := fun h => h.same (by simp) (by simp) hnG (by omega)
        have KEEP0 : Hid (W2.drew.cell? ⟨EB, 0, none⟩ = some (.int .i64 y1)) := (HEC.out (HPB.out.on (Below.refl _ W2).drew)).1
        obtain ⟨k0, k1, k2, k3, k4, k5, k6, k7, k8, k9⟩ := HEC.out HPB.out
        have hf5 : 0 ≤ (max fl y1) := by omega
        clear hG hnG hL5 HPU HRU
        go_wp2_with fail
        rw [← HW2.out]
        simp only [HEB.out]
        go_region_held3 (fun w' => w'.cell? ⟨EB, 0, none⟩ = some (.int .i64 y1)) (first | (go_keep; done) | exact Hid.out KEEP3 | exact Hid.out KEEP2 | exact Hid.out KEEP1 | exact Hid.out KEEP0) (first
          | (go_at_call 13; refine (Hid.out HSA (Hid.out H4)).mono ?_; rintro e w5 ⟨rfl, h5⟩; have HQ : Hid (Sb w w5 (max fl y1) L5 b1 (max fl y1) L5 b2 [(some ⟨EB, 0, none⟩, [⟨p, yoa, yoc⟩])] [(a4, G), (a3, G)]) := h5; have KEEP3 : Hid (w5.cell? ⟨EB, 0, none⟩ = some (.int .i64 y1)) := (Hid.out HEC h5).1; clear h5)
          | (go_at_call 17; refine (Hid.out HRB (Hid.out H3)).mono ?_; rintro e w4 ⟨a4, c4, rfl, h4⟩; have H4 : Hid (Sb w w4 (max fl y1) L5 b1 (max fl y1) L5 b2 [(some ⟨EB, 0, none⟩, [⟨p, yoa, yoc⟩])] [(a4, G), (a3, G)]) := h4; have KEEP2 : Hid (w4.cell? ⟨EB, 0, none⟩ = some (.int .i64 y1)) := (Hid.out HEC h4).1; clear h4)
          | (go_at_call 16; refine (Hid.out HBA).mono ?_; rintro e w3 ⟨a3, c3, rfl, h3⟩; have H3 : Hid (Sb w w3 (max fl y1) L5 b1 fl L b2 [(some ⟨EB, 0, none⟩, [⟨p, yoa, yoc⟩])] [(a3, G)]) := h3; have KEEP1 : Hid (w3.cell? ⟨EB, 0, none⟩ = some (.int .i64 y1)) := (Hid.out HEC h3).1; clear h3))
        clear HBA HRB HSA HEC KEEP0 KEEP1 KEEP2 KEEP3 k0 k1 k2 k3 k4 k5 k6 k7 k8 k9 H3 H4
        obtain ⟨fl5, hfl5⟩ : ∃ fl5, max fl y1 = fl5 := ⟨_, rfl⟩
        rw [hfl5] at HQ hf5
        clear hfl5
        have HQ0 : Hid (Sb w w5 fl5 L5 b1 fl5 L5 b2 [] []) := Sb.less HQ.out (fun r hr => by cases hr) (fun r hr => by cases hr)
        obtain ⟨ra, rc, hcel⟩ := HQ0.out.cells
        have hl64 : L5.length ≤ 64 := HQ0.out.cap
        obtain ⟨n, hnn⟩ : ∃ n, L5.length = n := ⟨_, rfl⟩
        obtain ⟨d, hd⟩ : ∃ d, decide (0 < L5.length) = d := ⟨_, rfl⟩
        rw [hnn] at hcel hl64
        have HCEL : Hid (∀ W, Below w5.heap.size w5 W → W.cell? ⟨b2, 0, none⟩ = some (.int .i64 fl5) ∧ W.cell? ⟨b2, 1, none⟩ = some (.slice ra n rc)) := hcel
        have HLA : Hid (∀ {W : World}, Below w5.heap.size w5 W → Calls Try.prog 18 #[.pointer (some ⟨b1, 0, none⟩)] W fun e w' => ∃ x : E, e = .returned (.tuple #[ev x, .bool d]) ∧ x.p = lastP L5 ∧ Out (fun _ => True) w' x ∧ Below W.heap.size W w') := fun hW => by have h1 := HQ0.out.last hW; rw [hd] at h1; exact h1
        have HRA : Hid (∀ {W : World}, Below w5.heap.size w5 W → Calls Try.prog 19 #[.pointer (some ⟨b2, 0, none⟩)] W fun e w' => ∃ x : E, e = .returned (.tuple #[ev x, .bool d]) ∧ x.p = lastP L5 ∧ Out (fun _ => True) w' x ∧ Below W.heap.size W w') := fun hW => by have h1 := HQ0.out.rlast hW; rw [hd] at h1; exact h1
        have HKS : Hid (∀ {W : World}, Below w5.heap.size w5 W → Calls Try.prog 20 #[.pointer (some ⟨b1, 0, none⟩)] W fun e w' => ∃ a c, e = .returned (.slice a n c) ∧ RdN cK (fun _ => True) w' a (keysP L5) ∧ Below W.heap.size W w') := fun hW => by have h1 := HQ0.out.keys hW; rw [hnn] at h1; exact h1
        have HRK : Hid (∀ {W : World}, Below w5.heap.size w5 W → Calls Try.prog 21 #[.pointer (some ⟨b2, 0, none⟩)] W fun e w' => ∃ a c, e = .returned (.slice a n c) ∧ RdN cK (fun _ => True) w' a (keysP L5) ∧ Below W.heap.size W w') := fun hW => by have h1 := HQ0.out.rkeys hW; rw [hnn] at h1; exact h1
        have HLE : Hid (∀ {W : World}, Below w5.heap.size w5 W → Calls Try.prog 23 #[.pointer (some ⟨b1, 0, none⟩)] W fun e w' => e = .returned (.int .i64 n) ∧ W = w') := fun hW => by have h1 := HQ0.out.len hW; rw [hnn] at h1; exact h1
        have HFO : Hid (∀ {W : World}, Below w5.heap.size w5 W → Calls Try.prog 24 #[.pointer (some ⟨b1, 0, none⟩)] W fun e w' => e = .returned (.int .i64 fl5) ∧ W = w') := fun hW => HQ0.out.floor hW
        have HNN : Hid (L5.length = n) := hnn
        clear hcel hnn hd
        go_wp2_with (go_at_call 18; refine (Hid.out HLA (Below.refl _ _)).mono ?_; rintro e w6 ⟨xe, rfl, hxp, hxo, hb6⟩; obtain ⟨⟨⟨⟨z1, z2, z3⟩, z4, z5, z6⟩, z7, z8, z9, zos⟩, xa, xc⟩ := xe; obtain ⟨q, hq⟩ : ∃ q, zos.length = q := ⟨_, rfl⟩; dsimp only [ev] at hxp ⊢; rw [hq]; have HXP : Hid ((⟨((z1, z2, z3), z4, z5, z6), z7, z8, z9, zos⟩ : P) = lastP L5) := hxp; have HXO : Hid (Out (fun _ => True) w6 ⟨⟨((z1, z2, z3), z4, z5, z6), z7, z8, z9, zos⟩, xa, xc⟩) := hxo; have HB6 : Hid (Below w5.heap.size w5 w6) := hb6; have HQQ : Hid (zos.length = q) := hq; clear hxp hxo hb6 hq HLA; go_wp2_with fail)
        obtain ⟨AB, hAB⟩ : ∃ AB, w6.heap.size = AB := ⟨_, rfl⟩
        obtain ⟨W6, hW6⟩ : ∃ W6, W6 = w6.alloc (.cells #[.int .i64 z1, .int .i64 z2, .int .i64 z3, .int .i64 z4, .int .i64 z5, .int .i64 z6, .int .i64 z7, .int .i64 z8, .int .i64 z9, .slice xa q xc] 34) := ⟨_, rfl⟩
        have HAX : Hid (W6.heap[AB]? = some (.cells #[.int .i64 z1, .int .i64 z2, .int .i64 z3, .int .i64 z4, .int .i64 z5, .int .i64 z6, .int .i64 z7, .int .i64 z8, .int .i64 z9, .slice xa q xc] 34 (0, 0))) := by show W6.heap[AB]? = some (.cells #[.int .i64 z1, .int .i64 z2, .int .i64 z3, .int .i64 z4, .int .i64 z5, .int .i64 z6, .int .i64 z7, .int .i64 z8, .int .i64 z9, .slice xa q xc] 34 (0, 0)); rw [hW6, ← hAB]; exact newB _ _
        have HB66 : Hid (Below w6.heap.size w6 W6) := by show Below w6.heap.size w6 W6; rw [hW6]; exact al _ _
        rw [← hW6, hAB]
        clear hW6 hAB
        refine (HRA.out (Below.on HB6.out HB66.out)).mono ?_
        rintro e w7 ⟨xe, rfl, hxp, hxo, hb7⟩
        obtain ⟨up, ua, uc⟩ := xe
        dsimp only at hxp
        rw [← HXP.out] at hxp
        subst hxp
        dsimp only [ev]
        rw [HQQ.out]
        have HUO : Hid (Out (fun _ => True) w7 ⟨⟨((z1, z2, z3), z4, z5, z6), z7, z8, z9, zos⟩, ua, uc⟩) := hxo
        have HB7 : Hid (Below W6.heap.size W6 w7) := hb7
        clear hxo hb7 HRA
        go_wp2_with fail
        obtain ⟨BB, hBB⟩ : ∃ BB, w7.heap.size = BB := ⟨_, rfl⟩
        obtain ⟨W7, hW7⟩ : ∃ W7, W7 = w7.alloc (.cells #[.int .i64 z1, .int .i64 z2, .int .i64 z3, .int .i64 z4, .int .i64 z5, .int .i64 z6, .int .i64 z7, .int .i64 z8, .int .i64 z9, .slice ua q uc] 40) := ⟨_, rfl⟩
        have HBX : Hid (W7.heap[BB]? = some (.cells #[.int .i64 z1, .int .i64 z2, .int .i64 z3, .int .i64 z4, .int .i64 z5, .int .i64 z6, .int .i64 z7, .int .i64 z8, .int .i64 z9, .slice ua q uc] 40 (0, 0))) := by show W7.heap[BB]? = some (.cells #[.int .i64 z1, .int .i64 z2, .int .i64 z3, .int .i64 z4, .int .i64 z5, .int .i64 z6, .int .i64 z7, .int .i64 z8, .int .i64 z9, .slice ua q uc] 40 (0, 0)); rw [hW7, ← hBB]; exact newB _ _
        have HB77 : Hid (Below w7.heap.size w7 W7) := by show Below w7.heap.size w7 W7; rw [hW7]; exact al _ _
        rw [← hW7, hBB]
        clear hW7 hBB
        have HB5 : Hid (Below w5.heap.size w5 W7) := Below.on (Below.on (Below.on HB6.out HB66.out) HB7.out) HB77.out
        have HXO7 : Hid (Out (fun _ => True) W7 ⟨⟨((z1, z2, z3), z4, z5, z6), z7, z8, z9, zos⟩, xa, xc⟩) := HXO.out.below (Below.on (Below.on HB66.out HB7.out) HB77.out)
        have HUO7 : Hid (Out (fun _ => True) W7 ⟨⟨((z1, z2, z3), z4, z5, z6), z7, z8, z9, zos⟩, ua, uc⟩) := HUO.out.below HB77.out
        have HS25 : Hid (∀ W, Below W7.heap.size W7 W → (AB < W.heap.size ∧ BB < W.heap.size) ∧ (W.cell? ⟨b2, 0, none⟩ = some (.int .i64 fl5) ∧ W.cell? ⟨b2, 1, none⟩ = some (.slice ra n rc)) ∧ (W.cell? ⟨AB, 0, none⟩ = some (.int .i64 z1) ∧ W.cell? ⟨AB, 1, none⟩ = some (.int .i64 z2) ∧ W.cell? ⟨AB, 2, none⟩ = some (.int .i64 z3) ∧ W.cell? ⟨AB, 3, none⟩ = some (.int .i64 z4) ∧ W.cell? ⟨AB, 4, none⟩ = some (.int .i64 z5) ∧ W.cell? ⟨AB, 5, none⟩ = some (.int .i64 z6) ∧ W.cell? ⟨AB, 6, none⟩ = some (.int .i64 z7) ∧ W.cell? ⟨AB, 7, none⟩ = some (.int .i64 z8) ∧ W.cell? ⟨AB, 8, none⟩ = some (.int .i64 z9) ∧ W.cell? ⟨AB, 9, none⟩ = some (.slice xa q xc)) ∧ (W.cell? ⟨BB, 0, none⟩ = some (.int .i64 z1) ∧ W.cell? ⟨BB, 1, none⟩ = some (.int .i64 z2) ∧ W.cell? ⟨BB, 2, none⟩ = some (.int .i64 z3) ∧ W.cell? ⟨BB, 3, none⟩ = some (.int .i64 z4) ∧ W.cell? ⟨BB, 4, none⟩ = some (.int .i64 z5) ∧ W.cell? ⟨BB, 5, none⟩ = some (.int .i64 z6) ∧ W.cell? ⟨BB, 6, none⟩ = some (.int .i64 z7) ∧ W.cell? ⟨BB, 7, none⟩ = some (.int .i64 z8) ∧ W.cell? ⟨BB, 8, none⟩ = some (.int .i64 z9) ∧ W.cell? ⟨BB, 9, none⟩ = some (.slice ua q uc))) := fun W hW => by
          have b0 := ((Below.on (Below.on HB7.out HB77.out) hW).block AB (Array.getElem?_eq_some_iff.1 HAX.out).1).trans HAX.out
          have b1' := (hW.block BB (Array.getElem?_eq_some_iff.1 HBX.out).1).trans HBX.out
          exact ⟨⟨(Array.getElem?_eq_some_iff.1 b0).1, (Array.getElem?_eq_some_iff.1 b1').1⟩, HCEL.out W (Below.on HB5.out hW), ⟨cellB b0 0, cellB b0 1, cellB b0 2, cellB b0 3, cellB b0 4, cellB b0 5, cellB b0 6, cellB b0 7, cellB b0 8, cellB b0 9⟩, cellB b1' 0, cellB b1' 1, cellB b1' 2, cellB b1' 3, cellB b1' 4, cellB b1' 5, cellB b1' 6, cellB b1' 7, cellB b1' 8, cellB b1' 9⟩
        have HSAF : Hid (∀ W, Below W7.heap.size W7 W → Calls Try.prog 22 #[.agg #[.int .i64 z1, .int .i64 z2, .int .i64 z3, .int .i64 z4, .int .i64 z5, .int .i64 z6, .int .i64 z7, .int .i64 z8, .int .i64 z9, .slice xa q xc], .agg #[.int .i64 z1, .int .i64 z2, .int .i64 z3, .int .i64 z4, .int .i64 z5, .int .i64 z6, .int .i64 z7, .int .i64 z8, .int .i64 z9, .slice ua q uc]] W.drew fun e w' => e = .returned (.bool true) ∧ Below W.heap.size W w') := fun W hW => by
          have h1 := same_entry (HXO7.out.below hW.drew) (HUO7.out.below hW.drew) rfl
          dsimp only [ev] at h1
          rw [HQQ.out] at h1
          exact h1.mono fun e w' ⟨he, hb⟩ => ⟨he, ⟨hb.os, hb.tape, hb.output, hb.size, hb.block⟩⟩
        clear HXO HUO HXP HB6 HB66 HB7 HB77 HAX HBX
        refine (HKS.out HB5.out).mono ?_
        rintro e w8 ⟨ka, kc, rfl, hk8, hb8⟩
        have HK8 : Hid (RdN cK (fun _ => True) w8 ka (keysP L5)) := hk8
        have HB8 : Hid (Below W7.heap.size W7 w8) := hb8
        clear hk8 hb8 HKS
        go_wp2_with (go_at_call 21; refine (Hid.out HRK (Below.on (Hid.out HB5) (Hid.out HB8))).mono ?_; rintro e w9 ⟨ma, mc, rfl, hk9, hb9⟩; have HM9 : Hid (RdN cK (fun _ => True) w9 ma (keysP L5)) := hk9; have HK9 : Hid (RdN cK (fun _ => True) w9 ka (keysP L5)) := RdN.below (Hid.out HK8) hb9; have HB9 : Hid (Below W7.heap.size W7 w9) := Below.on (Hid.out HB8) hb9; clear hk9 hb9 HRK)
        obtain ⟨⟨lAB, lBB⟩, ⟨s1, s2⟩, ⟨p0, p1, p2, p3, p4, p5, p6, p7, p8, p9⟩, r0, r1, r2, r3, r4, r5, r6, r7, r8, r9⟩ := HS25.out w9 HB9.out
        have HSAM : Hid (Calls Try.prog 22 #[.agg #[.int .i64 z1, .int .i64 z2, .int .i64 z3, .int .i64 z4, .int .i64 z5, .int .i64 z6, .int .i64 z7, .int .i64 z8, .int .i64 z9, .slice xa q xc], .agg #[.int .i64 z1, .int .i64 z2, .int .i64 z3, .int .i64 z4, .int .i64 z5, .int .i64 z6, .int .i64 z7, .int .i64 z8, .int .i64 z9, .slice ua q uc]] w9.drew fun e w' => e = .returned (.bool true) ∧ Below w9.heap.size w9 w') := HSAF.out w9 HB9.out
        have KEEP0 : Hid ((w9.drew.cell? ⟨b2, 0, none⟩ = some (.int .i64 fl5) ∧ w9.drew.cell? ⟨b2, 1, none⟩ = some (.slice ra n rc)) ∧ (w9.drew.cell? ⟨AB, 0, none⟩ = some (.int .i64 z1) ∧ w9.drew.cell? ⟨AB, 1, none⟩ = some (.int .i64 z2) ∧ w9.drew.cell? ⟨AB, 2, none⟩ = some (.int .i64 z3) ∧ w9.drew.cell? ⟨AB, 3, none⟩ = some (.int .i64 z4) ∧ w9.drew.cell? ⟨AB, 4, none⟩ = some (.int .i64 z5) ∧ w9.drew.cell? ⟨AB, 5, none⟩ = some (.int .i64 z6) ∧ w9.drew.cell? ⟨AB, 6, none⟩ = some (.int .i64 z7) ∧ w9.drew.cell? ⟨AB, 7, none⟩ = some (.int .i64 z8) ∧ w9.drew.cell? ⟨AB, 8, none⟩ = some (.int .i64 z9) ∧ w9.drew.cell? ⟨AB, 9, none⟩ = some (.slice xa q xc)) ∧ (w9.drew.cell? ⟨BB, 0, none⟩ = some (.int .i64 z1) ∧ w9.drew.cell? ⟨BB, 1, none⟩ = some (.int .i64 z2) ∧ w9.drew.cell? ⟨BB, 2, none⟩ = some (.int .i64 z3) ∧ w9.drew.cell? ⟨BB, 3, none⟩ = some (.int .i64 z4) ∧ w9.drew.cell? ⟨BB, 4, none⟩ = some (.int .i64 z5) ∧ w9.drew.cell? ⟨BB, 5, none⟩ = some (.int .i64 z6) ∧ w9.drew.cell? ⟨BB, 6, none⟩ = some (.int .i64 z7) ∧ w9.drew.cell? ⟨BB, 7, none⟩ = some (.int .i64 z8) ∧ w9.drew.cell? ⟨BB, 8, none⟩ = some (.int .i64 z9) ∧ w9.drew.cell? ⟨BB, 9, none⟩ = some (.slice ua q uc))) := (HS25.out w9.drew HB9.out.drew).2
        have dd : (d != d) = false := by cases d <;> rfl
        have dn : ((n : Int) != (n : Int)) = false := by simp
        have df : (fl5 != fl5) = false := by simp
        have dl : n ≤ 64 := hl64
        go_region_held3 (fun w' => (w'.cell? ⟨b2, 0, none⟩ = some (.int .i64 fl5) ∧ w'.cell? ⟨b2, 1, none⟩ = some (.slice ra n rc)) ∧ (w'.cell? ⟨AB, 0, none⟩ = some (.int .i64 z1) ∧ w'.cell? ⟨AB, 1, none⟩ = some (.int .i64 z2) ∧ w'.cell? ⟨AB, 2, none⟩ = some (.int .i64 z3) ∧ w'.cell? ⟨AB, 3, none⟩ = some (.int .i64 z4) ∧ w'.cell? ⟨AB, 4, none⟩ = some (.int .i64 z5) ∧ w'.cell? ⟨AB, 5, none⟩ = some (.int .i64 z6) ∧ w'.cell? ⟨AB, 6, none⟩ = some (.int .i64 z7) ∧ w'.cell? ⟨AB, 7, none⟩ = some (.int .i64 z8) ∧ w'.cell? ⟨AB, 8, none⟩ = some (.int .i64 z9) ∧ w'.cell? ⟨AB, 9, none⟩ = some (.slice xa q xc)) ∧ (w'.cell? ⟨BB, 0, none⟩ = some (.int .i64 z1) ∧ w'.cell? ⟨BB, 1, none⟩ = some (.int .i64 z2) ∧ w'.cell? ⟨BB, 2, none⟩ = some (.int .i64 z3) ∧ w'.cell? ⟨BB, 3, none⟩ = some (.int .i64 z4) ∧ w'.cell? ⟨BB, 4, none⟩ = some (.int .i64 z5) ∧ w'.cell? ⟨BB, 5, none⟩ = some (.int .i64 z6) ∧ w'.cell? ⟨BB, 6, none⟩ = some (.int .i64 z7) ∧ w'.cell? ⟨BB, 7, none⟩ = some (.int .i64 z8) ∧ w'.cell? ⟨BB, 8, none⟩ = some (.int .i64 z9) ∧ w'.cell? ⟨BB, 9, none⟩ = some (.slice ua q uc))) (first | (go_keep; done) | exact Hid.out KEEP2 | exact Hid.out KEEP0) (first
          | (go_at_call 24; refine (Hid.out HFO (Below.on (Hid.out HB5) (Hid.out HB10))).mono ?_; rintro e w11 ⟨rfl, rfl⟩)
          | (go_at_call 23; refine (Hid.out HLE (Below.on (Hid.out HB5) (Hid.out HB10))).mono ?_; rintro e w11 ⟨rfl, rfl⟩)
          | (go_at_call 22; refine (Hid.out HSAM).mono ?_; rintro e w10 ⟨rfl, hb10⟩; have HB10 : Hid (Below W7.heap.size W7 w10) := (Below.on (Hid.out HB9) hb10); have HB910 : Hid (Below w9.heap.size w9 w10) := hb10; have KEEP2 : Hid ((w10.cell? ⟨b2, 0, none⟩ = some (.int .i64 fl5) ∧ w10.cell? ⟨b2, 1, none⟩ = some (.slice ra n rc)) ∧ (w10.cell? ⟨AB, 0, none⟩ = some (.int .i64 z1) ∧ w10.cell? ⟨AB, 1, none⟩ = some (.int .i64 z2) ∧ w10.cell? ⟨AB, 2, none⟩ = some (.int .i64 z3) ∧ w10.cell? ⟨AB, 3, none⟩ = some (.int .i64 z4) ∧ w10.cell? ⟨AB, 4, none⟩ = some (.int .i64 z5) ∧ w10.cell? ⟨AB, 5, none⟩ = some (.int .i64 z6) ∧ w10.cell? ⟨AB, 6, none⟩ = some (.int .i64 z7) ∧ w10.cell? ⟨AB, 7, none⟩ = some (.int .i64 z8) ∧ w10.cell? ⟨AB, 8, none⟩ = some (.int .i64 z9) ∧ w10.cell? ⟨AB, 9, none⟩ = some (.slice xa q xc)) ∧ (w10.cell? ⟨BB, 0, none⟩ = some (.int .i64 z1) ∧ w10.cell? ⟨BB, 1, none⟩ = some (.int .i64 z2) ∧ w10.cell? ⟨BB, 2, none⟩ = some (.int .i64 z3) ∧ w10.cell? ⟨BB, 3, none⟩ = some (.int .i64 z4) ∧ w10.cell? ⟨BB, 4, none⟩ = some (.int .i64 z5) ∧ w10.cell? ⟨BB, 5, none⟩ = some (.int .i64 z6) ∧ w10.cell? ⟨BB, 6, none⟩ = some (.int .i64 z7) ∧ w10.cell? ⟨BB, 7, none⟩ = some (.int .i64 z8) ∧ w10.cell? ⟨BB, 8, none⟩ = some (.int .i64 z9) ∧ w10.cell? ⟨BB, 9, none⟩ = some (.slice ua q uc))) := (Hid.out HS25 _ (Below.on (Hid.out HB9) hb10)).2; clear hb10))
        obtain ⟨w11, hw11⟩ : ∃ w11, w11 = w10 := ⟨_, rfl⟩
        have HK10 : Hid (∀ W, Below w9.heap.size w9 W → RdN cK (fun _ => True) W ka (keysP L5) ∧ RdN cK (fun _ => True) W ma (keysP L5)) := fun W hW => ⟨HK9.out.below hW, HM9.out.below hW⟩
        clear hw11 KEEP0 KEEP2 p0 p1 p2 p3 p4 p5 p6 p7 p8 p9 r0 r1 r2 r3 r4 r5 r6 r7 r8 r9 s1 s2 dd df lAB lBB
        go_wp2_with fail
        go_loopw [13] (fun s13 wr => ∃ j : Nat, s13 = .int .i64 j ∧ j ≤ n ∧ Hid (Below w9.heap.size w9 wr)) (fun s13 _ => n - (intOf s13).toNat)
        case atStart => exact ⟨0, rfl, Nat.zero_le _, HB910.out⟩
        case round =>
          obtain ⟨j, rfl, hj, HBJ⟩ := hrel
          by_cases hlt3 : j < n
          · have hlt3' : (j : Int) < (n : Int) := by omega
            obtain ⟨k1, k2, k3, hk⟩ : ∃ k1 k2 k3, nth cK (keysP L5) j = (k1, k2, k3) := ⟨_, _, _, rfl⟩
            obtain ⟨kb, ko, rfl, lkb, u0, u1, u2⟩ := (HK10.out wr HBJ.out).1.key (i := j) (by rw [keysP_len, HNN.out]; exact hlt3) hk
            obtain ⟨mb, mo, rfl, lmb, v0, v1, v2⟩ := (HK10.out wr HBJ.out).2.key (i := j) (by rw [keysP_len, HNN.out]; exact hlt3) hk
            clear hk
            go_wp2_with fail
            go_quiet (fail)
            go_wp2
            go_roundw
            case rel => exact ⟨j + 1, by go_num, by omega, HBJ.out.trans ⟨rfl, rfl, rfl, Nat.le_refl _, fun _ _ => rfl⟩⟩
            case measure => simp [intOf]; omega
          · obtain rfl : j = n := by omega
            go_wp2
            go_roundw
            case rel => exact ⟨i + 1, fl5, L5, by go_num, by omega, hf5, HQ0.out.on (Below.on HB5.out (Below.on HB9.out HBJ.out))⟩
            case measure => simp [intOf]; omega
      · have t0 : (sk == 0) = false := by simpa using g0
        have t1 : (sk == 1) = false := by simpa using g1
        have t2 : (sk == 2) = false := by simpa using g2
        obtain ⟨w5, hw5⟩ : ∃ w5, w5 = W2 := ⟨_, rfl⟩
        have HQ : Hid (Sb w w5 fl L b1 fl L b2 [(some ⟨EB, 0, none⟩, [⟨p, yoa, yoc⟩])] []) := by rw [hw5]; exact HPB.out
        clear HPU HRU HEC
        go_wp2_with fail
        rw [← HW2.out, ← hw5]
        clear hw5
        have HQ0 : Hid (Sb w w5 fl L b1 fl L b2 [] []) := Sb.less HQ.out (fun r hr => by cases hr) (fun r hr => by cases hr)
        obtain ⟨ra, rc, hcel⟩ := HQ0.out.cells
        have hl64 : L.length ≤ 64 := HQ0.out.cap
        obtain ⟨n, hnn⟩ : ∃ n, L.length = n := ⟨_, rfl⟩
        obtain ⟨d, hd⟩ : ∃ d, decide (0 < L.length) = d := ⟨_, rfl⟩
        rw [hnn] at hcel hl64
        have HCEL : Hid (∀ W, Below w5.heap.size w5 W → W.cell? ⟨b2, 0, none⟩ = some (.int .i64 fl) ∧ W.cell? ⟨b2, 1, none⟩ = some (.slice ra n rc)) := hcel
        have HLA : Hid (∀ {W : World}, Below w5.heap.size w5 W → Calls Try.prog 18 #[.pointer (some ⟨b1, 0, none⟩)] W fun e w' => ∃ x : E, e = .returned (.tuple #[ev x, .bool d]) ∧ x.p = lastP L ∧ Out (fun _ => True) w' x ∧ Below W.heap.size W w') := fun hW => by have h1 := HQ0.out.last hW; rw [hd] at h1; exact h1
        have HRA : Hid (∀ {W : World}, Below w5.heap.size w5 W → Calls Try.prog 19 #[.pointer (some ⟨b2, 0, none⟩)] W fun e w' => ∃ x : E, e = .returned (.tuple #[ev x, .bool d]) ∧ x.p = lastP L ∧ Out (fun _ => True) w' x ∧ Below W.heap.size W w') := fun hW => by have h1 := HQ0.out.rlast hW; rw [hd] at h1; exact h1
        have HKS : Hid (∀ {W : World}, Below w5.heap.size w5 W → Calls Try.prog 20 #[.pointer (some ⟨b1, 0, none⟩)] W fun e w' => ∃ a c, e = .returned (.slice a n c) ∧ RdN cK (fun _ => True) w' a (keysP L) ∧ Below W.heap.size W w') := fun hW => by have h1 := HQ0.out.keys hW; rw [hnn] at h1; exact h1
        have HRK : Hid (∀ {W : World}, Below w5.heap.size w5 W → Calls Try.prog 21 #[.pointer (some ⟨b2, 0, none⟩)] W fun e w' => ∃ a c, e = .returned (.slice a n c) ∧ RdN cK (fun _ => True) w' a (keysP L) ∧ Below W.heap.size W w') := fun hW => by have h1 := HQ0.out.rkeys hW; rw [hnn] at h1; exact h1
        have HLE : Hid (∀ {W : World}, Below w5.heap.size w5 W → Calls Try.prog 23 #[.pointer (some ⟨b1, 0, none⟩)] W fun e w' => e = .returned (.int .i64 n) ∧ W = w') := fun hW => by have h1 := HQ0.out.len hW; rw [hnn] at h1; exact h1
        have HFO : Hid (∀ {W : World}, Below w5.heap.size w5 W → Calls Try.prog 24 #[.pointer (some ⟨b1, 0, none⟩)] W fun e w' => e = .returned (.int .i64 fl) ∧ W = w') := fun hW => HQ0.out.floor hW
        have HNN : Hid (L.length = n) := hnn
        clear hcel hnn hd
        go_wp2_with (go_at_call 18; refine (Hid.out HLA (Below.refl _ _)).mono ?_; rintro e w6 ⟨xe, rfl, hxp, hxo, hb6⟩; obtain ⟨⟨⟨⟨z1, z2, z3⟩, z4, z5, z6⟩, z7, z8, z9, zos⟩, xa, xc⟩ := xe; obtain ⟨q, hq⟩ : ∃ q, zos.length = q := ⟨_, rfl⟩; dsimp only [ev] at hxp ⊢; rw [hq]; have HXP : Hid ((⟨((z1, z2, z3), z4, z5, z6), z7, z8, z9, zos⟩ : P) = lastP L) := hxp; have HXO : Hid (Out (fun _ => True) w6 ⟨⟨((z1, z2, z3), z4, z5, z6), z7, z8, z9, zos⟩, xa, xc⟩) := hxo; have HB6 : Hid (Below w5.heap.size w5 w6) := hb6; have HQQ : Hid (zos.length = q) := hq; clear hxp hxo hb6 hq HLA; go_wp2_with fail)
        obtain ⟨AB, hAB⟩ : ∃ AB, w6.heap.size = AB := ⟨_, rfl⟩
        obtain ⟨W6, hW6⟩ : ∃ W6, W6 = w6.alloc (.cells #[.int .i64 z1, .int .i64 z2, .int .i64 z3, .int .i64 z4, .int .i64 z5, .int .i64 z6, .int .i64 z7, .int .i64 z8, .int .i64 z9, .slice xa q xc] 34) := ⟨_, rfl⟩
        have HAX : Hid (W6.heap[AB]? = some (.cells #[.int .i64 z1, .int .i64 z2, .int .i64 z3, .int .i64 z4, .int .i64 z5, .int .i64 z6, .int .i64 z7, .int .i64 z8, .int .i64 z9, .slice xa q xc] 34 (0, 0))) := by show W6.heap[AB]? = some (.cells #[.int .i64 z1, .int .i64 z2, .int .i64 z3, .int .i64 z4, .int .i64 z5, .int .i64 z6, .int .i64 z7, .int .i64 z8, .int .i64 z9, .slice xa q xc] 34 (0, 0)); rw [hW6, ← hAB]; exact newB _ _
        have HB66 : Hid (Below w6.heap.size w6 W6) := by show Below w6.heap.size w6 W6; rw [hW6]; exact al _ _
        rw [← hW6, hAB]
        clear hW6 hAB
        refine (HRA.out (Below.on HB6.out HB66.out)).mono ?_
        rintro e w7 ⟨xe, rfl, hxp, hxo, hb7⟩
        obtain ⟨up, ua, uc⟩ := xe
        dsimp only at hxp
        rw [← HXP.out] at hxp
        subst hxp
        dsimp only [ev]
        rw [HQQ.out]
        have HUO : Hid (Out (fun _ => True) w7 ⟨⟨((z1, z2, z3), z4, z5, z6), z7, z8, z9, zos⟩, ua, uc⟩) := hxo
        have HB7 : Hid (Below W6.heap.size W6 w7) := hb7
        clear hxo hb7 HRA
        go_wp2_with fail
        obtain ⟨BB, hBB⟩ : ∃ BB, w7.heap.size = BB := ⟨_, rfl⟩
        obtain ⟨W7, hW7⟩ : ∃ W7, W7 = w7.alloc (.cells #[.int .i64 z1, .int .i64 z2, .int .i64 z3, .int .i64 z4, .int .i64 z5, .int .i64 z6, .int .i64 z7, .int .i64 z8, .int .i64 z9, .slice ua q uc] 40) := ⟨_, rfl⟩
        have HBX : Hid (W7.heap[BB]? = some (.cells #[.int .i64 z1, .int .i64 z2, .int .i64 z3, .int .i64 z4, .int .i64 z5, .int .i64 z6, .int .i64 z7, .int .i64 z8, .int .i64 z9, .slice ua q uc] 40 (0, 0))) := by show W7.heap[BB]? = some (.cells #[.int .i64 z1, .int .i64 z2, .int .i64 z3, .int .i64 z4, .int .i64 z5, .int .i64 z6, .int .i64 z7, .int .i64 z8, .int .i64 z9, .slice ua q uc] 40 (0, 0)); rw [hW7, ← hBB]; exact newB _ _
        have HB77 : Hid (Below w7.heap.size w7 W7) := by show Below w7.heap.size w7 W7; rw [hW7]; exact al _ _
        rw [← hW7, hBB]
        clear hW7 hBB
        have HB5 : Hid (Below w5.heap.size w5 W7) := Below.on (Below.on (Below.on HB6.out HB66.out) HB7.out) HB77.out
        have HXO7 : Hid (Out (fun _ => True) W7 ⟨⟨((z1, z2, z3), z4, z5, z6), z7, z8, z9, zos⟩, xa, xc⟩) := HXO.out.below (Below.on (Below.on HB66.out HB7.out) HB77.out)
        have HUO7 : Hid (Out (fun _ => True) W7 ⟨⟨((z1, z2, z3), z4, z5, z6), z7, z8, z9, zos⟩, ua, uc⟩) := HUO.out.below HB77.out
        have HS25 : Hid (∀ W, Below W7.heap.size W7 W → (AB < W.heap.size ∧ BB < W.heap.size) ∧ (W.cell? ⟨b2, 0, none⟩ = some (.int .i64 fl) ∧ W.cell? ⟨b2, 1, none⟩ = some (.slice ra n rc)) ∧ (W.cell? ⟨AB, 0, none⟩ = some (.int .i64 z1) ∧ W.cell? ⟨AB, 1, none⟩ = some (.int .i64 z2) ∧ W.cell? ⟨AB, 2, none⟩ = some (.int .i64 z3) ∧ W.cell? ⟨AB, 3, none⟩ = some (.int .i64 z4) ∧ W.cell? ⟨AB, 4, none⟩ = some (.int .i64 z5) ∧ W.cell? ⟨AB, 5, none⟩ = some (.int .i64 z6) ∧ W.cell? ⟨AB, 6, none⟩ = some (.int .i64 z7) ∧ W.cell? ⟨AB, 7, none⟩ = some (.int .i64 z8) ∧ W.cell? ⟨AB, 8, none⟩ = some (.int .i64 z9) ∧ W.cell? ⟨AB, 9, none⟩ = some (.slice xa q xc)) ∧ (W.cell? ⟨BB, 0, none⟩ = some (.int .i64 z1) ∧ W.cell? ⟨BB, 1, none⟩ = some (.int .i64 z2) ∧ W.cell? ⟨BB, 2, none⟩ = some (.int .i64 z3) ∧ W.cell? ⟨BB, 3, none⟩ = some (.int .i64 z4) ∧ W.cell? ⟨BB, 4, none⟩ = some (.int .i64 z5) ∧ W.cell? ⟨BB, 5, none⟩ = some (.int .i64 z6) ∧ W.cell? ⟨BB, 6, none⟩ = some (.int .i64 z7) ∧ W.cell? ⟨BB, 7, none⟩ = some (.int .i64 z8) ∧ W.cell? ⟨BB, 8, none⟩ = some (.int .i64 z9) ∧ W.cell? ⟨BB, 9, none⟩ = some (.slice ua q uc))) := fun W hW => by
          have b0 := ((Below.on (Below.on HB7.out HB77.out) hW).block AB (Array.getElem?_eq_some_iff.1 HAX.out).1).trans HAX.out
          have b1' := (hW.block BB (Array.getElem?_eq_some_iff.1 HBX.out).1).trans HBX.out
          exact ⟨⟨(Array.getElem?_eq_some_iff.1 b0).1, (Array.getElem?_eq_some_iff.1 b1').1⟩, HCEL.out W (Below.on HB5.out hW), ⟨cellB b0 0, cellB b0 1, cellB b0 2, cellB b0 3, cellB b0 4, cellB b0 5, cellB b0 6, cellB b0 7, cellB b0 8, cellB b0 9⟩, cellB b1' 0, cellB b1' 1, cellB b1' 2, cellB b1' 3, cellB b1' 4, cellB b1' 5, cellB b1' 6, cellB b1' 7, cellB b1' 8, cellB b1' 9⟩
        have HSAF : Hid (∀ W, Below W7.heap.size W7 W → Calls Try.prog 22 #[.agg #[.int .i64 z1, .int .i64 z2, .int .i64 z3, .int .i64 z4, .int .i64 z5, .int .i64 z6, .int .i64 z7, .int .i64 z8, .int .i64 z9, .slice xa q xc], .agg #[.int .i64 z1, .int .i64 z2, .int .i64 z3, .int .i64 z4, .int .i64 z5, .int .i64 z6, .int .i64 z7, .int .i64 z8, .int .i64 z9, .slice ua q uc]] W.drew fun e w' => e = .returned (.bool true) ∧ Below W.heap.size W w') := fun W hW => by
          have h1 := same_entry (HXO7.out.below hW.drew) (HUO7.out.below hW.drew) rfl
          dsimp only [ev] at h1
          rw [HQQ.out] at h1
          exact h1.mono fun e w' ⟨he, hb⟩ => ⟨he, ⟨hb.os, hb.tape, hb.output, hb.size, hb.block⟩⟩
        clear HXO HUO HXP HB6 HB66 HB7 HB77 HAX HBX
        refine (HKS.out HB5.out).mono ?_
        rintro e w8 ⟨ka, kc, rfl, hk8, hb8⟩
        have HK8 : Hid (RdN cK (fun _ => True) w8 ka (keysP L)) := hk8
        have HB8 : Hid (Below W7.heap.size W7 w8) := hb8
        clear hk8 hb8 HKS
        go_wp2_with (go_at_call 21; refine (Hid.out HRK (Below.on (Hid.out HB5) (Hid.out HB8))).mono ?_; rintro e w9 ⟨ma, mc, rfl, hk9, hb9⟩; have HM9 : Hid (RdN cK (fun _ => True) w9 ma (keysP L)) := hk9; have HK9 : Hid (RdN cK (fun _ => True) w9 ka (keysP L)) := RdN.below (Hid.out HK8) hb9; have HB9 : Hid (Below W7.heap.size W7 w9) := Below.on (Hid.out HB8) hb9; clear hk9 hb9 HRK)
        obtain ⟨⟨lAB, lBB⟩, ⟨s1, s2⟩, ⟨p0, p1, p2, p3, p4, p5, p6, p7, p8, p9⟩, r0, r1, r2, r3, r4, r5, r6, r7, r8, r9⟩ := HS25.out w9 HB9.out
        have HSAM : Hid (Calls Try.prog 22 #[.agg #[.int .i64 z1, .int .i64 z2, .int .i64 z3, .int .i64 z4, .int .i64 z5, .int .i64 z6, .int .i64 z7, .int .i64 z8, .int .i64 z9, .slice xa q xc], .agg #[.int .i64 z1, .int .i64 z2, .int .i64 z3, .int .i64 z4, .int .i64 z5, .int .i64 z6, .int .i64 z7, .int .i64 z8, .int .i64 z9, .slice ua q uc]] w9.drew fun e w' => e = .returned (.bool true) ∧ Below w9.heap.size w9 w') := HSAF.out w9 HB9.out
        have KEEP0 : Hid ((w9.drew.cell? ⟨b2, 0, none⟩ = some (.int .i64 fl) ∧ w9.drew.cell? ⟨b2, 1, none⟩ = some (.slice ra n rc)) ∧ (w9.drew.cell? ⟨AB, 0, none⟩ = some (.int .i64 z1) ∧ w9.drew.cell? ⟨AB, 1, none⟩ = some (.int .i64 z2) ∧ w9.drew.cell? ⟨AB, 2, none⟩ = some (.int .i64 z3) ∧ w9.drew.cell? ⟨AB, 3, none⟩ = some (.int .i64 z4) ∧ w9.drew.cell? ⟨AB, 4, none⟩ = some (.int .i64 z5) ∧ w9.drew.cell? ⟨AB, 5, none⟩ = some (.int .i64 z6) ∧ w9.drew.cell? ⟨AB, 6, none⟩ = some (.int .i64 z7) ∧ w9.drew.cell? ⟨AB, 7, none⟩ = some (.int .i64 z8) ∧ w9.drew.cell? ⟨AB, 8, none⟩ = some (.int .i64 z9) ∧ w9.drew.cell? ⟨AB, 9, none⟩ = some (.slice xa q xc)) ∧ (w9.drew.cell? ⟨BB, 0, none⟩ = some (.int .i64 z1) ∧ w9.drew.cell? ⟨BB, 1, none⟩ = some (.int .i64 z2) ∧ w9.drew.cell? ⟨BB, 2, none⟩ = some (.int .i64 z3) ∧ w9.drew.cell? ⟨BB, 3, none⟩ = some (.int .i64 z4) ∧ w9.drew.cell? ⟨BB, 4, none⟩ = some (.int .i64 z5) ∧ w9.drew.cell? ⟨BB, 5, none⟩ = some (.int .i64 z6) ∧ w9.drew.cell? ⟨BB, 6, none⟩ = some (.int .i64 z7) ∧ w9.drew.cell? ⟨BB, 7, none⟩ = some (.int .i64 z8) ∧ w9.drew.cell? ⟨BB, 8, none⟩ = some (.int .i64 z9) ∧ w9.drew.cell? ⟨BB, 9, none⟩ = some (.slice ua q uc))) := (HS25.out w9.drew HB9.out.drew).2
        have dd : (d != d) = false := by cases d <;> rfl
        have dn : ((n : Int) != (n : Int)) = false := by simp
        have df : (fl != fl) = false := by simp
        have dl : n ≤ 64 := hl64
        go_region_held3 (fun w' => (w'.cell? ⟨b2, 0, none⟩ = some (.int .i64 fl) ∧ w'.cell? ⟨b2, 1, none⟩ = some (.slice ra n rc)) ∧ (w'.cell? ⟨AB, 0, none⟩ = some (.int .i64 z1) ∧ w'.cell? ⟨AB, 1, none⟩ = some (.int .i64 z2) ∧ w'.cell? ⟨AB, 2, none⟩ = some (.int .i64 z3) ∧ w'.cell? ⟨AB, 3, none⟩ = some (.int .i64 z4) ∧ w'.cell? ⟨AB, 4, none⟩ = some (.int .i64 z5) ∧ w'.cell? ⟨AB, 5, none⟩ = some (.int .i64 z6) ∧ w'.cell? ⟨AB, 6, none⟩ = some (.int .i64 z7) ∧ w'.cell? ⟨AB, 7, none⟩ = some (.int .i64 z8) ∧ w'.cell? ⟨AB, 8, none⟩ = some (.int .i64 z9) ∧ w'.cell? ⟨AB, 9, none⟩ = some (.slice xa q xc)) ∧ (w'.cell? ⟨BB, 0, none⟩ = some (.int .i64 z1) ∧ w'.cell? ⟨BB, 1, none⟩ = some (.int .i64 z2) ∧ w'.cell? ⟨BB, 2, none⟩ = some (.int .i64 z3) ∧ w'.cell? ⟨BB, 3, none⟩ = some (.int .i64 z4) ∧ w'.cell? ⟨BB, 4, none⟩ = some (.int .i64 z5) ∧ w'.cell? ⟨BB, 5, none⟩ = some (.int .i64 z6) ∧ w'.cell? ⟨BB, 6, none⟩ = some (.int .i64 z7) ∧ w'.cell? ⟨BB, 7, none⟩ = some (.int .i64 z8) ∧ w'.cell? ⟨BB, 8, none⟩ = some (.int .i64 z9) ∧ w'.cell? ⟨BB, 9, none⟩ = some (.slice ua q uc))) (first | (go_keep; done) | exact Hid.out KEEP2 | exact Hid.out KEEP0) (first
          | (go_at_call 24; refine (Hid.out HFO (Below.on (Hid.out HB5) (Hid.out HB10))).mono ?_; rintro e w11 ⟨rfl, rfl⟩)
          | (go_at_call 23; refine (Hid.out HLE (Below.on (Hid.out HB5) (Hid.out HB10))).mono ?_; rintro e w11 ⟨rfl, rfl⟩)
          | (go_at_call 22; refine (Hid.out HSAM).mono ?_; rintro e w10 ⟨rfl, hb10⟩; have HB10 : Hid (Below W7.heap.size W7 w10) := (Below.on (Hid.out HB9) hb10); have HB910 : Hid (Below w9.heap.size w9 w10) := hb10; have KEEP2 : Hid ((w10.cell? ⟨b2, 0, none⟩ = some (.int .i64 fl) ∧ w10.cell? ⟨b2, 1, none⟩ = some (.slice ra n rc)) ∧ (w10.cell? ⟨AB, 0, none⟩ = some (.int .i64 z1) ∧ w10.cell? ⟨AB, 1, none⟩ = some (.int .i64 z2) ∧ w10.cell? ⟨AB, 2, none⟩ = some (.int .i64 z3) ∧ w10.cell? ⟨AB, 3, none⟩ = some (.int .i64 z4) ∧ w10.cell? ⟨AB, 4, none⟩ = some (.int .i64 z5) ∧ w10.cell? ⟨AB, 5, none⟩ = some (.int .i64 z6) ∧ w10.cell? ⟨AB, 6, none⟩ = some (.int .i64 z7) ∧ w10.cell? ⟨AB, 7, none⟩ = some (.int .i64 z8) ∧ w10.cell? ⟨AB, 8, none⟩ = some (.int .i64 z9) ∧ w10.cell? ⟨AB, 9, none⟩ = some (.slice xa q xc)) ∧ (w10.cell? ⟨BB, 0, none⟩ = some (.int .i64 z1) ∧ w10.cell? ⟨BB, 1, none⟩ = some (.int .i64 z2) ∧ w10.cell? ⟨BB, 2, none⟩ = some (.int .i64 z3) ∧ w10.cell? ⟨BB, 3, none⟩ = some (.int .i64 z4) ∧ w10.cell? ⟨BB, 4, none⟩ = some (.int .i64 z5) ∧ w10.cell? ⟨BB, 5, none⟩ = some (.int .i64 z6) ∧ w10.cell? ⟨BB, 6, none⟩ = some (.int .i64 z7) ∧ w10.cell? ⟨BB, 7, none⟩ = some (.int .i64 z8) ∧ w10.cell? ⟨BB, 8, none⟩ = some (.int .i64 z9) ∧ w10.cell? ⟨BB, 9, none⟩ = some (.slice ua q uc))) := (Hid.out HS25 _ (Below.on (Hid.out HB9) hb10)).2; clear hb10))
        obtain ⟨w11, hw11⟩ : ∃ w11, w11 = w10 := ⟨_, rfl⟩
        have HK10 : Hid (∀ W, Below w9.heap.size w9 W → RdN cK (fun _ => True) W ka (keysP L) ∧ RdN cK (fun _ => True) W ma (keysP L)) := fun W hW => ⟨HK9.out.below hW, HM9.out.below hW⟩
        clear hw11 KEEP0 KEEP2 p0 p1 p2 p3 p4 p5 p6 p7 p8 p9 r0 r1 r2 r3 r4 r5 r6 r7 r8 r9 s1 s2 dd df lAB lBB
        go_wp2_with fail
        go_loopw [13] (fun s13 wr => ∃ j : Nat, s13 = .int .i64 j ∧ j ≤ n ∧ Hid (Below w9.heap.size w9 wr)) (fun s13 _ => n - (intOf s13).toNat)
        case atStart => exact ⟨0, rfl, Nat.zero_le _, HB910.out⟩
        case round =>
          obtain ⟨j, rfl, hj, HBJ⟩ := hrel
          by_cases hlt3 : j < n
          · have hlt3' : (j : Int) < (n : Int) := by omega
            obtain ⟨k1, k2, k3, hk⟩ : ∃ k1 k2 k3, nth cK (keysP L) j = (k1, k2, k3) := ⟨_, _, _, rfl⟩
            obtain ⟨kb, ko, rfl, lkb, u0, u1, u2⟩ := (HK10.out wr HBJ.out).1.key (i := j) (by rw [keysP_len, HNN.out]; exact hlt3) hk
            obtain ⟨mb, mo, rfl, lmb, v0, v1, v2⟩ := (HK10.out wr HBJ.out).2.key (i := j) (by rw [keysP_len, HNN.out]; exact hlt3) hk
            clear hk
            go_wp2_with fail
            go_quiet (fail)
            go_wp2
            go_roundw
            case rel => exact ⟨j + 1, by go_num, by omega, HBJ.out.trans ⟨rfl, rfl, rfl, Nat.le_refl _, fun _ _ => rfl⟩⟩
            case measure => simp [intOf]; omega
          · obtain rfl : j = n := by omega
            go_wp2
            go_roundw
            case rel => exact ⟨i + 1, fl, L, by go_num, by omega, hf0, HQ0.out.on (Below.on HB5.out (Below.on HB9.out HBJ.out))⟩
            case measure => simp [intOf]; omega
    · obtain rfl : i = z.length := by omega
      have PE : Calls Try.prog 11 #[.pointer (some ⟨b1, 0, none⟩), .agg #[.int .i64 (-9), .int .i64 0, .int .i64 0, .int .i64 0, .int .i64 0, .int .i64 0, .int .i64 0, .int .i64 0, .int .i64 0, .slice none 0 0]] wr fun e w' => e = .returned (.int .i64 110) ∧ Below w.heap.size w w' := by
        have h1 := HP.out.push (N := fun _ => True) (x := ⟨mkP (-9) 0 0 0 0, none, 0⟩) ⟨RdN.nil _ _ _ _, by simp [mkP]⟩
        have h2 := push_early (fl := fl) (L := L) (e := mkP (-9) 0 0 0 0) (by show (-9 : Int) < fl; omega)
        dsimp only at h1
        rw [h2.1] at h1
        exact h1.mono fun e w' ⟨he, ht⟩ => ⟨he, ht.bel⟩
      go_wp2_with (go_at_call 11; refine PE.mono ?_; rintro e w13 ⟨rfl, h13⟩)
      go_ret
      exact ⟨rfl, h13⟩
end Go.Proofs.Ytgifanioeeacdaa
