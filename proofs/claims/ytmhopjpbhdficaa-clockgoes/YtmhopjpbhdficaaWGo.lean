/- Proved: the walk of ClockGoes. -/
import Derived.Test.YtmhopjpbhdficaaGc
namespace Go.Proofs.Ytmhopjpbhdficaa
open Go.RowKit Go.Shelf
set_option linter.unusedVariables false

set_option maxRecDepth 100000 in
set_option maxHeartbeats 4000000 in
theorem goes_walk (w : World) (sa : Option Addr) (sc : Nat) (z : List Int) (p : Int) (hz : InN .u8 255 w sa z) (hn : z.length ≤ maxLen) (hp : 0 ≤ p ∧ p ≤ 255) :
    Calls Try.prog 5 #[.slice sa z.length sc, .int .u8 p] w fun e w' => e = .returned (.bool true) ∧ Below w.heap.size w w' := by
  obtain ⟨n, hnn⟩ : ∃ n : Nat, min z.length 8 = n := ⟨_, rfl⟩
  have hmin : min (z.length : Int) 8 = (n : Int) := by omega
  have hn8 : n ≤ 8 := by omega
  have hnz : n ≤ z.length := by omega
  have hn8' : (n : Int) ≤ 8 := by omega
  have hlen : (z.length : Int) ≤ 9223372036854775807 := by unfold maxLen at hn; omega
  by_cases hsm : n < 2
  · have hsm' : (n : Int) < 2 := by omega
    have NW := P1.new w 1 0 (by omega) (by omega) (by omega)
    have b0 : bnd 1 0 noC = 1125899906842624 := by decide
    clear hz hn hnn hsm
    go_enter Try.func5, Try.ntmps5
    go_wp2_with (first | (go_at_call 8; refine NW.mono ?_; rintro e w1 ⟨rfl, h1⟩; have H1 : Hid _ := h1; clear h1 NW) | (go_at_call 16; refine (P1.bound (Hid.out H1)).mono ?_; rw [b0]; rintro e w2 ⟨rfl, h2⟩; have H2 : Hid _ := h2; clear h2))
    go_ret
    exact ⟨rfl, H2.out.bel⟩
  have hsm' : ¬ (n : Int) < 2 := by omega
  have HZs : Hid (Zs n z) := ⟨by omega, hn8, fun i hi => hz.1 i (by omega)⟩
  have HZ : Hid (InN .u8 255 w sa z) := hz
  obtain ⟨kp, rfl⟩ := Int.eq_ofNat_of_zero_le hp.1
  have hp2 : (kp : Int) ≤ 255 := hp.2
  obtain ⟨R, hR⟩ : ∃ R : Nat, 1 + kp % 10 = R := ⟨_, rfl⟩
  have hR10 : R ≤ 10 := by omega
  have hRI : 1 + ((kp : Int) % 10) = (R : Int) := by omega
  have hn2 : 2 ≤ n := by omega
  have HG0 : Hid _ := Gs.bare w n
  clear hz hn hnn hp hR hsm
  go_enter Try.func5, Try.ntmps5
  go_wp2
  go_loopw [8, 9, 10] (fun s8 s9 s10 wr => ∃ (i g cap : Nat) (pb mp : Nat → Nat), s10 = .int .i64 i ∧ i ≤ n ∧ s9 = .int .i64 (lsK z i) ∧ s8 = .slice (some ⟨g, 0, none⟩) i cap ∧ Hid (Gs w wr n i (fun _ => noC) (fun _ => 0) pb mp g cap)) (fun _ _ s10 _ => n - (intOf s10).toNat)
  case atStart => exact ⟨0, _, _, _, _, rfl, Nat.zero_le _, rfl, rfl, HG0.out⟩
  case round =>
    obtain ⟨i, g, cap, pb, mp, rfl, hi, rfl, rfl, HG⟩ := hrel
    by_cases hlt : i < n
    · have hlt' : (i : Int) < (n : Int) := by omega
      have hltz : (i : Int) < (z.length : Int) := by omega
      obtain ⟨x0, x1, xb, off, rfl, hxb, hcs⟩ := InN.cell HZ.out (show i < z.length by omega)
      obtain ⟨x, hx⟩ : ∃ x, nthI z i = x := ⟨_, rfl⟩
      rw [hx] at x0 x1
      simp only [hx] at hcs
      have HCS : Hid _ := hcs
      obtain ⟨m, hm⟩ : ∃ m, lsK z i = m := ⟨_, rfl⟩
      have hs : lsK z (i + 1) = min m (1 + x) := by show min (lsK z i) (1 + nthI z i) = _; rw [hm, hx]
      have NW := new_ok wr n i (by omega) hn8 hlt
      obtain ⟨b, hb⟩ : ∃ b, wr.heap.size + 1 = b := ⟨_, rfl⟩
      have HA : Hid (∀ W2, PC n i noC 0 b wr.heap.size W2 → Below wr.heap.size wr W2 → ∃ pb' mp' g' cap' w', (Builtin.append_ #[40, 40] 40 #[.slice (some ⟨g, 0, none⟩) i cap, .slice (some ⟨W2.heap.size, 0, none⟩) 1 1]).run Try.prog (W2.alloc (.cells #[.pointer (some ⟨b, 0, none⟩)] 23)) = .ok (.slice (some ⟨g', 0, none⟩) (i + 1) cap') w' ∧ Gs w w' n (i + 1) (fun _ => noC) (fun _ => 0) pb' mp' g' cap') := fun W2 h1 h2 => by
        rw [← hb] at h1 ⊢
        exact HG.out.new (by omega) h1 h2 _
      rw [hb] at NW
      rw [hm]
      clear hcs hx hm hb
      go_wp2_with (first | (go_at_call 8; refine NW.mono ?_; rintro e w1 ⟨rfl, h1, h2⟩; obtain ⟨pb', mp', g', cap', w2, hrun, hgs⟩ := Hid.out HA _ h1 h2; have HRUN : Hid _ := hrun; have H2 : Hid _ := hgs; have cx := Hid.out HCS _ hgs.bel; clear h1 h2 NW hrun hgs) | (at_builtin; refine wpList_append_run _ rfl _ _ 40 rfl rfl rfl HRUN.out ?_))
      go_roundw
      case rel => exact ⟨i + 1, g', cap', pb', mp', by go_num, by omega, by rw [hs], rfl, H2.out⟩
      case measure => simp [intOf]; omega
    · obtain rfl : i = n := by omega
      obtain ⟨L, hL⟩ : ∃ L, lsK z i = L := ⟨_, rfl⟩
      have HGs : Hid (Gs w wr i i (fun _ => sdC i z 0) (fun k => sdC i z 0 k) pb mp g cap) := HG.out
      rw [hL]
      have HL : Hid _ := hL
      clear hL HG HG0
      go_wp2
      try simp only [hRI]
      go_loopw [13] (fun s13 wr => ∃ (r q : Nat), s13 = .int .i64 r ∧ Hid (r = q + 1) ∧ r ≤ R + 1 ∧ Hid (Gs w wr i i (fun _ => sdC i z q) (fun k => sdC i z q k) pb mp g cap)) (fun s13 _ => R + 1 - (intOf s13).toNat)
      case atStart => exact ⟨1, 0, rfl, rfl, by omega, HGs.out⟩
      case round =>
        obtain ⟨r, q, rfl, Hr, hrR, HG⟩ := hrel
        by_cases hle : r ≤ R
        · have hle' : (r : Int) ≤ (R : Int) := by omega
          have hq : q < 20 := by have := Hr.out; omega
          have HQ0 : Hid (Gq w (wr.alloc (.cells #[] 3)) i i (fun _ => sdC i z q) (tq i z q 0) pb mp g cap wr.heap.size 0 (sdC i z (q + 1)) 0) := by
            rw [tq_zero]; exact HG.out.begin _
          go_wp2
          go_loopw [14, 15] (fun s14 s15 wr => ∃ (k g2 cap2 : Nat), s15 = .int .i64 k ∧ k ≤ i ∧ s14 = .slice (some ⟨g2, 0, none⟩) k cap2 ∧ Hid (Gq w wr i i (fun _ => sdC i z q) (tq i z q k) pb mp g cap g2 cap2 (sdC i z (q + 1)) k)) (fun _ s15 _ => i - (intOf s15).toNat)
          case atStart => exact ⟨0, _, _, rfl, Nat.zero_le _, rfl, HQ0.out⟩
          case round =>
            obtain ⟨k, g2, cap2, rfl, hk, rfl, HQ⟩ := hrel
            by_cases hlt2 : k < i
            · have hlt2' : (k : Int) < (i : Int) := by omega
              have hltz : (k : Int) < (z.length : Int) := by omega
              obtain ⟨x0, x1, xb, off, rfl, hxb, hcs⟩ := InN.cell HZ.out (show k < z.length by omega)
              have TL : ∀ W, Gq w W i i (fun _ => sdC i z q) (tq i z q k) pb mp g cap g2 cap2 (sdC i z (q + 1)) k → _ := fun W h => Gq.tell HZs.out hq hlt2 h
              have cx := hcs _ HQ.out.gs.bel
              have cp := HQ.out.gs.ptr hlt2
              have HKP : Hid (∀ W, Gq w W i i (fun _ => sdC i z q) (tq i z q (k + 1)) pb mp g cap g2 cap2 (sdC i z (q + 1)) k → W.cell? ⟨g, k, none⟩ = some (.pointer (some ⟨pb k, 0, none⟩)) ∧ W.cell? ⟨xb, off + k, none⟩ = some (.int .u8 (nthI z k))) := fun W h => ⟨h.gs.ptr hlt2, hcs _ h.gs.bel⟩
              have HAD : Hid (∀ W, Gq w W i i (fun _ => sdC i z q) (tq i z q (k + 1)) pb mp g cap g2 cap2 (sdC i z (q + 1)) k → _) := fun W h => Gq.add h (by omega) 41
              obtain ⟨x, hx⟩ : ∃ x, nthI z k = x := ⟨_, rfl⟩
              rw [hx] at x0 x1 cx
              simp only [hx] at TL HKP
              obtain ⟨s, hs⟩ : ∃ s, 1 + x = s := ⟨_, rfl⟩
              simp only [hs] at TL
              obtain ⟨y, hy⟩ : ∃ y, sdC i z (q + 1) k = y := ⟨_, rfl⟩
              simp only [hy] at TL HAD
              obtain ⟨pk, hpk⟩ : ∃ pk, pb k = pk := ⟨_, rfl⟩
              simp only [hpk] at TL HKP
              rw [hpk] at cp
              have HTL : Hid _ := TL
              have wx : IntKind.i64.wrap x = x := by rw [IntKind.wrap_i64]; omega
              have ws : IntKind.i64.wrap s = s := by rw [IntKind.wrap_i64]; omega
              clear hcs hx hy hpk TL
              go_wp2
              go_region_held3 (fun w' => w'.cell? ⟨g, k, none⟩ = some (.pointer (some ⟨pk, 0, none⟩)) ∧ w'.cell? ⟨xb, off + k, none⟩ = some (.int .u8 x)) (first | (go_keep; done) | exact Hid.out KEEP) (first
                | (go_at_call 12; refine (Hid.out HTL _ ((Hid.out HQ).on ((Below.refl _ _).drew))).mono ?_; rintro e w3 ⟨rfl, h3⟩; have H3 : Hid _ := h3; have KEEP : Hid _ := Hid.out HKP _ h3; clear h3 HTL))
              obtain ⟨g3, cap3, w4, hrun, hgq⟩ := HAD.out _ H3.out
              have HRUN : Hid _ := hrun
              have H4 : Hid _ := hgq
              clear hrun hgq HAD KEEP cx cp
              go_wp2_with (at_builtin; refine wpList_append_run _ rfl _ _ 41 rfl rfl rfl HRUN.out ?_)
              go_roundw
              case rel => exact ⟨k + 1, g3, cap3, by go_num, by omega, rfl, H4.out⟩
              case measure => simp [intOf]; omega
            · obtain rfl : k = i := by omega
              have HQ1 : Hid (Gq w wr k k (cq k z q 0) (tq k z q k) pb mp g cap g2 cap2 (sdC k z (q + 1)) k) := by rw [cq_zero]; exact HQ.out
              obtain ⟨P, hP⟩ : ∃ P, (r : Int) * L = P := ⟨_, rfl⟩
              have hPb : 0 ≤ P ∧ P ≤ 5120 := by
                have := sd_prod HZs.out (r := q + 1) (by omega)
                rw [HL.out, ← Hr.out, hP] at this
                exact this
              have HBP : Hid (∀ j, P ≤ bnd k j (sdC k z (q + 1))) := fun j => by
                have := sd_bnd HZs.out (r := q + 1) (by omega) j
                rw [HL.out] at this
                have e : ((q + 1 : Nat) : Int) * L = P := by rw [← Hr.out]; exact hP
                rw [e] at this
                exact this
              obtain ⟨hP0, hP1⟩ := hPb
              go_wp2
              go_loopw [18] (fun s18 wr => ∃ (a : Nat), s18 = .int .i64 a ∧ a ≤ k ∧ Hid (Gq w wr k k (cq k z q a) (tq k z q k) pb mp g cap g2 cap2 (sdC k z (q + 1)) k)) (fun s18 _ => k - (intOf s18).toNat)
              case atStart => exact ⟨0, rfl, Nat.zero_le _, HQ1.out⟩
              case round =>
                obtain ⟨a, rfl, ha, HA⟩ := hrel
                by_cases hak : a < k
                · have hak' : (a : Int) < (k : Int) := by omega
                  have HA0 : Hid (Gq w wr k k (cj k z q a 0) (tq k z q k) pb mp g cap g2 cap2 (sdC k z (q + 1)) k) := by rw [← cq_open]; exact HA.out
                  go_wp2
                  go_loopw [19] (fun s19 wr => ∃ (j : Nat), s19 = .int .i64 j ∧ j ≤ k ∧ Hid (Gq w wr k k (cj k z q a j) (tq k z q k) pb mp g cap g2 cap2 (sdC k z (q + 1)) k)) (fun s19 _ => k - (intOf s19).toNat)
                  case atStart => exact ⟨0, rfl, Nat.zero_le _, HA0.out⟩
                  case round =>
                    obtain ⟨j, rfl, hj, HJ⟩ := hrel
                    by_cases hjk : j < k
                    · have hjk' : (j : Int) < (k : Int) := by omega
                      by_cases haj : a = j
                      · have d : ((a : Int) != (j : Int)) = false := by simp [haj]
                        have HJ2 : Hid (Gq w wr k k (cj k z q a (j + 1)) (tq k z q k) pb mp g cap g2 cap2 (sdC k z (q + 1)) k) := by
                          have := HJ.out
                          rw [← haj] at this ⊢
                          exact this.skip
                        have HD : Hid (∀ nq, Gq w (wr.drewN nq) k k (cj k z q a (j + 1)) (tq k z q k) pb mp g cap g2 cap2 (sdC k z (q + 1)) k) := fun nq => HJ2.out.on ⟨rfl, rfl, rfl, Nat.le_refl _, fun _ _ => rfl⟩
                        clear haj
                        go_wp2_with fail
                        go_quiet (fail)
                        go_wp2
                        go_roundw
                        case rel => exact ⟨j + 1, by go_num, by omega, HD.out _⟩
                        case measure => simp [intOf]; omega
                      · have d : ((a : Int) != (j : Int)) = true := by simp; omega
                        have HR : ∀ W, Gq w W k k (cj k z q a j) (tq k z q k) pb mp g cap g2 cap2 (sdC k z (q + 1)) k → _ := fun W h => Gq.hear HZs.out hq hak hjk haj h
                        have cp := HJ.out.gs.ptr hak
                        have cn := HJ.out.num hjk
                        have HKP : Hid (∀ W, Gq w W k k (cj k z q a (j + 1)) (tq k z q k) pb mp g cap g2 cap2 (sdC k z (q + 1)) k → W.cell? ⟨g, a, none⟩ = some (.pointer (some ⟨pb a, 0, none⟩)) ∧ W.cell? ⟨g2, j, none⟩ = some (.int .i64 (sdC k z (q + 1) j))) := fun W h => ⟨h.gs.ptr hak, h.num hjk⟩
                        obtain ⟨y, hy⟩ : ∃ y, sdC k z (q + 1) j = y := ⟨_, rfl⟩
                        obtain ⟨pk, hpk⟩ : ∃ pk, pb a = pk := ⟨_, rfl⟩
                        simp only [hy, hpk] at HR HKP
                        rw [hy] at cn
                        rw [hpk] at cp
                        have HHR : Hid _ := HR
                        clear HR hy hpk haj
                        go_wp2
                        go_region_held3 (fun w' => w'.cell? ⟨g, a, none⟩ = some (.pointer (some ⟨pk, 0, none⟩)) ∧ w'.cell? ⟨g2, j, none⟩ = some (.int .i64 y)) (first | (go_keep; done) | exact Hid.out KEEP) (first
                          | (go_at_call 10; refine (Hid.out HHR _ ((Hid.out HJ).on ((Below.refl _ _).drew))).mono ?_; rintro e w3 ⟨rfl, h3⟩; have H3 : Hid _ := h3; have KEEP : Hid _ := Hid.out HKP _ h3; clear h3 HHR))
                        clear KEEP cp cn
                        go_wp2
                        go_roundw
                        case rel => exact ⟨j + 1, by go_num, by omega, H3.out⟩
                        case measure => simp [intOf]; omega
                    · obtain rfl : j = k := by omega
                      have HF : Hid (Gq w wr j j (cq j z q (a + 1)) (tq j z q j) pb mp g cap g2 cap2 (sdC j z (q + 1)) j) := HJ.out.full
                      have BD := Gq.bound hak HF.out
                      have cp := HF.out.gs.ptr hak
                      have hBP := HBP.out a
                      obtain ⟨B, hB⟩ : ∃ B, bnd j a (sdC j z (q + 1)) = B := ⟨_, rfl⟩
                      rw [hB] at BD hBP
                      obtain ⟨pk, hpk⟩ : ∃ pk, pb a = pk := ⟨_, rfl⟩
                      rw [hpk] at BD cp
                      have hnB : ¬ B < P := by omega
                      clear hB hpk hBP
                      go_wp2_with (go_at_call 16; refine BD.mono ?_; rintro e w3 ⟨rfl, h3⟩; have H3 : Hid _ := h3; clear h3 BD)
                      go_roundw
                      case rel => exact ⟨a + 1, by go_num, by omega, H3.out⟩
                      case measure => simp [intOf]; omega
                · obtain rfl : a = k := by omega
                  have HO : Hid (Gs w wr a a (fun _ => sdC a z (q + 1)) (fun i => sdC a z (q + 1) i) pb mp g cap) := HA.out.over
                  go_wp2
                  go_roundw
                  case rel => exact ⟨r + 1, q + 1, by go_num, by show r + 1 = q + 1 + 1; rw [Hr.out], by omega, HO.out⟩
                  case measure => simp [intOf]; omega
        · go_wp2
          go_ret
          exact ⟨rfl, HG.out.bel⟩
end Go.Proofs.Ytmhopjpbhdficaa
