/- Proved: the walk of PastOrder. -/
import Derived.Test.YtgifanioeeacdaaOrd
import Derived.BigQuiet
import Derived.Deep.QuietTactic
namespace Go.Proofs.Ytgifanioeeacdaa
open Go.RowKit Go.Shelf Go.Sort
set_option linter.unusedVariables false

theorem keysP_len (L : List P) : (keysP L).length = L.length := by simp [keysP]
theorem keysP_nth {L : List P} {i : Nat} (h : i < L.length) : nth cK (keysP L) i = (nthP L i).m.1 := by
  rw [nth_get (by rw [keysP_len]; exact h)]
  simp [keysP, nthP, h]
set_option maxRecDepth 100000 in
set_option maxHeartbeats 8000000 in
theorem order_walk (w : World) (sa : Option Addr) (sc : Nat) (z : List St) (hz : RdS w sa z) (hn : z.length ≤ maxLen) :
    Calls Try.prog 4 #[.slice sa z.length sc] w fun e w' => e = .returned (.bool true) ∧ Below w.heap.size w w' := by
  have mixed : Try.prog.follows .mixedOrders = true := by kernel_rfl
  have HV := heavy_any w sa sc z hz hn
  obtain ⟨b, hp⟩ : ∃ b, w.heap.size = b := ⟨_, rfl⟩
  have NW := One.new w
  rw [hp] at NW
  have HZ : Hid (RdS w sa z) := hz
  clear hz hn hp
  go_enter Try.func4, Try.ntmps4
  go_wp2_with fail
  refine HV.mono ?_
  rintro e w0 ⟨he, rfl⟩
  rcases he with rfl | ⟨rfl, hz2, hos⟩
  · go_wp2
    go_ret
    exact ⟨rfl, Below.refl _ _⟩
  have HOS : Hid (∀ s ∈ z, s.e.p.os.length ≤ 20) := hos
  clear hos HV
  go_wp2_with (go_at_call 9; refine NW.mono ?_; rintro e w1 ⟨rfl, h1⟩; have H1 : Hid (One w w1 0 [] b) := h1; clear h1 NW)
  go_loopw [4, 5] (fun s4 s5 wr => ∃ (i : Nat) (fl : Int) (L : List P) (ga : Option Addr) (gc : Nat) (gl : List K), s5 = .int .i64 i ∧ i ≤ z.length ∧ s4 = .slice ga gl.length gc ∧ gl.length ≤ 64 * i ∧ Hid (Fit fl L gl) ∧ Hid (Pk w wr fl L b (.slice ga gl.length gc) gl [])) (fun _ s5 _ => z.length - (intOf s5).toNat)
  case atStart => exact ⟨0, 0, [], _, _, [], rfl, Nat.zero_le _, rfl, by simp, (⟨Int.le_refl _, fun x hx => (by cases hx), fun x hx => (by cases hx), List.Pairwise.nil⟩ : Fit 0 [] []), Pk.start H1.out⟩
  case round =>
    obtain ⟨i, fl, L, ga, gc, gl, rfl, hi, rfl, hgl, HF, HP⟩ := hrel
    obtain ⟨G, hG⟩ : ∃ G, gl.length = G := ⟨_, rfl⟩
    rw [hG] at hgl HP ⊢
    have HG : Hid (gl.length = G) := hG
    clear hG
    by_cases hlt : i < z.length
    · have hlt' : (i : Int) < (z.length : Int) := by omega
      obtain ⟨s, hs⟩ : ∃ s, nth cS z i = s := ⟨_, rfl⟩
      have hso : s.e.p.os.length ≤ 20 := HOS.out s (by rw [← hs]; exact nth_mem hlt)
      obtain ⟨hro, sb, off, rfl, hB, hcs⟩ := HZ.out.cells hlt hs
      obtain ⟨sk, ⟨⟨⟨⟨y1, y2, y3⟩, y4, y5, y6⟩, y7, y8, y9, yos⟩, yoa, yoc⟩⟩ := s
      dsimp only at hso hro hcs
      obtain ⟨m, hm⟩ : ∃ m, yos.length = m := ⟨_, rfl⟩
      rw [hm] at hcs
      obtain ⟨x0, x1, x2, x3, x4, x5, x6, x7, x8, x9, x10⟩ := hcs wr HP.out.bel
      have HPU : Hid (Calls Try.prog 11 #[.pointer (some ⟨b, 0, none⟩), .agg #[.int .i64 y1, .int .i64 y2, .int .i64 y3, .int .i64 y4, .int .i64 y5, .int .i64 y6, .int .i64 y7, .int .i64 y8, .int .i64 y9, .slice yoa m yoc]] wr fun e w' => ∃ c L', e = .returned (.int .i64 c) ∧ Fit fl L' gl ∧ Pk w w' fl L' b (.slice ga G gc) gl []) := by
        have h1 := HP.out.push (N := fun _ => True) (x := ⟨⟨((y1, y2, y3), y4, y5, y6), y7, y8, y9, yos⟩, yoa, yoc⟩) ⟨hro.below HP.out.bel, hso⟩
        dsimp only [ev] at h1
        rw [hm] at h1
        exact h1.mono fun e w' ⟨he, hq⟩ => ⟨_, _, he, HF.out.push _, hq⟩
      have HBA : Hid (Calls Try.prog 14 #[.pointer (some ⟨b, 0, none⟩), .agg #[.int .i64 y1, .int .i64 y2, .int .i64 y3]] wr fun e w' => ∃ a n c L', e = .returned (.slice a n c) ∧ Fit fl L' gl ∧ Pk w w' fl L' b (.slice ga G gc) gl []) :=
        (HP.out.back (y1, y2, y3)).mono fun e w' ⟨a, c, he, hq⟩ => ⟨a, _, c, _, he, HF.out.back _, hq⟩
      have HSE : Hid (Calls Try.prog 16 #[.pointer (some ⟨b, 0, none⟩), .int .i64 y1] wr fun e w' => ∃ a c l n fl' L', e = .returned (.slice a n c) ∧ l.length = n ∧ n ≤ 64 ∧ Fit fl' L' (gl ++ l.map keyE) ∧ Pk w w' fl' L' b (.slice ga G gc) gl [(a, l)]) :=
        (HP.out.settle y1).mono fun e w' ⟨a, c, l, he, hl, hq⟩ => ⟨a, c, l, _, _, _, he, by rw [← hl]; simp, by have := HP.out.srt.2; have h2 : (gonT y1 L).length ≤ L.length := List.length_filter_le _ _; omega, by
          have e1 : l.map keyE = keysP (gonT y1 L) := by rw [← hl]; unfold keysP keyE; simp
          rw [e1]; exact HF.out.settle HP.out.srt.1 y1, hq⟩
      clear hro hso hs hm hcs
      have hcase : sk = 0 ∨ sk = 1 ∨ sk = 2 ∨ (sk ≠ 0 ∧ sk ≠ 1 ∧ sk ≠ 2) := by omega
      rcases hcase with rfl | rfl | rfl | ⟨g0, g1, g2⟩
      · clear HBA HSE
        go_wp2_with (first | (go_at_call 11; refine (Hid.out HPU).mono ?_; rintro e w5 ⟨c5, L5, rfl, f5, h5⟩; have HF5 : Hid (Fit fl L5 gl) := f5; have H5 : Hid (Pk w w5 fl L5 b (.slice ga G gc) gl []) := h5; clear f5 h5 HPU) | fail)
        go_wp2_with (go_at_call 20; refine (Pk.keys (Hid.out H5)).mono ?_; rintro e w8 ⟨ka, kc, rfl, hk8, h8⟩; have HK8 : Hid (RdN cK (fun _ => True) w8 ka (keysP L5)) := hk8; have H8 : Hid (Pk w w8 fl L5 b (.slice ga G gc) gl []) := h8; clear hk8 h8)
        have hl64 : L5.length ≤ 64 := H5.out.srt.2
        have HS2 : Hid (SrtP L5) := H5.out.srt.1
        obtain ⟨nk, hnk⟩ : ∃ nk, L5.length = nk := ⟨_, rfl⟩
        have HNK : Hid (L5.length = nk) := hnk
        rw [hnk] at hl64 ⊢
        clear hnk H5
        go_loopw [9] (fun s9 wr => ∃ n : Nat, s9 = .int .i64 n ∧ n ≤ nk ∧ Hid (RdN cK (fun _ => True) wr ka (keysP L5)) ∧ Hid (Pk w wr fl L5 b (.slice ga G gc) gl [])) (fun s9 _ => nk - (intOf s9).toNat)
        case atStart => exact ⟨0, rfl, Nat.zero_le _, HK8.out, H8.out⟩
        case round =>
          obtain ⟨n, rfl, hn9, HK9, H9⟩ := hrel
          by_cases hlt9 : n < nk
          · have hlt9' : (n : Int) < (nk : Int) := by omega
            have hnL : n < L5.length := by rw [HNK.out]; exact hlt9
            obtain ⟨k1, k2, k3, hk⟩ : ∃ k1 k2 k3, nth cK (keysP L5) n = (k1, k2, k3) := ⟨_, _, _, rfl⟩
            obtain ⟨kb, ko, rfl, lkb, q0, q1, q2⟩ := HK9.out.key (i := n) (by rw [keysP_len]; exact hnL) hk
            have hfl : ¬ k1 < fl := by
              have h1 := HF5.out.fL _ (nthP_mem hnL)
              rw [← keysP_nth hnL, hk] at h1
              simp at h1
              omega
            have hfl' : decide (k1 < fl) = false := by simpa using hfl
            have HFL : Hid (∀ {W : World}, Below wr.heap.size wr W → Calls Try.prog 24 #[.pointer (some ⟨b, 0, none⟩)] W fun e w' => e = .returned (.int .i64 fl) ∧ W = w') := fun hW => Pk.floor (H9.out.on hW)
            rcases Nat.eq_zero_or_pos n with h0 | h0
            · subst h0
              simp only [Nat.zero_mul, Nat.add_zero] at q0 q1 q2
              have h0k : (0 : Int) < (nk : Int) := by omega
              clear hk hnL
              go_wp2_with fail
              have QF : ∀ q, Calls Try.prog 24 #[.pointer (some ⟨b, 0, none⟩)] (wr.drewN q) fun e w' => e = .returned (.int .i64 fl) ∧ w' = wr.drewN q := fun q => (HFL.out (W := wr.drewN q) ⟨rfl, rfl, rfl, Nat.le_refl _, fun _ _ => rfl⟩).mono fun e w' ⟨he, hw⟩ => ⟨he, hw.symm⟩
              go_quiet (first | (go_at_call 24; refine Calls.quiet_of_same (QF _)))
              go_wp2
              go_roundw
              case rel => exact ⟨1, rfl, by omega, HK9.out.below ⟨rfl, rfl, rfl, Nat.le_refl _, fun _ _ => rfl⟩, H9.out.on ⟨rfl, rfl, rfl, Nat.le_refl _, fun _ _ => rfl⟩⟩
              case measure => simp [intOf]; omega
            · obtain ⟨j, hj⟩ : ∃ j, n = j + 1 := ⟨n - 1, by omega⟩
              obtain ⟨j1, j2, j3, hjk⟩ : ∃ j1 j2 j3, nth cK (keysP L5) j = (j1, j2, j3) := ⟨_, _, _, rfl⟩
              have hup : kcmp (j1, j2, j3) (k1, k2, k3) < 0 := by
                have h1 := kcmp_up (keysP_srt HS2.out) (i := j) (by rw [keysP_len]; omega)
                rw [hjk, ← hj, hk] at h1
                exact h1
              obtain ⟨r, hr⟩ : ∃ r, kcmp (j1, j2, j3) (k1, k2, k3) = r := ⟨_, rfl⟩
              rw [hr] at hup
              have hup' : ¬ (0 : Int) ≤ r := by omega
              have HFC : Hid (∀ {W : World}, Below wr.heap.size wr W → (W.cell? ⟨kb, ko + n * 3, none⟩ = some (.int .i64 k1) ∧ W.cell? ⟨kb, ko + n * 3 + 1, none⟩ = some (.int .i64 k2) ∧ W.cell? ⟨kb, ko + n * 3 + 2, none⟩ = some (.int .i64 k3)) ∧ (W.cell? ⟨kb, ko + j * 3, none⟩ = some (.int .i64 j1) ∧ W.cell? ⟨kb, ko + j * 3 + 1, none⟩ = some (.int .i64 j2) ∧ W.cell? ⟨kb, ko + j * 3 + 2, none⟩ = some (.int .i64 j3))) := fun {W} hW => by
                obtain ⟨b1, o1, e1, _, u0, u1, u2⟩ := (HK9.out.below hW).key (i := n) (by rw [keysP_len]; exact hnL) hk
                obtain ⟨b2, o2, e2, _, v0, v1, v2⟩ := (HK9.out.below hW).key (i := j) (by rw [keysP_len]; omega) hjk
                simp at e1 e2
                obtain ⟨rfl, rfl⟩ := e1
                obtain ⟨rfl, rfl⟩ := e2
                exact ⟨⟨u0, u1, u2⟩, v0, v1, v2⟩
              have HCM : Hid (∀ {W : World}, Below wr.heap.size wr W → Calls Try.prog 25 #[.agg #[.int .i64 j1, .int .i64 j2, .int .i64 j3], .agg #[.int .i64 k1, .int .i64 k2, .int .i64 k3]] W fun e w' => e = .returned (.int .i64 r) ∧ Below wr.heap.size wr w') := fun {W} hW => by
                have h1 := refcmp_any (j1, j2, j3) (k1, k2, k3) W
                rw [hr] at h1
                exact h1.mono fun e w' ⟨he, hb⟩ => ⟨he, Below.on hW hb⟩
              have KEEP0 : Hid ((wr.drew.cell? ⟨kb, ko + n * 3, none⟩ = some (.int .i64 k1) ∧ wr.drew.cell? ⟨kb, ko + n * 3 + 1, none⟩ = some (.int .i64 k2) ∧ wr.drew.cell? ⟨kb, ko + n * 3 + 2, none⟩ = some (.int .i64 k3)) ∧ (wr.drew.cell? ⟨kb, ko + j * 3, none⟩ = some (.int .i64 j1) ∧ wr.drew.cell? ⟨kb, ko + j * 3 + 1, none⟩ = some (.int .i64 j2) ∧ wr.drew.cell? ⟨kb, ko + j * 3 + 2, none⟩ = some (.int .i64 j3))) := HFC.out (Below.refl _ wr).drew
              obtain ⟨⟨_, _, _⟩, p0, p1, p2⟩ := HFC.out (Below.refl _ wr)
              have e1 : (n : Int) - 1 = (j : Int) := by omega
              have e2 : IntKind.i64.wrap ((n : Int) - 1) = (j : Int) := by rw [e1]; exact wrapN j (by omega)
              have e3 : IntKind.i64.wrap (j : Int) = (j : Int) := wrapN j (by omega)
              have e4 : (0 : Int) ≤ (j : Int) := by omega
              have e5 : (j : Int) < (nk : Int) := by omega
              have d0 : (0 : Int) < (n : Int) := by omega
              have d1 : decide ((0 : Int) < (n : Int)) = true := by simpa using h0
              have d2 : decide (0 < n) = true := by simpa using h0
              clear hk hjk hr hj hnL
              go_wp2_with fail
              go_region_held3 (fun w' => (w'.cell? ⟨kb, ko + n * 3, none⟩ = some (.int .i64 k1) ∧ w'.cell? ⟨kb, ko + n * 3 + 1, none⟩ = some (.int .i64 k2) ∧ w'.cell? ⟨kb, ko + n * 3 + 2, none⟩ = some (.int .i64 k3)) ∧ (w'.cell? ⟨kb, ko + j * 3, none⟩ = some (.int .i64 j1) ∧ w'.cell? ⟨kb, ko + j * 3 + 1, none⟩ = some (.int .i64 j2) ∧ w'.cell? ⟨kb, ko + j * 3 + 2, none⟩ = some (.int .i64 j3))) (first | (go_keep; done) | exact Hid.out KEEP2 | exact Hid.out KEEP0) (first
                | (go_at_call 24; refine (Hid.out HFL (Below.refl _ wr).drew).mono ?_; rintro e w10 ⟨rfl, rfl⟩)
                | (go_at_call 25; refine (Hid.out HCM (Below.refl _ wr).drew).mono ?_; rintro e w11 ⟨rfl, h11⟩; have HB11 : Hid (Below wr.heap.size wr w11) := h11; have KEEP2 : Hid ((w11.cell? ⟨kb, ko + n * 3, none⟩ = some (.int .i64 k1) ∧ w11.cell? ⟨kb, ko + n * 3 + 1, none⟩ = some (.int .i64 k2) ∧ w11.cell? ⟨kb, ko + n * 3 + 2, none⟩ = some (.int .i64 k3)) ∧ (w11.cell? ⟨kb, ko + j * 3, none⟩ = some (.int .i64 j1) ∧ w11.cell? ⟨kb, ko + j * 3 + 1, none⟩ = some (.int .i64 j2) ∧ w11.cell? ⟨kb, ko + j * 3 + 2, none⟩ = some (.int .i64 j3))) := Hid.out HFC h11; clear h11))
              go_wp2
              go_roundw
              case rel => exact ⟨n + 1, by go_num, by omega, HK9.out.below HB11.out, H9.out.on HB11.out⟩
              case measure => simp [intOf]; omega
          · obtain rfl : n = nk := by omega
            go_wp2
            go_roundw
            case rel => exact ⟨i + 1, fl, L5, ga, gc, gl, by go_num, by omega, by rw [HG.out], by rw [HG.out]; omega, HF5.out, by have h1 := H9.out; rw [← HG.out] at h1; exact h1⟩
            case measure => simp [intOf]; omega
      · clear HPU HSE
        go_wp2_with (go_at_call 14; refine (Hid.out HBA).mono ?_; rintro e w5 ⟨a5, n5, c5, L5, rfl, f5, h5⟩; have HF5 : Hid (Fit fl L5 gl) := f5; have H5 : Hid (Pk w w5 fl L5 b (.slice ga G gc) gl []) := h5; clear f5 h5 HBA)
        go_wp2_with (go_at_call 20; refine (Pk.keys (Hid.out H5)).mono ?_; rintro e w8 ⟨ka, kc, rfl, hk8, h8⟩; have HK8 : Hid (RdN cK (fun _ => True) w8 ka (keysP L5)) := hk8; have H8 : Hid (Pk w w8 fl L5 b (.slice ga G gc) gl []) := h8; clear hk8 h8)
        have hl64 : L5.length ≤ 64 := H5.out.srt.2
        have HS2 : Hid (SrtP L5) := H5.out.srt.1
        obtain ⟨nk, hnk⟩ : ∃ nk, L5.length = nk := ⟨_, rfl⟩
        have HNK : Hid (L5.length = nk) := hnk
        rw [hnk] at hl64 ⊢
        clear hnk H5
        go_loopw [9] (fun s9 wr => ∃ n : Nat, s9 = .int .i64 n ∧ n ≤ nk ∧ Hid (RdN cK (fun _ => True) wr ka (keysP L5)) ∧ Hid (Pk w wr fl L5 b (.slice ga G gc) gl [])) (fun s9 _ => nk - (intOf s9).toNat)
        case atStart => exact ⟨0, rfl, Nat.zero_le _, HK8.out, H8.out⟩
        case round =>
          obtain ⟨n, rfl, hn9, HK9, H9⟩ := hrel
          by_cases hlt9 : n < nk
          · have hlt9' : (n : Int) < (nk : Int) := by omega
            have hnL : n < L5.length := by rw [HNK.out]; exact hlt9
            obtain ⟨k1, k2, k3, hk⟩ : ∃ k1 k2 k3, nth cK (keysP L5) n = (k1, k2, k3) := ⟨_, _, _, rfl⟩
            obtain ⟨kb, ko, rfl, lkb, q0, q1, q2⟩ := HK9.out.key (i := n) (by rw [keysP_len]; exact hnL) hk
            have hfl : ¬ k1 < fl := by
              have h1 := HF5.out.fL _ (nthP_mem hnL)
              rw [← keysP_nth hnL, hk] at h1
              simp at h1
              omega
            have hfl' : decide (k1 < fl) = false := by simpa using hfl
            have HFL : Hid (∀ {W : World}, Below wr.heap.size wr W → Calls Try.prog 24 #[.pointer (some ⟨b, 0, none⟩)] W fun e w' => e = .returned (.int .i64 fl) ∧ W = w') := fun hW => Pk.floor (H9.out.on hW)
            rcases Nat.eq_zero_or_pos n with h0 | h0
            · subst h0
              simp only [Nat.zero_mul, Nat.add_zero] at q0 q1 q2
              have h0k : (0 : Int) < (nk : Int) := by omega
              clear hk hnL
              go_wp2_with fail
              have QF : ∀ q, Calls Try.prog 24 #[.pointer (some ⟨b, 0, none⟩)] (wr.drewN q) fun e w' => e = .returned (.int .i64 fl) ∧ w' = wr.drewN q := fun q => (HFL.out (W := wr.drewN q) ⟨rfl, rfl, rfl, Nat.le_refl _, fun _ _ => rfl⟩).mono fun e w' ⟨he, hw⟩ => ⟨he, hw.symm⟩
              go_quiet (first | (go_at_call 24; refine Calls.quiet_of_same (QF _)))
              go_wp2
              go_roundw
              case rel => exact ⟨1, rfl, by omega, HK9.out.below ⟨rfl, rfl, rfl, Nat.le_refl _, fun _ _ => rfl⟩, H9.out.on ⟨rfl, rfl, rfl, Nat.le_refl _, fun _ _ => rfl⟩⟩
              case measure => simp [intOf]; omega
            · obtain ⟨j, hj⟩ : ∃ j, n = j + 1 := ⟨n - 1, by omega⟩
              obtain ⟨j1, j2, j3, hjk⟩ : ∃ j1 j2 j3, nth cK (keysP L5) j = (j1, j2, j3) := ⟨_, _, _, rfl⟩
              have hup : kcmp (j1, j2, j3) (k1, k2, k3) < 0 := by
                have h1 := kcmp_up (keysP_srt HS2.out) (i := j) (by rw [keysP_len]; omega)
                rw [hjk, ← hj, hk] at h1
                exact h1
              obtain ⟨r, hr⟩ : ∃ r, kcmp (j1, j2, j3) (k1, k2, k3) = r := ⟨_, rfl⟩
              rw [hr] at hup
              have hup' : ¬ (0 : Int) ≤ r := by omega
              have HFC : Hid (∀ {W : World}, Below wr.heap.size wr W → (W.cell? ⟨kb, ko + n * 3, none⟩ = some (.int .i64 k1) ∧ W.cell? ⟨kb, ko + n * 3 + 1, none⟩ = some (.int .i64 k2) ∧ W.cell? ⟨kb, ko + n * 3 + 2, none⟩ = some (.int .i64 k3)) ∧ (W.cell? ⟨kb, ko + j * 3, none⟩ = some (.int .i64 j1) ∧ W.cell? ⟨kb, ko + j * 3 + 1, none⟩ = some (.int .i64 j2) ∧ W.cell? ⟨kb, ko + j * 3 + 2, none⟩ = some (.int .i64 j3))) := fun {W} hW => by
                obtain ⟨b1, o1, e1, _, u0, u1, u2⟩ := (HK9.out.below hW).key (i := n) (by rw [keysP_len]; exact hnL) hk
                obtain ⟨b2, o2, e2, _, v0, v1, v2⟩ := (HK9.out.below hW).key (i := j) (by rw [keysP_len]; omega) hjk
                simp at e1 e2
                obtain ⟨rfl, rfl⟩ := e1
                obtain ⟨rfl, rfl⟩ := e2
                exact ⟨⟨u0, u1, u2⟩, v0, v1, v2⟩
              have HCM : Hid (∀ {W : World}, Below wr.heap.size wr W → Calls Try.prog 25 #[.agg #[.int .i64 j1, .int .i64 j2, .int .i64 j3], .agg #[.int .i64 k1, .int .i64 k2, .int .i64 k3]] W fun e w' => e = .returned (.int .i64 r) ∧ Below wr.heap.size wr w') := fun {W} hW => by
                have h1 := refcmp_any (j1, j2, j3) (k1, k2, k3) W
                rw [hr] at h1
                exact h1.mono fun e w' ⟨he, hb⟩ => ⟨he, Below.on hW hb⟩
              have KEEP0 : Hid ((wr.drew.cell? ⟨kb, ko + n * 3, none⟩ = some (.int .i64 k1) ∧ wr.drew.cell? ⟨kb, ko + n * 3 + 1, none⟩ = some (.int .i64 k2) ∧ wr.drew.cell? ⟨kb, ko + n * 3 + 2, none⟩ = some (.int .i64 k3)) ∧ (wr.drew.cell? ⟨kb, ko + j * 3, none⟩ = some (.int .i64 j1) ∧ wr.drew.cell? ⟨kb, ko + j * 3 + 1, none⟩ = some (.int .i64 j2) ∧ wr.drew.cell? ⟨kb, ko + j * 3 + 2, none⟩ = some (.int .i64 j3))) := HFC.out (Below.refl _ wr).drew
              obtain ⟨⟨_, _, _⟩, p0, p1, p2⟩ := HFC.out (Below.refl _ wr)
              have e1 : (n : Int) - 1 = (j : Int) := by omega
              have e2 : IntKind.i64.wrap ((n : Int) - 1) = (j : Int) := by rw [e1]; exact wrapN j (by omega)
              have e3 : IntKind.i64.wrap (j : Int) = (j : Int) := wrapN j (by omega)
              have e4 : (0 : Int) ≤ (j : Int) := by omega
              have e5 : (j : Int) < (nk : Int) := by omega
              have d0 : (0 : Int) < (n : Int) := by omega
              have d1 : decide ((0 : Int) < (n : Int)) = true := by simpa using h0
              have d2 : decide (0 < n) = true := by simpa using h0
              clear hk hjk hr hj hnL
              go_wp2_with fail
              go_region_held3 (fun w' => (w'.cell? ⟨kb, ko + n * 3, none⟩ = some (.int .i64 k1) ∧ w'.cell? ⟨kb, ko + n * 3 + 1, none⟩ = some (.int .i64 k2) ∧ w'.cell? ⟨kb, ko + n * 3 + 2, none⟩ = some (.int .i64 k3)) ∧ (w'.cell? ⟨kb, ko + j * 3, none⟩ = some (.int .i64 j1) ∧ w'.cell? ⟨kb, ko + j * 3 + 1, none⟩ = some (.int .i64 j2) ∧ w'.cell? ⟨kb, ko + j * 3 + 2, none⟩ = some (.int .i64 j3))) (first | (go_keep; done) | exact Hid.out KEEP2 | exact Hid.out KEEP0) (first
                | (go_at_call 24; refine (Hid.out HFL (Below.refl _ wr).drew).mono ?_; rintro e w10 ⟨rfl, rfl⟩)
                | (go_at_call 25; refine (Hid.out HCM (Below.refl _ wr).drew).mono ?_; rintro e w11 ⟨rfl, h11⟩; have HB11 : Hid (Below wr.heap.size wr w11) := h11; have KEEP2 : Hid ((w11.cell? ⟨kb, ko + n * 3, none⟩ = some (.int .i64 k1) ∧ w11.cell? ⟨kb, ko + n * 3 + 1, none⟩ = some (.int .i64 k2) ∧ w11.cell? ⟨kb, ko + n * 3 + 2, none⟩ = some (.int .i64 k3)) ∧ (w11.cell? ⟨kb, ko + j * 3, none⟩ = some (.int .i64 j1) ∧ w11.cell? ⟨kb, ko + j * 3 + 1, none⟩ = some (.int .i64 j2) ∧ w11.cell? ⟨kb, ko + j * 3 + 2, none⟩ = some (.int .i64 j3))) := Hid.out HFC h11; clear h11))
              go_wp2
              go_roundw
              case rel => exact ⟨n + 1, by go_num, by omega, HK9.out.below HB11.out, H9.out.on HB11.out⟩
              case measure => simp [intOf]; omega
          · obtain rfl : n = nk := by omega
            go_wp2
            go_roundw
            case rel => exact ⟨i + 1, fl, L5, ga, gc, gl, by go_num, by omega, by rw [HG.out], by rw [HG.out]; omega, HF5.out, by have h1 := H9.out; rw [← HG.out] at h1; exact h1⟩
            case measure => simp [intOf]; omega
      · clear HPU HBA
        go_wp2_with (go_at_call 16; refine (Hid.out HSE).mono ?_; rintro e w5 ⟨a5, c5, l5, n5, fl5, L5, rfl, hn5, h64, f5, h5⟩; have HF5 : Hid (Fit fl5 L5 (gl ++ l5.map keyE)) := f5; have H5 : Hid (Pk w w5 fl5 L5 b (.slice ga G gc) gl [(a5, l5)]) := h5; have HN5 : Hid (l5.length = n5) := hn5; clear f5 h5 HSE hn5)
        go_loopw [4, 7] (fun s4 s7 wr => ∃ (k : Nat) (g2a : Option Addr) (g2c : Nat), s7 = .int .i64 k ∧ k ≤ n5 ∧ s4 = .slice g2a (G + k) g2c ∧ Hid (Pk w wr fl5 L5 b (.slice g2a (G + k) g2c) (gl ++ (l5.take k).map keyE) [(a5, l5)])) (fun _ s7 _ => n5 - (intOf s7).toNat)
        case atStart => exact ⟨0, ga, gc, rfl, Nat.zero_le _, rfl, (by simpa using H5.out : Pk w w5 fl5 L5 b (.slice ga (G + 0) gc) (gl ++ (l5.take 0).map keyE) [(a5, l5)])⟩
        case round =>
          obtain ⟨k, g2a, g2c, rfl, hk5, rfl, H6⟩ := hrel
          by_cases hltk : k < n5
          · have hltk' : (k : Int) < (n5 : Int) := by omega
            have hkl : k < l5.length := by rw [HN5.out]; exact hltk
            obtain ⟨x, hx⟩ : ∃ x, nth cE l5 k = x := ⟨_, rfl⟩
            obtain ⟨lb, lo, rfl, llb, _, u0, u1, u2, _⟩ := (H6.out.row (a := a5) (l := l5) (by simp)).entry hkl hx
            obtain ⟨k1, k2, k3, hk3⟩ : ∃ k1 k2 k3, x.p.m.1 = (k1, k2, k3) := ⟨_, _, _, rfl⟩
            rw [hk3] at u0 u1 u2
            obtain ⟨X, hX⟩ : ∃ X, gl ++ (l5.take k).map keyE ++ [(k1, k2, k3)] = X := ⟨_, rfl⟩
            have hX2 : X = gl ++ (l5.take (k + 1)).map keyE := by
              rw [← hX, List.take_add_one, List.map_append, List.getElem?_eq_getElem hkl, ← List.append_assoc]
              rw [nth_get hkl] at hx
              simp [hx, keyE, hk3]
            have HXL : Hid (X.length = G + k + 1) := by show X.length = _; rw [hX2, List.length_append, List.length_map, List.length_take, HG.out]; omega
            have HX : Hid (gl ++ (l5.take k).map keyE ++ [(k1, k2, k3)] = X) := hX
            have HX2 : Hid (X = gl ++ (l5.take (k + 1)).map keyE) := hX2
            have HAL : Hid ((gl ++ (l5.take k).map keyE).length ≤ 100000) := by show (gl ++ (l5.take k).map keyE).length ≤ 100000; rw [List.length_append, List.length_map, List.length_take, HG.out]; omega
            obtain ⟨Gk, hGk⟩ : ∃ Gk, G + k = Gk := ⟨_, rfl⟩
            rw [hGk] at H6 HXL ⊢
            have HGK : Hid (G + k = Gk) := hGk
            have gGk : Gk ≤ 100000 := by omega
            clear hX hX2 hx hk3 hGk
            go_wp2_with (at_builtin; refine wpList_append_R tyK (fun _ => True) _ rfl (.tmp 64) (.tmp 71) rfl (.slice g2a Gk g2c) _ _ (gl ++ (l5.take k).map keyE) [(k1, k2, k3)] rfl rfl (OwR.below (Pk.own (Hid.out H6)) (al _ _)) (RdN.new cK _ (k1, k2, k3) _ _ rfl trivial) (Hid.out HAL) (by simp) X (Hid.out HX) ?_; intro a' c' w7 ho hm; have H7 : Hid (Pk w w7 fl5 L5 b (.slice a' X.length c') X [(some ⟨lb, lo, none⟩, l5)]) := Pk.append (Pk.on (Hid.out H6) (al _ _)) ho hm; clear ho hm)
            go_roundw
            case rel =>
              refine ⟨k + 1, a', c', by go_num, by omega, by rw [HXL.out, ← HGK.out]; rfl, ?_⟩
              have h1 : Pk w w7 fl5 L5 b (.slice a' X.length c') X [(some ⟨lb, lo, none⟩, l5)] := H7.out
              rw [HXL.out, HX2.out, ← HGK.out] at h1
              exact h1
            case measure => simp [intOf]; omega
          · obtain rfl : k = n5 := by omega
            obtain ⟨gl2, hgl2⟩ : ∃ gl2, gl ++ l5.map keyE = gl2 := ⟨_, rfl⟩
            obtain ⟨G2, hG2⟩ : ∃ G2, G + k = G2 := ⟨_, rfl⟩
            have HG2 : Hid (gl2.length = G2) := by show gl2.length = G2; rw [← hgl2, ← hG2, List.length_append, List.length_map, HG.out, HN5.out]
            have HF6 : Hid (Fit fl5 L5 gl2) := by rw [← hgl2]; exact HF5.out
            have H7 : Hid (Pk w wr fl5 L5 b (.slice g2a G2 g2c) gl2 []) := by
              have h1 := H6.out
              rw [List.take_of_length_le (by rw [HN5.out]; exact Nat.le_refl _), hgl2, hG2] at h1
              exact h1.less (fun r hr => by cases hr)
            have hgl' : G2 ≤ 64 * (i + 1) := by omega
            rw [hG2]
            clear hgl2 hG2 H6 HF5 H5
            go_wp2_with (go_at_call 20; refine (Pk.keys (Hid.out H7)).mono ?_; rintro e w8 ⟨ka, kc, rfl, hk8, h8⟩; have HK8 : Hid (RdN cK (fun _ => True) w8 ka (keysP L5)) := hk8; have H8 : Hid (Pk w w8 fl5 L5 b (.slice g2a G2 g2c) gl2 []) := h8; clear hk8 h8)
            have hl64 : L5.length ≤ 64 := H7.out.srt.2
            have HS2 : Hid (SrtP L5) := H7.out.srt.1
            obtain ⟨nk, hnk⟩ : ∃ nk, L5.length = nk := ⟨_, rfl⟩
            have HNK : Hid (L5.length = nk) := hnk
            rw [hnk] at hl64 ⊢
            clear hnk H7
            go_loopw [9] (fun s9 wr => ∃ n : Nat, s9 = .int .i64 n ∧ n ≤ nk ∧ Hid (RdN cK (fun _ => True) wr ka (keysP L5)) ∧ Hid (Pk w wr fl5 L5 b (.slice g2a G2 g2c) gl2 [])) (fun s9 _ => nk - (intOf s9).toNat)
            case atStart => exact ⟨0, rfl, Nat.zero_le _, HK8.out, H8.out⟩
            case round =>
              obtain ⟨n, rfl, hn9, HK9, H9⟩ := hrel
              by_cases hlt9 : n < nk
              · have hlt9' : (n : Int) < (nk : Int) := by omega
                have hnL : n < L5.length := by rw [HNK.out]; exact hlt9
                obtain ⟨k1, k2, k3, hk⟩ : ∃ k1 k2 k3, nth cK (keysP L5) n = (k1, k2, k3) := ⟨_, _, _, rfl⟩
                obtain ⟨kb, ko, rfl, lkb, q0, q1, q2⟩ := HK9.out.key (i := n) (by rw [keysP_len]; exact hnL) hk
                have hfl : ¬ k1 < fl5 := by
                  have h1 := HF6.out.fL _ (nthP_mem hnL)
                  rw [← keysP_nth hnL, hk] at h1
                  simp at h1
                  omega
                have hfl' : decide (k1 < fl5) = false := by simpa using hfl
                have HFL : Hid (∀ {W : World}, Below wr.heap.size wr W → Calls Try.prog 24 #[.pointer (some ⟨b, 0, none⟩)] W fun e w' => e = .returned (.int .i64 fl5) ∧ W = w') := fun hW => Pk.floor (H9.out.on hW)
                rcases Nat.eq_zero_or_pos n with h0 | h0
                · subst h0
                  simp only [Nat.zero_mul, Nat.add_zero] at q0 q1 q2
                  have h0k : (0 : Int) < (nk : Int) := by omega
                  clear hk hnL
                  go_wp2_with fail
                  have QF : ∀ q, Calls Try.prog 24 #[.pointer (some ⟨b, 0, none⟩)] (wr.drewN q) fun e w' => e = .returned (.int .i64 fl5) ∧ w' = wr.drewN q := fun q => (HFL.out (W := wr.drewN q) ⟨rfl, rfl, rfl, Nat.le_refl _, fun _ _ => rfl⟩).mono fun e w' ⟨he, hw⟩ => ⟨he, hw.symm⟩
                  go_quiet (first | (go_at_call 24; refine Calls.quiet_of_same (QF _)))
                  go_wp2
                  go_roundw
                  case rel => exact ⟨1, rfl, by omega, HK9.out.below ⟨rfl, rfl, rfl, Nat.le_refl _, fun _ _ => rfl⟩, H9.out.on ⟨rfl, rfl, rfl, Nat.le_refl _, fun _ _ => rfl⟩⟩
                  case measure => simp [intOf]; omega
                · obtain ⟨j, hj⟩ : ∃ j, n = j + 1 := ⟨n - 1, by omega⟩
                  obtain ⟨j1, j2, j3, hjk⟩ : ∃ j1 j2 j3, nth cK (keysP L5) j = (j1, j2, j3) := ⟨_, _, _, rfl⟩
                  have hup : kcmp (j1, j2, j3) (k1, k2, k3) < 0 := by
                    have h1 := kcmp_up (keysP_srt HS2.out) (i := j) (by rw [keysP_len]; omega)
                    rw [hjk, ← hj, hk] at h1
                    exact h1
                  obtain ⟨r, hr⟩ : ∃ r, kcmp (j1, j2, j3) (k1, k2, k3) = r := ⟨_, rfl⟩
                  rw [hr] at hup
                  have hup' : ¬ (0 : Int) ≤ r := by omega
                  have HFC : Hid (∀ {W : World}, Below wr.heap.size wr W → (W.cell? ⟨kb, ko + n * 3, none⟩ = some (.int .i64 k1) ∧ W.cell? ⟨kb, ko + n * 3 + 1, none⟩ = some (.int .i64 k2) ∧ W.cell? ⟨kb, ko + n * 3 + 2, none⟩ = some (.int .i64 k3)) ∧ (W.cell? ⟨kb, ko + j * 3, none⟩ = some (.int .i64 j1) ∧ W.cell? ⟨kb, ko + j * 3 + 1, none⟩ = some (.int .i64 j2) ∧ W.cell? ⟨kb, ko + j * 3 + 2, none⟩ = some (.int .i64 j3))) := fun {W} hW => by
                    obtain ⟨b1, o1, e1, _, u0, u1, u2⟩ := (HK9.out.below hW).key (i := n) (by rw [keysP_len]; exact hnL) hk
                    obtain ⟨b2, o2, e2, _, v0, v1, v2⟩ := (HK9.out.below hW).key (i := j) (by rw [keysP_len]; omega) hjk
                    simp at e1 e2
                    obtain ⟨rfl, rfl⟩ := e1
                    obtain ⟨rfl, rfl⟩ := e2
                    exact ⟨⟨u0, u1, u2⟩, v0, v1, v2⟩
                  have HCM : Hid (∀ {W : World}, Below wr.heap.size wr W → Calls Try.prog 25 #[.agg #[.int .i64 j1, .int .i64 j2, .int .i64 j3], .agg #[.int .i64 k1, .int .i64 k2, .int .i64 k3]] W fun e w' => e = .returned (.int .i64 r) ∧ Below wr.heap.size wr w') := fun {W} hW => by
                    have h1 := refcmp_any (j1, j2, j3) (k1, k2, k3) W
                    rw [hr] at h1
                    exact h1.mono fun e w' ⟨he, hb⟩ => ⟨he, Below.on hW hb⟩
                  have KEEP0 : Hid ((wr.drew.cell? ⟨kb, ko + n * 3, none⟩ = some (.int .i64 k1) ∧ wr.drew.cell? ⟨kb, ko + n * 3 + 1, none⟩ = some (.int .i64 k2) ∧ wr.drew.cell? ⟨kb, ko + n * 3 + 2, none⟩ = some (.int .i64 k3)) ∧ (wr.drew.cell? ⟨kb, ko + j * 3, none⟩ = some (.int .i64 j1) ∧ wr.drew.cell? ⟨kb, ko + j * 3 + 1, none⟩ = some (.int .i64 j2) ∧ wr.drew.cell? ⟨kb, ko + j * 3 + 2, none⟩ = some (.int .i64 j3))) := HFC.out (Below.refl _ wr).drew
                  obtain ⟨⟨_, _, _⟩, p0, p1, p2⟩ := HFC.out (Below.refl _ wr)
                  have e1 : (n : Int) - 1 = (j : Int) := by omega
                  have e2 : IntKind.i64.wrap ((n : Int) - 1) = (j : Int) := by rw [e1]; exact wrapN j (by omega)
                  have e3 : IntKind.i64.wrap (j : Int) = (j : Int) := wrapN j (by omega)
                  have e4 : (0 : Int) ≤ (j : Int) := by omega
                  have e5 : (j : Int) < (nk : Int) := by omega
                  have d0 : (0 : Int) < (n : Int) := by omega
                  have d1 : decide ((0 : Int) < (n : Int)) = true := by simpa using h0
                  have d2 : decide (0 < n) = true := by simpa using h0
                  clear hk hjk hr hj hnL
                  go_wp2_with fail
                  go_region_held3 (fun w' => (w'.cell? ⟨kb, ko + n * 3, none⟩ = some (.int .i64 k1) ∧ w'.cell? ⟨kb, ko + n * 3 + 1, none⟩ = some (.int .i64 k2) ∧ w'.cell? ⟨kb, ko + n * 3 + 2, none⟩ = some (.int .i64 k3)) ∧ (w'.cell? ⟨kb, ko + j * 3, none⟩ = some (.int .i64 j1) ∧ w'.cell? ⟨kb, ko + j * 3 + 1, none⟩ = some (.int .i64 j2) ∧ w'.cell? ⟨kb, ko + j * 3 + 2, none⟩ = some (.int .i64 j3))) (first | (go_keep; done) | exact Hid.out KEEP2 | exact Hid.out KEEP0) (first
                    | (go_at_call 24; refine (Hid.out HFL (Below.refl _ wr).drew).mono ?_; rintro e w10 ⟨rfl, rfl⟩)
                    | (go_at_call 25; refine (Hid.out HCM (Below.refl _ wr).drew).mono ?_; rintro e w11 ⟨rfl, h11⟩; have HB11 : Hid (Below wr.heap.size wr w11) := h11; have KEEP2 : Hid ((w11.cell? ⟨kb, ko + n * 3, none⟩ = some (.int .i64 k1) ∧ w11.cell? ⟨kb, ko + n * 3 + 1, none⟩ = some (.int .i64 k2) ∧ w11.cell? ⟨kb, ko + n * 3 + 2, none⟩ = some (.int .i64 k3)) ∧ (w11.cell? ⟨kb, ko + j * 3, none⟩ = some (.int .i64 j1) ∧ w11.cell? ⟨kb, ko + j * 3 + 1, none⟩ = some (.int .i64 j2) ∧ w11.cell? ⟨kb, ko + j * 3 + 2, none⟩ = some (.int .i64 j3))) := Hid.out HFC h11; clear h11))
                  go_wp2
                  go_roundw
                  case rel => exact ⟨n + 1, by go_num, by omega, HK9.out.below HB11.out, H9.out.on HB11.out⟩
                  case measure => simp [intOf]; omega
              · obtain rfl : n = nk := by omega
                go_wp2
                go_roundw
                case rel => exact ⟨i + 1, fl5, L5, g2a, g2c, gl2, by go_num, by omega, by rw [HG2.out], by rw [HG2.out]; omega, HF6.out, by have h1 := H9.out; rw [← HG2.out] at h1; exact h1⟩
                case measure => simp [intOf]; omega
      · have b0 : (sk == 0) = false := by simpa using g0
        have b1 : (sk == 1) = false := by simpa using g1
        have b2 : (sk == 2) = false := by simpa using g2
        clear HPU HBA HSE
        go_wp2_with (go_at_call 20; refine (Pk.keys (Hid.out HP)).mono ?_; rintro e w8 ⟨ka, kc, rfl, hk8, h8⟩; have HK8 : Hid (RdN cK (fun _ => True) w8 ka (keysP L)) := hk8; have H8 : Hid (Pk w w8 fl L b (.slice ga G gc) gl []) := h8; clear hk8 h8)
        have hl64 : L.length ≤ 64 := HP.out.srt.2
        have HS2 : Hid (SrtP L) := HP.out.srt.1
        obtain ⟨nk, hnk⟩ : ∃ nk, L.length = nk := ⟨_, rfl⟩
        have HNK : Hid (L.length = nk) := hnk
        rw [hnk] at hl64 ⊢
        clear hnk HP
        go_loopw [9] (fun s9 wr => ∃ n : Nat, s9 = .int .i64 n ∧ n ≤ nk ∧ Hid (RdN cK (fun _ => True) wr ka (keysP L)) ∧ Hid (Pk w wr fl L b (.slice ga G gc) gl [])) (fun s9 _ => nk - (intOf s9).toNat)
        case atStart => exact ⟨0, rfl, Nat.zero_le _, HK8.out, H8.out⟩
        case round =>
          obtain ⟨n, rfl, hn9, HK9, H9⟩ := hrel
          by_cases hlt9 : n < nk
          · have hlt9' : (n : Int) < (nk : Int) := by omega
            have hnL : n < L.length := by rw [HNK.out]; exact hlt9
            obtain ⟨k1, k2, k3, hk⟩ : ∃ k1 k2 k3, nth cK (keysP L) n = (k1, k2, k3) := ⟨_, _, _, rfl⟩
            obtain ⟨kb, ko, rfl, lkb, q0, q1, q2⟩ := HK9.out.key (i := n) (by rw [keysP_len]; exact hnL) hk
            have hfl : ¬ k1 < fl := by
              have h1 := HF.out.fL _ (nthP_mem hnL)
              rw [← keysP_nth hnL, hk] at h1
              simp at h1
              omega
            have hfl' : decide (k1 < fl) = false := by simpa using hfl
            have HFL : Hid (∀ {W : World}, Below wr.heap.size wr W → Calls Try.prog 24 #[.pointer (some ⟨b, 0, none⟩)] W fun e w' => e = .returned (.int .i64 fl) ∧ W = w') := fun hW => Pk.floor (H9.out.on hW)
            rcases Nat.eq_zero_or_pos n with h0 | h0
            · subst h0
              simp only [Nat.zero_mul, Nat.add_zero] at q0 q1 q2
              have h0k : (0 : Int) < (nk : Int) := by omega
              clear hk hnL
              go_wp2_with fail
              have QF : ∀ q, Calls Try.prog 24 #[.pointer (some ⟨b, 0, none⟩)] (wr.drewN q) fun e w' => e = .returned (.int .i64 fl) ∧ w' = wr.drewN q := fun q => (HFL.out (W := wr.drewN q) ⟨rfl, rfl, rfl, Nat.le_refl _, fun _ _ => rfl⟩).mono fun e w' ⟨he, hw⟩ => ⟨he, hw.symm⟩
              go_quiet (first | (go_at_call 24; refine Calls.quiet_of_same (QF _)))
              go_wp2
              go_roundw
              case rel => exact ⟨1, rfl, by omega, HK9.out.below ⟨rfl, rfl, rfl, Nat.le_refl _, fun _ _ => rfl⟩, H9.out.on ⟨rfl, rfl, rfl, Nat.le_refl _, fun _ _ => rfl⟩⟩
              case measure => simp [intOf]; omega
            · obtain ⟨j, hj⟩ : ∃ j, n = j + 1 := ⟨n - 1, by omega⟩
              obtain ⟨j1, j2, j3, hjk⟩ : ∃ j1 j2 j3, nth cK (keysP L) j = (j1, j2, j3) := ⟨_, _, _, rfl⟩
              have hup : kcmp (j1, j2, j3) (k1, k2, k3) < 0 := by
                have h1 := kcmp_up (keysP_srt HS2.out) (i := j) (by rw [keysP_len]; omega)
                rw [hjk, ← hj, hk] at h1
                exact h1
              obtain ⟨r, hr⟩ : ∃ r, kcmp (j1, j2, j3) (k1, k2, k3) = r := ⟨_, rfl⟩
              rw [hr] at hup
              have hup' : ¬ (0 : Int) ≤ r := by omega
              have HFC : Hid (∀ {W : World}, Below wr.heap.size wr W → (W.cell? ⟨kb, ko + n * 3, none⟩ = some (.int .i64 k1) ∧ W.cell? ⟨kb, ko + n * 3 + 1, none⟩ = some (.int .i64 k2) ∧ W.cell? ⟨kb, ko + n * 3 + 2, none⟩ = some (.int .i64 k3)) ∧ (W.cell? ⟨kb, ko + j * 3, none⟩ = some (.int .i64 j1) ∧ W.cell? ⟨kb, ko + j * 3 + 1, none⟩ = some (.int .i64 j2) ∧ W.cell? ⟨kb, ko + j * 3 + 2, none⟩ = some (.int .i64 j3))) := fun {W} hW => by
                obtain ⟨b1, o1, e1, _, u0, u1, u2⟩ := (HK9.out.below hW).key (i := n) (by rw [keysP_len]; exact hnL) hk
                obtain ⟨b2, o2, e2, _, v0, v1, v2⟩ := (HK9.out.below hW).key (i := j) (by rw [keysP_len]; omega) hjk
                simp at e1 e2
                obtain ⟨rfl, rfl⟩ := e1
                obtain ⟨rfl, rfl⟩ := e2
                exact ⟨⟨u0, u1, u2⟩, v0, v1, v2⟩
              have HCM : Hid (∀ {W : World}, Below wr.heap.size wr W → Calls Try.prog 25 #[.agg #[.int .i64 j1, .int .i64 j2, .int .i64 j3], .agg #[.int .i64 k1, .int .i64 k2, .int .i64 k3]] W fun e w' => e = .returned (.int .i64 r) ∧ Below wr.heap.size wr w') := fun {W} hW => by
                have h1 := refcmp_any (j1, j2, j3) (k1, k2, k3) W
                rw [hr] at h1
                exact h1.mono fun e w' ⟨he, hb⟩ => ⟨he, Below.on hW hb⟩
              have KEEP0 : Hid ((wr.drew.cell? ⟨kb, ko + n * 3, none⟩ = some (.int .i64 k1) ∧ wr.drew.cell? ⟨kb, ko + n * 3 + 1, none⟩ = some (.int .i64 k2) ∧ wr.drew.cell? ⟨kb, ko + n * 3 + 2, none⟩ = some (.int .i64 k3)) ∧ (wr.drew.cell? ⟨kb, ko + j * 3, none⟩ = some (.int .i64 j1) ∧ wr.drew.cell? ⟨kb, ko + j * 3 + 1, none⟩ = some (.int .i64 j2) ∧ wr.drew.cell? ⟨kb, ko + j * 3 + 2, none⟩ = some (.int .i64 j3))) := HFC.out (Below.refl _ wr).drew
              obtain ⟨⟨_, _, _⟩, p0, p1, p2⟩ := HFC.out (Below.refl _ wr)
              have e1 : (n : Int) - 1 = (j : Int) := by omega
              have e2 : IntKind.i64.wrap ((n : Int) - 1) = (j : Int) := by rw [e1]; exact wrapN j (by omega)
              have e3 : IntKind.i64.wrap (j : Int) = (j : Int) := wrapN j (by omega)
              have e4 : (0 : Int) ≤ (j : Int) := by omega
              have e5 : (j : Int) < (nk : Int) := by omega
              have d0 : (0 : Int) < (n : Int) := by omega
              have d1 : decide ((0 : Int) < (n : Int)) = true := by simpa using h0
              have d2 : decide (0 < n) = true := by simpa using h0
              clear hk hjk hr hj hnL
              go_wp2_with fail
              go_region_held3 (fun w' => (w'.cell? ⟨kb, ko + n * 3, none⟩ = some (.int .i64 k1) ∧ w'.cell? ⟨kb, ko + n * 3 + 1, none⟩ = some (.int .i64 k2) ∧ w'.cell? ⟨kb, ko + n * 3 + 2, none⟩ = some (.int .i64 k3)) ∧ (w'.cell? ⟨kb, ko + j * 3, none⟩ = some (.int .i64 j1) ∧ w'.cell? ⟨kb, ko + j * 3 + 1, none⟩ = some (.int .i64 j2) ∧ w'.cell? ⟨kb, ko + j * 3 + 2, none⟩ = some (.int .i64 j3))) (first | (go_keep; done) | exact Hid.out KEEP2 | exact Hid.out KEEP0) (first
                | (go_at_call 24; refine (Hid.out HFL (Below.refl _ wr).drew).mono ?_; rintro e w10 ⟨rfl, rfl⟩)
                | (go_at_call 25; refine (Hid.out HCM (Below.refl _ wr).drew).mono ?_; rintro e w11 ⟨rfl, h11⟩; have HB11 : Hid (Below wr.heap.size wr w11) := h11; have KEEP2 : Hid ((w11.cell? ⟨kb, ko + n * 3, none⟩ = some (.int .i64 k1) ∧ w11.cell? ⟨kb, ko + n * 3 + 1, none⟩ = some (.int .i64 k2) ∧ w11.cell? ⟨kb, ko + n * 3 + 2, none⟩ = some (.int .i64 k3)) ∧ (w11.cell? ⟨kb, ko + j * 3, none⟩ = some (.int .i64 j1) ∧ w11.cell? ⟨kb, ko + j * 3 + 1, none⟩ = some (.int .i64 j2) ∧ w11.cell? ⟨kb, ko + j * 3 + 2, none⟩ = some (.int .i64 j3))) := Hid.out HFC h11; clear h11))
              go_wp2
              go_roundw
              case rel => exact ⟨n + 1, by go_num, by omega, HK9.out.below HB11.out, H9.out.on HB11.out⟩
              case measure => simp [intOf]; omega
          · obtain rfl : n = nk := by omega
            go_wp2
            go_roundw
            case rel => exact ⟨i + 1, fl, L, ga, gc, gl, by go_num, by omega, by rw [HG.out], by rw [HG.out]; omega, HF.out, by have h1 := H9.out; rw [← HG.out] at h1; exact h1⟩
            case measure => simp [intOf]; omega
    · obtain rfl : i = z.length := by omega
      have hG100 : G ≤ 100000 := by omega
      go_wp2_with fail
      go_loopw [10] (fun s10 wr => ∃ n : Nat, s10 = .int .i64 n ∧ n ≤ G ∧ Hid (Pk w wr fl L b (.slice ga G gc) gl [])) (fun s10 _ => G - (intOf s10).toNat)
      case atStart => exact ⟨0, rfl, Nat.zero_le _, HP.out⟩
      case round =>
        obtain ⟨n, rfl, hn9, H9⟩ := hrel
        by_cases hlt9 : n < G
        · have hlt9' : (n : Int) < (G : Int) := by omega
          have hnL : n < gl.length := by rw [HG.out]; exact hlt9
          obtain ⟨k1, k2, k3, hk⟩ : ∃ k1 k2 k3, nth cK gl n = (k1, k2, k3) := ⟨_, _, _, rfl⟩
          have HK9 : Hid (RdN cK (fun k => (Value.slice ga G gc).ownBlock = some k) wr ga gl) := H9.out.own.look.2
          obtain ⟨kb, ko, rfl, lkb, q0, q1, q2⟩ := HK9.out.key (i := n) hnL hk
          have hfl : ¬ fl ≤ k1 := by
            have h1 := HF.out.fg _ (nth_mem (C := cK) hnL)
            rw [hk] at h1
            simp at h1
            omega
          have hfl' : decide (fl ≤ k1) = false := by simpa using hfl
          have HFL : Hid (∀ {W : World}, Below wr.heap.size wr W → Calls Try.prog 24 #[.pointer (some ⟨b, 0, none⟩)] W fun e w' => e = .returned (.int .i64 fl) ∧ W = w') := fun hW => Pk.floor (H9.out.on hW)
          rcases Nat.eq_zero_or_pos n with h0 | h0
          · subst h0
            simp only [Nat.zero_mul, Nat.add_zero] at q0 q1 q2
            have h0k : (0 : Int) < (G : Int) := by omega
            clear hk hnL
            go_wp2_with fail
            have QF : ∀ q, Calls Try.prog 24 #[.pointer (some ⟨b, 0, none⟩)] (wr.drewN q) fun e w' => e = .returned (.int .i64 fl) ∧ w' = wr.drewN q := fun q => (HFL.out (W := wr.drewN q) ⟨rfl, rfl, rfl, Nat.le_refl _, fun _ _ => rfl⟩).mono fun e w' ⟨he, hw⟩ => ⟨he, hw.symm⟩
            go_quiet (first | (go_at_call 24; refine Calls.quiet_of_same (QF _)))
            go_wp2
            go_roundw
            case rel => exact ⟨1, rfl, by omega, H9.out.on ⟨rfl, rfl, rfl, Nat.le_refl _, fun _ _ => rfl⟩⟩
            case measure => simp [intOf]; omega
          · obtain ⟨j, hj⟩ : ∃ j, n = j + 1 := ⟨n - 1, by omega⟩
            obtain ⟨j1, j2, j3, hjk⟩ : ∃ j1 j2 j3, nth cK gl j = (j1, j2, j3) := ⟨_, _, _, rfl⟩
            have hup : kcmp (j1, j2, j3) (k1, k2, k3) < 0 := by
              have h1 := kcmp_up HF.out.sg (i := j) (by omega)
              rw [hjk, ← hj, hk] at h1
              exact h1
            obtain ⟨r, hr⟩ : ∃ r, kcmp (j1, j2, j3) (k1, k2, k3) = r := ⟨_, rfl⟩
            rw [hr] at hup
            have hup' : ¬ (0 : Int) ≤ r := by omega
            have HFC : Hid (∀ {W : World}, Below wr.heap.size wr W → (W.cell? ⟨kb, ko + n * 3, none⟩ = some (.int .i64 k1) ∧ W.cell? ⟨kb, ko + n * 3 + 1, none⟩ = some (.int .i64 k2) ∧ W.cell? ⟨kb, ko + n * 3 + 2, none⟩ = some (.int .i64 k3)) ∧ (W.cell? ⟨kb, ko + j * 3, none⟩ = some (.int .i64 j1) ∧ W.cell? ⟨kb, ko + j * 3 + 1, none⟩ = some (.int .i64 j2) ∧ W.cell? ⟨kb, ko + j * 3 + 2, none⟩ = some (.int .i64 j3))) := fun {W} hW => by
              obtain ⟨b1, o1, e1, _, u0, u1, u2⟩ := (HK9.out.below hW).key (i := n) hnL hk
              obtain ⟨b2, o2, e2, _, v0, v1, v2⟩ := (HK9.out.below hW).key (i := j) (by omega) hjk
              simp at e1 e2
              obtain ⟨rfl, rfl⟩ := e1
              obtain ⟨rfl, rfl⟩ := e2
              exact ⟨⟨u0, u1, u2⟩, v0, v1, v2⟩
            have HCM : Hid (∀ {W : World}, Below wr.heap.size wr W → Calls Try.prog 25 #[.agg #[.int .i64 j1, .int .i64 j2, .int .i64 j3], .agg #[.int .i64 k1, .int .i64 k2, .int .i64 k3]] W fun e w' => e = .returned (.int .i64 r) ∧ Below wr.heap.size wr w') := fun {W} hW => by
              have h1 := refcmp_any (j1, j2, j3) (k1, k2, k3) W
              rw [hr] at h1
              exact h1.mono fun e w' ⟨he, hb⟩ => ⟨he, Below.on hW hb⟩
            have KEEP0 : Hid ((wr.drew.cell? ⟨kb, ko + n * 3, none⟩ = some (.int .i64 k1) ∧ wr.drew.cell? ⟨kb, ko + n * 3 + 1, none⟩ = some (.int .i64 k2) ∧ wr.drew.cell? ⟨kb, ko + n * 3 + 2, none⟩ = some (.int .i64 k3)) ∧ (wr.drew.cell? ⟨kb, ko + j * 3, none⟩ = some (.int .i64 j1) ∧ wr.drew.cell? ⟨kb, ko + j * 3 + 1, none⟩ = some (.int .i64 j2) ∧ wr.drew.cell? ⟨kb, ko + j * 3 + 2, none⟩ = some (.int .i64 j3))) := HFC.out (Below.refl _ wr).drew
            obtain ⟨⟨_, _, _⟩, p0, p1, p2⟩ := HFC.out (Below.refl _ wr)
            have e1 : (n : Int) - 1 = (j : Int) := by omega
            have e2 : IntKind.i64.wrap ((n : Int) - 1) = (j : Int) := by rw [e1, IntKind.wrap_i64]; omega
            have e3 : IntKind.i64.wrap (j : Int) = (j : Int) := by rw [IntKind.wrap_i64]; omega
            have e4 : (0 : Int) ≤ (j : Int) := by omega
            have e5 : (j : Int) < (G : Int) := by omega
            have d0 : (0 : Int) < (n : Int) := by omega
            have d1 : decide ((0 : Int) < (n : Int)) = true := by simpa using h0
            have d2 : decide (0 < n) = true := by simpa using h0
            clear hk hjk hr hj hnL
            go_wp2_with fail
            go_region_held3 (fun w' => (w'.cell? ⟨kb, ko + n * 3, none⟩ = some (.int .i64 k1) ∧ w'.cell? ⟨kb, ko + n * 3 + 1, none⟩ = some (.int .i64 k2) ∧ w'.cell? ⟨kb, ko + n * 3 + 2, none⟩ = some (.int .i64 k3)) ∧ (w'.cell? ⟨kb, ko + j * 3, none⟩ = some (.int .i64 j1) ∧ w'.cell? ⟨kb, ko + j * 3 + 1, none⟩ = some (.int .i64 j2) ∧ w'.cell? ⟨kb, ko + j * 3 + 2, none⟩ = some (.int .i64 j3))) (first | (go_keep; done) | exact Hid.out KEEP2 | exact Hid.out KEEP0) (first
              | (go_at_call 24; refine (Hid.out HFL (Below.refl _ wr).drew).mono ?_; rintro e w10 ⟨rfl, rfl⟩)
              | (go_at_call 25; refine (Hid.out HCM (Below.refl _ wr).drew).mono ?_; rintro e w11 ⟨rfl, h11⟩; have HB11 : Hid (Below wr.heap.size wr w11) := h11; have KEEP2 : Hid ((w11.cell? ⟨kb, ko + n * 3, none⟩ = some (.int .i64 k1) ∧ w11.cell? ⟨kb, ko + n * 3 + 1, none⟩ = some (.int .i64 k2) ∧ w11.cell? ⟨kb, ko + n * 3 + 2, none⟩ = some (.int .i64 k3)) ∧ (w11.cell? ⟨kb, ko + j * 3, none⟩ = some (.int .i64 j1) ∧ w11.cell? ⟨kb, ko + j * 3 + 1, none⟩ = some (.int .i64 j2) ∧ w11.cell? ⟨kb, ko + j * 3 + 2, none⟩ = some (.int .i64 j3))) := Hid.out HFC h11; clear h11))
            go_wp2
            go_roundw
            case rel => exact ⟨n + 1, by go_num, by omega, H9.out.on HB11.out⟩
            case measure => simp [intOf]; omega
        · obtain rfl : n = G := by omega
          have PE : Calls Try.prog 11 #[.pointer (some ⟨b, 0, none⟩), .agg #[.int .i64 (-9), .int .i64 0, .int .i64 0, .int .i64 0, .int .i64 0, .int .i64 0, .int .i64 0, .int .i64 0, .int .i64 0, .slice none 0 0]] wr fun e w' => e = .returned (.int .i64 110) ∧ Below w.heap.size w w' := by
            have h1 := H9.out.push (N := fun _ => True) (x := ⟨mkP (-9) 0 0 0 0, none, 0⟩) ⟨RdN.nil _ _ _ _, by simp [mkP]⟩
            have h2 := push_early (fl := fl) (L := L) (e := mkP (-9) 0 0 0 0) (by have := HF.out.f0; show (-9 : Int) < fl; omega)
            dsimp only at h1
            rw [h2.1] at h1
            exact h1.mono fun e w' ⟨he, ht⟩ => ⟨he, ht.bel⟩
          go_wp2_with (go_at_call 11; refine PE.mono ?_; rintro e w13 ⟨rfl, h13⟩)
          go_ret
          exact ⟨rfl, h13⟩
end Go.Proofs.Ytgifanioeeacdaa
