/- Proved: as many messages come of some sends as their classes have hearers; the walk of the statement on it. -/
import Derived.Test.YtpifkoblcbjiiaaInb
namespace Go.Proofs.Ytpifkoblcbjiiaa
open Go.RowKit Go.Shelf
set_option linter.unusedVariables false

/-- The sends that the classes make, of which there are m. -/
def outsF (z : List Int) (m k : Nat) : List O := (List.range k).map (fun i : Nat => (nthI z i % (m : Int), (i : Int), 0))
theorem outsF_succ (z : List Int) (m k : Nat) : outsF z m (k + 1) = outsF z m k ++ [(nthI z k % (m : Int), (k : Int), 0)] := by
  unfold outsF
  rw [List.range_succ]
  simp
theorem outsF_len (z : List Int) (m k : Nat) : (outsF z m k).length = k := by simp [outsF]
theorem outsF_nth (z : List Int) (m : Nat) {k i : Nat} (h : i < k) : nthO (outsF z m k) i = (nthI z i % (m : Int), (i : Int), 0) := by
  simp [outsF, nthO, h]
theorem much_mem {d : Wd} {f : Int} {z : List Int} {m k : Nat} {x : M} (hk : k ≤ 20) (h : x ∈ spr d f 5 10 0 (outsF z m k)) : 5 ≤ x.sq ∧ x.sq < 5 + (k : Int) ∧ x.t = 10 + x.sq - 5 := by
  obtain ⟨i, hi, hx⟩ := sprF_mem h
  rw [outsF_len] at hi
  obtain ⟨_, h2, _, h4, _⟩ := oneM_mem hx
  rw [outsF_nth z m hi] at h4
  dsimp only at h4
  have : vadd 10 (i : Int) = 10 + (i : Int) := by
    unfold vadd
    rw [cnt_mid (t := 10) (by omega) (by omega), cnt_mid (t := (i : Int)) (by omega) (by omega), cnt_mid (by omega) (by omega)]
  rw [this] at h4
  refine ⟨by omega, by omega, by omega⟩

set_option maxRecDepth 100000 in
set_option maxHeartbeats 4000000 in
theorem much_walk (w : World) (D : Wd) (hp : RdI w w.heap.size D.pa D.ps) (hf : RdF w D.fa D.fs) (a1 : Int) (ha0 : 0 ≤ a1) (ha1 : a1 ≤ 255) (za : Option Addr) (zc : Nat) (z : List Int) (hz : InB w za z) :
    Calls Try.prog 8 #[wv D, .int .u8 a1, .slice za z.length zc] w fun e w' => e = .returned (.bool true) ∧ Below w.heap.size w w' := by
  have mixed : Try.prog.follows .mixedOrders = true := by kernel_rfl
  have hb0 := al w (.cells (wcs D) 25)
  obtain ⟨⟨x0, x1, x2⟩, hp1, hf1⟩ := box_of hp hf
  have HV := heavy_any _ D hp1 hf1
  have HZ : Hid (InB (w.alloc (.cells (wcs D) 25)) za z) := hz.below hb0
  obtain ⟨B, hB⟩ : ∃ B, w.heap.size = B := ⟨_, rfl⟩
  rw [hB] at x0 x1 x2
  have lB := clt x0
  dsimp only at lB
  cases hh : hvyW D with
  | true =>
    rw [hh] at HV
    dsimp only [wv, wcs] at HV x0 x1 x2 lB hb0 ⊢
    clear hp hf hp1 hf1 hh hz HZ
    go_enter Try.func8, Try.ntmps8
    go_wp2_with fail
    refine HV.mono ?_
    rintro e w1 ⟨rfl, hb1⟩
    have hb1' := hb0.trans (hb1.mono hb0.size)
    clear HV
    go_wp2_with fail
    refine (shown_any w1).mono ?_
    rintro e w2 ⟨rfl, hb2⟩
    go_wp2_with fail
    go_ret
    exact ⟨rfl, hb1'.trans (hb2.mono hb1'.size)⟩
  | false =>
    have hW := ww_of hp1 hf1 hh
    rw [hh] at HV
    by_cases hzl : (20 : Int) < (z.length : Int)
    · have dz : decide ((20 : Int) < (z.length : Int)) = true := decide_eq_true hzl
      dsimp only [wv, wcs] at HV x0 x1 x2 lB hb0 ⊢
      clear hp hf hp1 hf1 hh hz HZ hW
      go_enter Try.func8, Try.ntmps8
      go_wp2_with fail
      refine HV.mono ?_
      rintro e w1 ⟨rfl, hb1⟩
      have hb1' := hb0.trans (hb1.mono hb0.size)
      clear HV
      go_wp2_with fail
      refine (shown_any w1).mono ?_
      rintro e w2 ⟨rfl, hb2⟩
      go_wp2_with fail
      go_ret
      exact ⟨rfl, hb1'.trans (hb2.mono hb1'.size)⟩
    · have dz : decide ((20 : Int) < (z.length : Int)) = false := decide_eq_false hzl
      have HX : Hid (∀ W, Below (w.alloc (.cells (wcs D) 25)).heap.size (w.alloc (.cells (wcs D) 25)) W → BoxW W B D) := fun W hW' => (BoxW.mk x0 x1 x2 hW).below hW'
      have hfl := hW.fl
      obtain ⟨N, E, hNE⟩ : ∃ N E, wldE D = (N, E) := ⟨_, _, rfl⟩
      have HNE : Hid _ := hNE
      dsimp only [wv, wcs] at HV x0 x1 x2 lB hb0 HX HZ ⊢
      clear hp hf hp1 hf1 hh hW hNE hz
      go_enter Try.func8, Try.ntmps8
      go_wp2_with fail
      refine HV.mono ?_
      rintro e w1 ⟨rfl, hb1⟩
      obtain ⟨x0, x1, x2, hW1⟩ := HX.out w1 hb1
      have C1 := rwcheck_any w1 D hW1
      rw [HNE.out] at C1
      dsimp only [wv] at C1
      clear HV hW1
      go_wp2_with fail
      refine C1.mono ?_
      rintro e w2 ⟨rfl, hb2⟩
      have hb2' := hb1.trans (hb2.mono hb1.size)
      clear C1
      by_cases e0 : E = 0
      · subst e0
        obtain ⟨hokt, hf1, hf8, _⟩ := wld_ok HNE.out
        have hps := hokt.1
        have hps2 := hokt.2.1
        go_wp2_with fail
        refine (shown_any w2).mono ?_
        rintro e w3 ⟨rfl, hb3⟩
        have hb3' := hb2'.trans (hb3.mono hb2'.size)
        obtain ⟨x0, x1, x2, _⟩ := HX.out w3 hb3'
        obtain ⟨F, hF⟩ : ∃ F : Nat, D.fs.length = F := ⟨_, rfl⟩
        have hF0 : (0 : Int) < (D.fs.length : Int) := by omega
        have hne : ¬ (D.fs.length : Int) = 0 := by omega
        obtain ⟨G, hG⟩ : ∃ G, a1 % (D.fs.length : Int) = G := ⟨_, rfl⟩
        have HSP := fun W (hW : Ww W D) (c : Int) => rroutes_any W D G c hW
        have HHR : Hid _ := HSP
        obtain ⟨OS, hOS⟩ : ∃ OS, outsF z D.ps.length z.length = OS := ⟨_, rfl⟩
        have HOS : Hid _ := hOS
        have hOL : Hid (OS.length = z.length) := by show OS.length = _; rw [← hOS]; exact outsF_len _ _ _
        clear hF hokt HSP hOS
        go_wp2_with fail
        simp only [hG]
        have HG : Hid _ := hG
        clear hG hB x0 x1 x2 dz hne hF0
        go_loopw [12, 11, 10] (fun s12 s11 s10 wr => ∃ k : Nat, k ≤ z.length ∧ s12 = .int .i64 k ∧ s11 = .int .i64 ((sprF D G 5 10 0 OS k).length : Int) ∧ Hid (RowO w3 wr s10 (outsF z D.ps.length k))) (fun s12 _ _ _ => z.length - (intOf s12).toNat)
        case atStart => exact ⟨0, Nat.zero_le _, rfl, rfl, (RowO.empty w3 : RowO w3 _ _ [])⟩
        case round =>
          obtain ⟨k, hk, rfl, rfl, HW⟩ := hrel
          have hbw : Below w3.heap.size w3 wr := HW.out.2
          have hbw0 := hb3'.trans (hbw.mono hb3'.size)
          by_cases hkl : k < z.length
          · have hk' : (k : Int) < (z.length : Int) := by omega
            have hzz := InB.below HZ.out hbw0
            obtain ⟨hx0, hx1⟩ := hzz.1 k hkl
            obtain ⟨b, off, rfl, hbb, hcc⟩ := hzz.2 (by intro e; simp [e] at hkl)
            have c0 := hcc k hkl
            obtain ⟨x, hx⟩ : ∃ x, nthI z k = x := ⟨_, rfl⟩
            rw [hx] at c0 hx0 hx1
            obtain ⟨x0, x1, x2, _⟩ := HX.out wr hbw0
            obtain ⟨C, hC⟩ : ∃ C, x % (D.ps.length : Int) = C := ⟨_, rfl⟩
            have hm0 : (0 : Int) < (D.ps.length : Int) := by omega
            have hmn : ¬ (D.ps.length : Int) = 0 := by omega
            have HSU : Hid (outsF z D.ps.length (k + 1) = outsF z D.ps.length k ++ [(C, (k : Int), 0)]) := by
              show outsF z D.ps.length (k + 1) = _
              rw [outsF_succ, hx, hC]
            have HLN : Hid ((sprF D G 5 10 0 OS (k + 1)).length = (sprF D G 5 10 0 OS k).length + (rts D G C).length) := by
              show (sprF D G 5 10 0 OS (k + 1)).length = _
              rw [sprF_succ, List.length_append]
              unfold oneM
              rw [List.length_map, ← HOS.out, outsF_nth _ _ hkl, hx, hC]
            have hlk : (sprF D G 5 10 0 OS k).length ≤ 400 := Nat.le_trans (sprF_len hfl _ _ _ _ _ _) (by omega)
            have hrl : (rts D G C).length ≤ 20 := Nat.le_trans (rtsF_len D G C _) hfl
            have hol : (outsF z D.ps.length k).length ≤ 20 := by rw [outsF_len]; omega
            obtain ⟨n, hn⟩ : ∃ n, (sprF D G 5 10 0 OS k).length = n := ⟨_, rfl⟩
            obtain ⟨P, hP⟩ : ∃ P, outsF z D.ps.length k = P := ⟨_, rfl⟩
            simp only [hn, hP] at HSU HLN hlk hol HW ⊢
            clear hx hcc hzz hn hP
            go_wp2_with fail
            go_quiet (fail)
            obtain ⟨W5, hW5⟩ : ∃ W5, wr.drewN nq = W5 := ⟨_, rfl⟩
            rw [hW5]
            simp only [hC]
            have hb5 : Below wr.heap.size wr W5 := by rw [← hW5]; exact below_drewN _ _ _
            have HA5 : Hid _ := RowO.below (RowO.below HW.out hb5) (al W5 (.cells #[.int .i64 C, .int .i64 (k : Int), .int .i64 0] 55))
            have HN5 : Hid _ := rdO_new W5 (C, (k : Int), 0)
            obtain ⟨X, hX⟩ : ∃ X, P ++ [(C, (k : Int), 0)] = X := ⟨_, rfl⟩
            rw [hX] at HSU
            have HXX : Hid _ := hX
            clear hW5 hC x0 x1 x2 c0 hX
            go_wp2_with (at_builtin; refine wpList_append_O _ rfl _ _ rfl w3 _ _ _ P [(C, (k : Int), 0)] rfl rfl (Hid.out HA5) (Hid.out HN5) (by omega) (by simp) X HXX.out ?_)
            intro a' c' w6 hr6
            have hb6 := hb3'.trans (hr6.2.mono hb3'.size)
            obtain ⟨x0, x1, x2, hW6⟩ := HX.out w6 hb6
            have C6 := HHR.out w6 hW6 C
            obtain ⟨L, hL⟩ : ∃ L, rts D G C = L := ⟨_, rfl⟩
            rw [hL] at C6 HLN hrl
            dsimp only [wv] at C6
            have HR6 : Hid _ := hr6
            clear hr6 hW6 hL
            go_wp2_with fail
            refine C6.mono ?_
            rintro e w7 ⟨v7, rfl, hr7⟩
            obtain ⟨a7, c7, rfl, _⟩ := hr7.rd
            have hb7 := hr7.2
            clear C6 hr7
            go_wp2_with fail
            go_roundw
            case rel =>
              refine ⟨k + 1, by omega, by go_num, ?_, ?_⟩
              · rw [HLN.out]; simp
              · show RowO w3 _ _ (outsF z D.ps.length (k + 1))
                rw [HSU.out]
                exact RowO.below HR6.out hb7
            case measure => simp [intOf]; omega
          · obtain rfl : k = z.length := by omega
            rw [HOS.out] at HW
            obtain ⟨a8, c8, rfl, hrd8⟩ := RowO.rd HW.out
            obtain ⟨x0, x1, x2, hW8⟩ := HX.out wr hbw0
            have C8 := spread_any wr D G 5 10 0 a8 c8 OS hW8 hrd8 (by rw [hOL.out]; omega) (by omega) (by omega)
            have hsl : (spr D G 5 10 0 OS).length ≤ 400 := Nat.le_trans (sprF_len hfl _ _ _ _ _ _) (by rw [hOL.out]; omega)
            have HSM : Hid (∀ y ∈ spr D G 5 10 0 OS, 5 ≤ y.sq ∧ y.sq < 5 + (OS.length : Int) ∧ y.t = 10 + y.sq - 5) := fun y hy => by
              rw [← HOS.out] at hy
              have := much_mem (by omega) hy
              rwa [hOL.out]
            have HEQ : Hid ((spr D G 5 10 0 OS).length = (sprF D G 5 10 0 OS z.length).length) := by
              show List.length _ = _
              unfold spr
              rw [hOL.out]
            obtain ⟨L, hL⟩ : ∃ L, spr D G 5 10 0 OS = L := ⟨_, rfl⟩
            rw [hL] at C8 hsl HSM HEQ
            obtain ⟨n, hn⟩ : ∃ n, (sprF D G 5 10 0 OS z.length).length = n := ⟨_, rfl⟩
            rw [hn] at HEQ ⊢
            dsimp only [wv] at C8
            clear hrd8 hW8 hL hn
            go_wp2_with fail
            refine C8.mono ?_
            rintro e w9 ⟨v9, rfl, hr9⟩
            obtain ⟨a9, c9, rfl, hrd9⟩ := hr9.rd
            have hb9 := hbw0.trans (hr9.2.mono hbw0.size)
            have HD9 : Hid _ := hrd9
            clear C8 hr9 hrd9 x0 x1 x2
            go_wp2_with fail
            clear hbw hbw0
            go_loopw [15] (fun s15 wq => ∃ j : Nat, j ≤ L.length ∧ s15 = .int .i64 j ∧ Below w9.heap.size w9 wq) (fun s15 _ => L.length - (intOf s15).toNat)
            case atStart => exact ⟨0, Nat.zero_le _, rfl, Below.refl _ _⟩
            case round =>
              obtain ⟨j, hj, rfl, hbq⟩ := hrel
              by_cases hjl : j < L.length
              · have hj' : (j : Int) < (L.length : Int) := by omega
                obtain ⟨y, hy⟩ : ∃ y, nthM L j = y := ⟨_, rfl⟩
                obtain ⟨s1, s2, s3⟩ := HSM.out y ((memM L y).2 ⟨j, hjl, hy⟩)
                obtain ⟨b1, o1, rfl, _, p0, p1, p2, p3, p4, p5⟩ := (RdM.below HD9.out hbq).cells hjl hy
                obtain ⟨t, fr, sq, dst, cl, bd⟩ := y
                dsimp only at s1 s2 s3 p0 p1 p2 p3 p4 p5
                have d1 : decide (sq < 5) = false := decide_eq_false (by omega)
                have d2 : decide (5 + (OS.length : Int) ≤ sq) = false := decide_eq_false (by omega)
                have d3 : (t != 10 + sq - 5) = false := by simp; omega
                have hol2 : OS.length ≤ 20 := by rw [hOL.out]; omega
                have hs25 : sq ≤ 25 := by omega
                clear hy s2 s3
                go_wp2_with fail
                go_quiet (fail)
                go_wp2
                go_roundw
                case rel => exact ⟨j + 1, by omega, by go_num, hbq.trans (below_drewN _ _ _)⟩
                case measure => simp [intOf]; omega
              · obtain rfl : j = L.length := by omega
                have hbe := hb9.trans (hbq.mono hb9.size)
                have ht : ((L.length : Int) == (n : Int)) = true := by rw [HEQ.out]; simp
                go_wp2_with fail
                go_ret
                exact ⟨by first | rfl | simp [ht], hb0.trans (hbe.mono hb0.size)⟩
      · have ke : (E == 0) = false := by simpa using e0
        go_wp2_with fail
        refine (shown_any w2).mono ?_
        rintro e w3 ⟨rfl, hb3⟩
        have hb3' := hb2'.trans (hb3.mono hb2'.size)
        go_wp2_with fail
        go_ret
        exact ⟨rfl, hb0.trans (hb3'.mono hb0.size)⟩
end Go.Proofs.Ytpifkoblcbjiiaa
