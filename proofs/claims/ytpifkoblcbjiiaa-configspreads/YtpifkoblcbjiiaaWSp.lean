/- Proved: to whom what goes, and with which keys, is the document's; the walk of the statement on it. -/
import Derived.Test.YtpifkoblcbjiiaaInb
namespace Go.Proofs.Ytpifkoblcbjiiaa
open Go.RowKit Go.Shelf
set_option linter.unusedVariables false

set_option maxRecDepth 100000 in
set_option maxHeartbeats 4000000 in
theorem spreads_walk (w : World) (D : Wd) (hp : RdI w w.heap.size D.pa D.ps) (hf : RdF w D.fa D.fs) (a1 : Int) (ha0 : 0 ≤ a1) (ha1 : a1 ≤ 255) (q n b : Int) (oa : Option Addr) (oc : Nat) (os : List O) (ho : RdO w oa os) :
    Calls Try.prog 4 #[wv D, .int .u8 a1, .int .i64 q, .int .i64 n, .int .i64 b, .slice oa os.length oc] w fun e w' => e = .returned (.bool true) ∧ Below w.heap.size w w' := by
  have mixed : Try.prog.follows .mixedOrders = true := by kernel_rfl
  obtain ⟨W0, hW0⟩ : ∃ W0, W0 = w.alloc (.cells (wcs D) 25) := ⟨_, rfl⟩
  have hb0 : Below w.heap.size w W0 := by rw [hW0]; exact al _ _
  obtain ⟨⟨x0, x1, x2⟩, hp1, hf1⟩ := box_of hp hf
  rw [← hW0] at hp1 hf1
  have HV := heavy_any _ D hp1 hf1
  have HO : Hid (RdO W0 oa os) := ho.below hb0
  have HW0 : Hid _ := hW0
  obtain ⟨B, hB⟩ : ∃ B, w.heap.size = B := ⟨_, rfl⟩
  rw [hB] at x0 x1 x2
  have lB := clt x0
  dsimp only at lB
  have key : ∀ W, Below W0.heap.size W0 W → Below w.heap.size w W := fun W hW => hb0.trans (hW.mono hb0.size)
  have HKEY : Hid _ := key
  cases hh : hvyW D with
  | true =>
    rw [hh] at HV
    rw [hW0] at HV
    dsimp only [wv, wcs] at HV x0 x1 x2 lB HW0 ⊢
    clear hp hf hp1 hf1 hh ho HO hW0 key
    go_enter Try.func4, Try.ntmps4
    go_wp2_with fail
    refine HV.mono ?_
    rintro e w1 ⟨rfl, hb1⟩
    rw [← HW0.out] at hb1
    clear HV
    go_wp2_with fail
    refine (shown_any w1).mono ?_
    rintro e w2 ⟨rfl, hb2⟩
    go_wp2_with fail
    go_ret
    exact ⟨rfl, HKEY.out _ (hb1.trans (hb2.mono hb1.size))⟩
  | false =>
    have hW := ww_of hp1 hf1 hh
    rw [hh, hW0] at HV
    have HX : Hid (∀ W, Below W0.heap.size W0 W → BoxW W B D) := fun W hW' => (BoxW.mk (hW0 ▸ x0) (hW0 ▸ x1) (hW0 ▸ x2) hW).below hW'
    have hfl := hW.fl
    have hpl := hW.pl
    have HLT : Hid _ := hW.lt
    by_cases hout : ¬ (20 : Int) < (os.length : Int) ∧ ¬ q < 0 ∧ ¬ 1099511627776 < q
    · obtain ⟨c1, c2, c3⟩ := hout
      have d1 : decide ((20 : Int) < (os.length : Int)) = false := decide_eq_false c1
      have d2 : decide (q < 0) = false := decide_eq_false c2
      have d3 : decide (1099511627776 < q) = false := decide_eq_false c3
      have hol : os.length ≤ 20 := by omega
      have hq0 : 0 ≤ q := by omega
      have hq1 : q ≤ 1099511627776 := by omega
      obtain ⟨N, E, hNE⟩ : ∃ N E, wldE D = (N, E) := ⟨_, _, rfl⟩
      have HNE : Hid _ := hNE
      dsimp only [wv, wcs] at HV x0 x1 x2 lB HW0 ⊢
      clear hp hf hp1 hf1 hh hW hNE ho hW0 key c1 c2 c3
      go_enter Try.func4, Try.ntmps4
      go_wp2_with fail
      refine HV.mono ?_
      rintro e w1 ⟨rfl, hb1⟩
      rw [← HW0.out] at hb1
      obtain ⟨x0, x1, x2, hW1⟩ := HX.out w1 hb1
      have C1 := rwcheck_any w1 D hW1
      rw [HNE.out] at C1
      dsimp only [wv] at C1
      clear HV hW1
      go_wp2_with fail
      refine C1.mono ?_
      rintro e w2 ⟨rfl, hb2⟩
      have hb2' := hb1.trans (hb2.mono hb1.size)
      clear C1
      by_cases e0 : E = 0
      · subst e0
        obtain ⟨hokt, hf1, hf8, _⟩ := wld_ok HNE.out
        obtain ⟨x0, x1, x2, _⟩ := HX.out w2 hb2'
        have hF0 : (0 : Int) < (D.fs.length : Int) := by omega
        have hne : ¬ (D.fs.length : Int) = 0 := by omega
        obtain ⟨G, hG⟩ : ∃ G, a1 % (D.fs.length : Int) = G := ⟨_, rfl⟩
        have hrl : ∀ c, (rts D G c).length ≤ 20 := fun c => Nat.le_trans (rtsF_len D G c _) hfl
        have HRL : Hid _ := hrl
        clear hokt hrl
        go_wp2_with fail
        simp only [hG]
        have HG : Hid _ := hG
        clear hG hB x0 x1 x2 d1 d2 d3 hne hF0
        go_loopw [16] (fun s16 wr => ∃ k : Nat, k ≤ D.ps.length ∧ s16 = .int .i64 k ∧ Below W0.heap.size W0 wr) (fun s16 _ => D.ps.length - (intOf s16).toNat)
        case atStart => exact ⟨0, Nat.zero_le _, rfl, hb2'⟩
        case round =>
          obtain ⟨k, hk, rfl, hbw⟩ := hrel
          obtain ⟨x0, x1, x2, hWr⟩ := HX.out wr hbw
          by_cases hkl : k < D.ps.length
          · have hk' : (k : Int) < (D.ps.length : Int) := by omega
            have R1 := routes_any wr D G (k : Int) hWr
            have hLl := HRL.out (k : Int)
            have HR2 := fun W (hW : Ww W D) => rroutes_any W D G (k : Int) hW
            obtain ⟨L, hL⟩ : ∃ L, rts D G (k : Int) = L := ⟨_, rfl⟩
            simp only [hL] at R1 HR2 hLl
            dsimp only [wv] at R1 HR2
            have HR2' : Hid _ := HR2
            clear hWr hL HR2
            go_wp2_with fail
            refine R1.mono ?_
            rintro e w3 ⟨v3, rfl, hr3⟩
            obtain ⟨a3, c3, rfl, hrd3⟩ := hr3.rd
            have hb3 := hbw.trans (hr3.2.mono hbw.size)
            obtain ⟨x0, x1, x2, hW3⟩ := HX.out w3 hb3
            have R2 := HR2'.out w3 hW3
            have HD3 : Hid _ := hrd3
            clear R1 hr3 hrd3 hW3
            go_wp2_with fail
            refine R2.mono ?_
            rintro e w4 ⟨v4, rfl, hr4⟩
            obtain ⟨a4, c4, rfl, hrd4⟩ := hr4.rd
            have hb4 := hb3.trans (hr4.2.mono hb3.size)
            have HD4 : Hid _ := hrd4
            have HD3' : Hid _ := RdI.belo HD3.out hr4.2
            clear R2 hr4 hrd4 x0 x1 x2
            go_wp2_with fail
            clear hbw
            go_loopw [19] (fun s19 wq => ∃ j : Nat, j ≤ L.length ∧ s19 = .int .i64 j ∧ Below w4.heap.size w4 wq) (fun s19 _ => L.length - (intOf s19).toNat)
            case atStart => exact ⟨0, Nat.zero_le _, rfl, Below.refl _ _⟩
            case round =>
              obtain ⟨j, hj, rfl, hbq⟩ := hrel
              by_cases hjl : j < L.length
              · have hj' : (j : Int) < (L.length : Int) := by omega
                obtain ⟨b1, o1, rfl, _, hc1⟩ := RdI.belo HD3'.out hbq (by intro e; simp [e] at hjl)
                obtain ⟨b2, o2, rfl, _, hc2⟩ := RdI.belo HD4.out hbq (by intro e; simp [e] at hjl)
                have p1 := hc1 j hjl
                have p2 := hc2 j hjl
                obtain ⟨x, hx⟩ : ∃ x, nthI L j = x := ⟨_, rfl⟩
                rw [hx] at p1 p2
                clear hc1 hc2 hx
                go_wp2_with fail
                go_quiet (fail)
                go_wp2
                go_roundw
                case rel => exact ⟨j + 1, by omega, by go_num, hbq.trans (below_drewN _ _ _)⟩
                case measure => simp [intOf]; omega
              · obtain rfl : j = L.length := by omega
                go_wp2_with fail
                go_roundw
                case rel => exact ⟨k + 1, by omega, by go_num, hb4.trans (hbq.mono hb4.size)⟩
                case measure => simp [intOf]; omega
          · obtain rfl : k = D.ps.length := by omega
            have hsl : (spr D G q n b os).length ≤ 400 := Nat.le_trans (sprF_len hfl _ _ _ _ _ _) (by omega)
            have htl : (sts D).length ≤ 8000 := Nat.le_trans (stsF_len hfl HLT.out D.fs.length (Nat.le_refl _)) (by omega)
            have hC16 := fun W (hW : Below W0.heap.size W0 W) => spread_any W D G q n b oa oc os (HX.out W hW).ok (RdO.below HO.out hW) hol hq0 hq1
            have hC17 := fun W (hW : Below W0.heap.size W0 W) => rspread_any W D G q n b oa oc os (HX.out W hW).ok (RdO.below HO.out hW) hol hq0 hq1
            have hC18 := fun W (hW : Below W0.heap.size W0 W) => starts_any W D (HX.out W hW).ok
            have hC19 := fun W (hW : Below W0.heap.size W0 W) => rstarts_any W D (HX.out W hW).ok
            obtain ⟨L, hL⟩ : ∃ L, spr D G q n b os = L := ⟨_, rfl⟩
            obtain ⟨P, hP⟩ : ∃ P, sts D = P := ⟨_, rfl⟩
            simp only [hL] at hC16 hC17 hsl
            simp only [hP] at hC18 hC19 htl
            dsimp only [wv] at hC16 hC17 hC18 hC19
            have HC16 : Hid _ := hC16
            have HC17 : Hid _ := hC17
            have HC18 : Hid _ := hC18
            have HC19 : Hid _ := hC19
            have hbd : Below W0.heap.size W0 wr.drew := hbw.drew
            clear hC16 hC17 hC18 hC19 hL hP hWr
            go_wp2_with fail
            go_region_held3 (fun w' => w'.cell? ⟨B, 0, none⟩ = some (.slice D.pa D.ps.length D.pc) ∧ w'.cell? ⟨B, 1, none⟩ = some (.slice D.fa D.fs.length D.fc) ∧ w'.cell? ⟨B, 2, none⟩ = some (.int .i64 D.en)) (go_keep) (first
              | (go_at_call 16; refine (HC16.out _ hbd).mono ?_; rintro e w91 ⟨v91, rfl, hr91⟩; obtain ⟨a91, c91, rfl, hrd91⟩ := RowM.rd hr91; have hb91 := Below.trans hbd (Below.mono hr91.2 hbd.size); obtain ⟨g0, g1, g2, _⟩ := HX.out w91 hb91)
              | (go_at_call 17; refine (HC17.out _ hb91).mono ?_; rintro e w98 ⟨v98, rfl, hr98⟩; obtain ⟨a98, c98, rfl, hrd98⟩ := RowM.rd hr98; have hb98 := Below.trans hb91 (Below.mono hr98.2 hb91.size); obtain ⟨g0, g1, g2, _⟩ := HX.out w98 hb98)
              | (go_at_call 15; refine (same_yes w104 a102 a104 c102 c104 P (RowM.look hr102 hr104.2) hrd104 (by omega)).mono ?_; rintro e w105 ⟨rfl, hbs5⟩; have hb105 := Below.trans hb104 (Below.mono hbs5 hb104.size); obtain ⟨g0, g1, g2, _⟩ := HX.out w105 hb105)
              | (go_at_call 15; refine (same_yes w98 a91 a98 c91 c98 L (RowM.look hr91 hr98.2) hrd98 (by omega)).mono ?_; rintro e w99 ⟨rfl, hbs9⟩; have hb99 := Below.trans hb98 (Below.mono hbs9 hb98.size); obtain ⟨g0, g1, g2, _⟩ := HX.out w99 hb99)
              | (go_at_call 18; refine (HC18.out _ hb99).mono ?_; rintro e w102 ⟨v102, rfl, hr102⟩; obtain ⟨a102, c102, rfl, hrd102⟩ := RowM.rd hr102; have hb102 := Below.trans hb99 (Below.mono hr102.2 hb99.size); obtain ⟨g0, g1, g2, _⟩ := HX.out w102 hb102)
              | (go_at_call 19; refine (HC19.out _ hb102).mono ?_; rintro e w104 ⟨v104, rfl, hr104⟩; obtain ⟨a104, c104, rfl, hrd104⟩ := RowM.rd hr104; have hb104 := Below.trans hb102 (Below.mono hr104.2 hb102.size); obtain ⟨g0, g1, g2, _⟩ := HX.out w104 hb104)
              | (go_at_call 12; refine (shown_any _).mono ?_; rintro e w108 ⟨rfl, hbs8⟩; have hb108 := Below.trans hb105 (Below.mono hbs8 hb105.size); obtain ⟨g0, g1, g2, _⟩ := HX.out w108 hb108))
            all_goals go_wp2
            all_goals go_ret
            all_goals exact ⟨rfl, HKEY.out _ hb108⟩
      · have ke : (E == 0) = false := by simpa using e0
        go_wp2_with fail
        refine (shown_any w2).mono ?_
        rintro e w3 ⟨rfl, hb3⟩
        have hb3' := hb2'.trans (hb3.mono hb2'.size)
        go_wp2_with fail
        go_ret
        exact ⟨rfl, HKEY.out _ hb3'⟩
    · have tail : ∀ (A1 A2 A3 : Bool), decide ((20 : Int) < (os.length : Int)) = A1 → decide (q < 0) = A2 → decide (1099511627776 < q) = A3 → (A1 = true ∨ (A1 = false ∧ A2 = true) ∨ (A1 = false ∧ A2 = false ∧ A3 = true)) → Calls Try.prog 4 #[wv D, .int .u8 a1, .int .i64 q, .int .i64 n, .int .i64 b, .slice oa os.length oc] w fun e w' => e = .returned (.bool true) ∧ Below w.heap.size w w' := by
        intro A1 A2 A3 d1 d2 d3 hA
        dsimp only [wv, wcs] at HV x0 x1 x2 lB HW0 ⊢
        clear hp hf hp1 hf1 hh ho HO hW0 key hW HX hout
        rcases hA with rfl | ⟨rfl, rfl⟩ | ⟨rfl, rfl, rfl⟩
        · go_enter Try.func4, Try.ntmps4
          go_wp2_with fail
          refine HV.mono ?_
          rintro e w1 ⟨rfl, hb1⟩
          rw [← HW0.out] at hb1
          clear HV
          go_wp2_with fail
          refine (shown_any w1).mono ?_
          rintro e w2 ⟨rfl, hb2⟩
          go_wp2_with fail
          go_ret
          exact ⟨rfl, HKEY.out _ (hb1.trans (hb2.mono hb1.size))⟩
        · go_enter Try.func4, Try.ntmps4
          go_wp2_with fail
          refine HV.mono ?_
          rintro e w1 ⟨rfl, hb1⟩
          rw [← HW0.out] at hb1
          clear HV
          go_wp2_with fail
          refine (shown_any w1).mono ?_
          rintro e w2 ⟨rfl, hb2⟩
          go_wp2_with fail
          go_ret
          exact ⟨rfl, HKEY.out _ (hb1.trans (hb2.mono hb1.size))⟩
        · go_enter Try.func4, Try.ntmps4
          go_wp2_with fail
          refine HV.mono ?_
          rintro e w1 ⟨rfl, hb1⟩
          rw [← HW0.out] at hb1
          clear HV
          go_wp2_with fail
          refine (shown_any w1).mono ?_
          rintro e w2 ⟨rfl, hb2⟩
          go_wp2_with fail
          go_ret
          exact ⟨rfl, HKEY.out _ (hb1.trans (hb2.mono hb1.size))⟩
      by_cases c1 : (20 : Int) < (os.length : Int)
      · exact tail true _ _ (decide_eq_true c1) rfl rfl (.inl rfl)
      · by_cases c2 : q < 0
        · exact tail false true _ (decide_eq_false c1) (decide_eq_true c2) rfl (.inr (.inl ⟨rfl, rfl⟩))
        · have c3 : 1099511627776 < q := Classical.byContradiction fun g => hout ⟨c1, c2, g⟩
          exact tail false false true (decide_eq_false c1) (decide_eq_false c2) (decide_eq_true c3) (.inr (.inr ⟨rfl, rfl, rfl⟩))
end Go.Proofs.Ytpifkoblcbjiiaa
