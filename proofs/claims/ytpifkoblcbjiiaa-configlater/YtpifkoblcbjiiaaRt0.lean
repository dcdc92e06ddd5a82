/- Proved: the contract of Routes. -/
import Derived.Test.YtpifkoblcbjiiaaSpd
import Derived.Test.YtpifkoblcbjiiaaCf4
namespace Go.Proofs.Ytpifkoblcbjiiaa
open Go.RowKit Go.Shelf
set_option linter.unusedVariables false

theorem Row.since {w0 w W : World} {v : Value} {l : List Int} (h : Row w W v l) (hb : Below w0.heap.size w0 w) : Row w0 W v l := by
  refine ⟨⟨h.1.1, ?_⟩, hb.trans (h.2.mono hb.size)⟩
  rcases h.1.2 with g | ⟨g, cap, cur, h1, h2, h3, h4⟩
  · exact .inl g
  · exact .inr ⟨g, cap, cur, h1, Nat.le_trans hb.size h2, h3, h4⟩
/-- Classes in a block of its own. -/
structure BoxA (w : World) (B : Nat) (a : Option Addr) (c : Nat) (l : List Int) : Prop where
  c0 : w.cell? ⟨B, 0, none⟩ = some (.slice a l.length c)
  ok : RdI w w.heap.size a l
theorem BoxA.below {w W : World} {B : Nat} {a : Option Addr} {c : Nat} {l : List Int} (h : BoxA w B a c l) (hb : Below w.heap.size w W) : BoxA W B a c l :=
  ⟨(hb.cell (p := ⟨B, 0, none⟩) (clt h.c0)).trans h.c0, h.ok.belo hb⟩
set_option maxRecDepth 100000 in
theorem isabove_any (w : World) (B : Nat) (a : Option Addr) (c : Nat) (l : List Int) (x : Int) (h : BoxA w B a c l) (hl : l.length ≤ 1000) :
    Calls Try.prog 31 #[.int .i64 x, .pointer (some ⟨B, 0, none⟩)] w fun e w' => e = .returned (.bool (decide (x ∈ l))) ∧ w = w' := by
  have C := contains_any w w.heap.size a c l x h.ok hl
  have x0 := h.c0
  obtain ⟨A, hA⟩ : ∃ A, decide (x ∈ l) = A := ⟨_, rfl⟩
  rw [hA] at C ⊢
  clear h hA
  go_enter Try.func31, Try.ntmps31
  go_wp2_with (go_at_call 32; refine C.mono ?_; rintro e w' ⟨rfl, rfl⟩)
  go_ret
  exact ⟨rfl, rfl⟩
set_option maxRecDepth 100000 in
set_option maxHeartbeats 1000000 in
theorem idxA_any (w : World) (a : Option Addr) (cp : Nat) (xs : List Int) (B : Nat) (a' : Option Addr) (c' : Nat) (l : List Int) (h : RdI w w.heap.size a xs) (hx : xs.length ≤ 1000) (hb : BoxA w B a' c' l) (hl : l.length ≤ 1000) :
    Calls Try.prog 54 #[.slice a xs.length cp, .func (.func 31) #[] #[.pointer (some ⟨B, 0, none⟩)]] w fun e w' => ∃ r : Int, e = .returned (.int .i64 r) ∧ decide (0 ≤ r) = xs.any (fun x => decide (x ∈ l)) ∧ w = w' := by
  have HRD : Hid _ := h
  have HB : Hid _ := hb
  have eg : ∀ args w, (callFunc 31 args).run Try.prog w = .ok (.enter 31 args) w := enters_of Try.func31 (by kernel_rfl) rfl
  clear h hb
  go_enter Try.func54, Try.ntmps54
  go_wp2_with fail
  go_loopw [8] (fun s8 wr => ∃ k : Nat, k ≤ xs.length ∧ s8 = .int .i64 k ∧ Hid (∀ i, i < k → nthI xs i ∉ l) ∧ wr = w) (fun s8 _ => xs.length - (intOf s8).toNat)
  case atStart => exact ⟨0, Nat.zero_le _, rfl, (fun i hi => absurd hi (Nat.not_lt_zero _) : ∀ i, i < 0 → nthI xs i ∉ l), rfl⟩
  case round =>
    obtain ⟨k, hk, rfl, HJ, rfl⟩ := hrel
    by_cases hkl : k < xs.length
    · have hk' : (k : Int) < (xs.length : Int) := by omega
      obtain ⟨b, off, rfl, hb, hc⟩ := HRD.out (by intro e; simp [e] at hkl)
      have x0 := hc k hkl
      have hm : nthI xs k ∈ xs := (mem_nth xs _).2 ⟨k, hkl, rfl⟩
      obtain ⟨x, hxe⟩ : ∃ x, nthI xs k = x := ⟨_, rfl⟩
      rw [hxe] at x0 hm
      have C := isabove_any wr B a' c' l x HB.out hl
      have HXE : Hid _ := hxe
      have HM : Hid _ := hm
      clear hxe hm hc
      by_cases hin : x ∈ l
      · rw [decide_eq_true hin] at C
        have HBT : Hid _ := hin
        clear hin
        go_wp2_with (go_at_call 31; refine C.mono ?_; rintro e w' ⟨rfl, rfl⟩)
        go_ret
        refine ⟨_, rfl, ?_, rfl⟩
        rw [List.any_eq_true.2 ⟨_, HM.out, decide_eq_true HBT.out⟩]
        simp
      · rw [decide_eq_false hin] at C
        have HBT : Hid _ := hin
        clear hin
        go_wp2_with (go_at_call 31; refine C.mono ?_; rintro e w' ⟨rfl, rfl⟩)
        go_roundw
        case rel =>
          refine ⟨k + 1, by omega, by go_num, ?_, by first | rfl | trivial⟩
          refine (fun i hi => ?_ : ∀ i, i < k + 1 → nthI xs i ∉ l)
          by_cases e : i = k
          · rw [e, HXE.out]; exact HBT.out
          · exact HJ.out i (by omega)
        case measure => simp [intOf]; omega
    · obtain rfl : k = xs.length := by omega
      go_wp2
      go_ret
      refine ⟨_, rfl, ?_, rfl⟩
      rw [List.any_eq_false.2 (fun x hx => by obtain ⟨i, hi, rfl⟩ := (mem_nth xs x).1 hx; simpa using HJ.out i hi)]
      rfl
set_option maxRecDepth 100000 in
theorem contA_any (w : World) (a : Option Addr) (cp : Nat) (xs : List Int) (B : Nat) (a' : Option Addr) (c' : Nat) (l : List Int) (h : RdI w w.heap.size a xs) (hx : xs.length ≤ 1000) (hb : BoxA w B a' c' l) (hl : l.length ≤ 1000) :
    Calls Try.prog 33 #[.slice a xs.length cp, .func (.func 31) #[] #[.pointer (some ⟨B, 0, none⟩)]] w fun e w' => e = .returned (.bool (xs.any (fun x => decide (x ∈ l)))) ∧ w = w' := by
  have I := idxA_any w a cp xs B a' c' l h hx hb hl
  obtain ⟨A, hA⟩ : ∃ A, xs.any (fun x => decide (x ∈ l)) = A := ⟨_, rfl⟩
  rw [hA] at I ⊢
  clear hA h hb
  go_enter Try.func33, Try.ntmps33
  go_wp2_with (go_at_call 54; refine I.mono ?_; rintro e w' ⟨r, rfl, hr, rfl⟩; have HR : Hid _ := hr; clear hr I)
  go_ret
  refine ⟨?_, rfl⟩
  have e := HR.out
  simp [e, Array.getD]

set_option maxRecDepth 100000 in
set_option maxHeartbeats 2000000 in
theorem routes_any (w : World) (d : Wd) (f c : Int) (h : Ww w d) :
    Calls Try.prog 13 #[wv d, .int .i64 f, .int .i64 c] w fun e w' => ∃ v, e = .returned v ∧ Row w w' v (rts d f c) := by
  obtain ⟨i0, hi, hz0, hz1, hz2⟩ := info_parts info3
  obtain ⟨W0, hW0⟩ : ∃ W0, W0 = w.alloc (.cells (wcs d) 25) := ⟨_, rfl⟩
  have hb0 : Below w.heap.size w W0 := by rw [hW0]; exact (Below.refl _ w).alloc (Nat.le_refl _) _
  have BX : BoxW W0 w.heap.size d := by rw [hW0]; exact BoxW.new h
  obtain ⟨B, hB⟩ : ∃ B, w.heap.size = B := ⟨_, rfl⟩
  rw [hB] at BX
  have HBE : Hid _ := hB
  have HW0 : Hid _ := hW0
  have HX : Hid _ := BX
  have x0 := BX.c0
  have lB := clt x0
  dsimp only at lB
  have CA := above_any W0 d.pa d.pc d.ps c BX.ok.p (by have := h.pl; omega)
  have hal := abv_len d.ps c
  obtain ⟨ab, hab⟩ : ∃ ab, abv d.ps c = ab := ⟨_, rfl⟩
  rw [hab] at CA hal
  have HAB : Hid _ := hab
  rw [hW0] at x0 CA
  have hfl := h.fl
  have HLT : Hid _ := h.lt
  dsimp only [wcs] at x0 CA HW0
  dsimp only [wv]
  obtain ⟨fa, hfa⟩ : ∃ fa, d.fa = fa := ⟨_, rfl⟩
  have HFA : Hid _ := hfa
  simp only [hfa] at x0 CA HW0 ⊢
  clear h hW0 BX hfa hab
  go_enter Try.func13, Try.ntmps13
  go_wp2_with fail
  refine CA.mono ?_
  rintro e w1 ⟨a', c', rfl, hR, hb1⟩
  rw [← HW0.out] at hb1
  have hba : Below w1.heap.size w1 (w1.alloc (.cells #[.slice a' ab.length c'] 22)) := (Below.refl _ w1).alloc (Nat.le_refl _) _
  obtain ⟨W2, hW2⟩ : ∃ W2, W2 = w1.alloc (.cells #[.slice a' ab.length c'] 22) := ⟨_, rfl⟩
  have HBA : Hid (BoxA W2 w1.heap.size a' c' ab) := by
    rw [hW2]
    exact ⟨by rw [World.cell?_alloc_new]; rfl, RdI.belo hR hba⟩
  have hb2 : Below W0.heap.size W0 W2 := by rw [hW2]; exact hb1.trans (hba.mono hb1.size)
  have HX2 : Hid _ := (HX.out).below hb2
  have y1 := (HX2.out).c1
  rw [HFA.out] at y1
  have HW2 : Hid _ := hW2
  obtain ⟨A1, hA1⟩ : ∃ A1, w1.heap.size = A1 := ⟨_, rfl⟩
  rw [hA1] at HBA
  have HA1 : Hid _ := hA1
  rw [hW2] at y1
  clear CA x0 hR hba hW2
  go_wp2_with fail
  rw [← HW2.out]
  have lB2 : B < W2.heap.size := Nat.lt_of_lt_of_le lB hb2.size
  clear hB hA1 y1
  go_loopw [20, 9] (fun s20 s9 wr => ∃ k : Nat, k ≤ d.fs.length ∧ s20 = .int .i64 k ∧ Hid (Row W2 wr s9 (rtsF d f c k)) ∧ Below W2.heap.size W2 wr) (fun s20 _ _ => d.fs.length - (intOf s20).toNat)
  case atStart => exact ⟨0, Nat.zero_le _, rfl, (Row.nil W2 : Row W2 _ _ []), Below.refl _ _⟩
  case round =>
    obtain ⟨k, hk, rfl, HW, hbw⟩ := hrel
    by_cases hkl : k < d.fs.length
    · have hk' : (k : Int) < (d.fs.length : Int) := by omega
      obtain ⟨g, hg⟩ : ∃ g, nthF d.fs k = g := ⟨_, rfl⟩
      have BXr := (HX2.out).below hbw
      have hRF := BXr.ok.f
      rw [HFA.out] at hRF
      obtain ⟨b, off, rfl, hbb, z0, z1, z2, z3, z4, z5, z6⟩ := hRF.cells hkl hg
      have hok := hRF.at hkl hg
      have hlt := HLT.out g (hg ▸ nthF_mem hkl)
      have HRE : Hid _ := hg
      have hbn : Below wr.heap.size wr (wr.alloc (.cells (fcs g) 42)) := (Below.refl _ wr).alloc (Nat.le_refl _) _
      have C := contA_any _ g.sa g.sc g.ss A1 a' c' ab (hok.below hbn).s (by have := hlt.s; omega) (((HBA.out).below hbw).below hbn) (by omega)
      have hhr : Hid (hrs d c g = g.ss.any (fun x => decide (x ∈ ab))) := by
        show hrs d c g = _
        unfold hrs
        rw [HAB.out]
      obtain ⟨hh, hhe⟩ : ∃ hh, g.ss.any (fun x => decide (x ∈ ab)) = hh := ⟨_, rfl⟩
      rw [hhe] at C hhr
      dsimp only [fcs] at C
      have HBN : Hid _ := hbn
      have hpl : (rtsF d f c k).length ≤ 20 := Nat.le_trans (rtsF_len d f c k) (by omega)
      clear hg hRF hok hlt BXr hbn hhe
      by_cases hkf : (k : Int) = f
      · have kb : ((k : Int) != f) = false := by simpa using hkf
        have HKF : Hid _ := hkf
        clear hkf
        go_wp2_with fail
        go_roundw
        case rel =>
          refine ⟨k + 1, by omega, by go_num, ?_, hbw.trans ((HBN.out).mono hbw.size)⟩
          show Row W2 _ _ (rtsF d f c (k + 1))
          rw [rtsF_own HKF.out]
          exact Row.below HW.out HBN.out
        case measure => simp [intOf]; omega
      · have kb : ((k : Int) != f) = true := by simpa using hkf
        have HKF : Hid _ := hkf
        clear hkf
        cases hh with
        | false =>
          go_wp2_with fail
          refine C.mono ?_
          rintro e w' ⟨rfl, rfl⟩
          clear C
          go_wp2_with fail
          go_roundw
          case rel =>
            refine ⟨k + 1, by omega, by go_num, ?_, hbw.trans ((HBN.out).mono hbw.size)⟩
            show Row W2 _ _ (rtsF d f c (k + 1))
            rw [rtsF_not (by rw [HRE.out]; exact hhr.out)]
            exact Row.below HW.out HBN.out
          case measure => simp [intOf]; omega
        | true =>
          go_wp2_with fail
          refine C.mono ?_
          rintro e w' ⟨rfl, rfl⟩
          clear C
          obtain ⟨W3, hW3⟩ : ∃ W3, W3 = wr.alloc (.cells (fcs g) 42) := ⟨_, rfl⟩
          have HB3 : Hid (Below wr.heap.size wr W3) := by rw [hW3]; exact HBN.out
          have HW3 : Hid _ := Row.below HW.out HB3.out
          have hsz := (Row.below HW.out HB3.out).2.size
          rw [← hW3]
          clear hW3 HBN
          go_wp2_with (at_builtin; refine wpList_append_own _ rfl _ _ 22 rfl W2.heap.size 3 i0 (.int .i64 0) 1 8 Try.underlying22 hi hz0 hz1 hz2 rfl (by decide) _ _ _ rfl (HW3.out.1.alloc _) ⟨W3.heap.size, 0, none⟩ 1 1 [.int .i64 k] rfl rfl (cell_one_new _ _ _) (by simp [Value.oneCell']) (by unfold maxLen; omega) (by omega) (by simp; omega) ?_)
          intro v' w4 hown' hgrow _
          have HW4 : Hid _ := Row.app HW3.out hown' hgrow
          have hb4 : Below W2.heap.size W3 w4 := ((Below.refl W2.heap.size W3).alloc (Nat.le_trans hbw.size (HB3.out).size) _).grown hgrow (by have := hbw.size; have := (HB3.out).size; simp; omega) (fun k e => row_ge HW3.out.1 e)
          clear hown' hgrow
          go_wp2_with fail
          go_roundw
          case rel =>
            refine ⟨k + 1, by omega, by go_num, ?_, hbw.trans (((HB3.out).mono hbw.size).trans hb4)⟩
            show Row W2 _ _ (rtsF d f c (k + 1))
            rw [rtsF_yes HKF.out (by rw [HRE.out]; exact hhr.out)]
            exact HW4.out
          case measure => simp [intOf]; omega
    · obtain rfl : k = d.fs.length := by omega
      go_wp2_with fail
      go_ret
      exact ⟨_, rfl, Row.since HW.out (hb0.trans (hb2.mono hb0.size))⟩
end Go.Proofs.Ytpifkoblcbjiiaa
