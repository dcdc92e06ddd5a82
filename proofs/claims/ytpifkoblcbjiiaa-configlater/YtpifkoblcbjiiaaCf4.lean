/- Proved: the contract of Check: the first error, and whose it is. -/
import Derived.Test.YtpifkoblcbjiiaaCf3
namespace Go.Proofs.Ytpifkoblcbjiiaa
open Go.RowKit Go.Shelf
set_option linter.unusedVariables false

/-- A federation in a block of its own. -/
structure BoxW (w : World) (B : Nat) (d : Wd) : Prop where
  c0 : w.cell? ⟨B, 0, none⟩ = some (.slice d.pa d.ps.length d.pc)
  c1 : w.cell? ⟨B, 1, none⟩ = some (.slice d.fa d.fs.length d.fc)
  c2 : w.cell? ⟨B, 2, none⟩ = some (.int .i64 d.en)
  ok : Ww w d
theorem BoxW.below {w W : World} {B : Nat} {d : Wd} (h : BoxW w B d) (hb : Below w.heap.size w W) : BoxW W B d := by
  have l := clt h.c0
  exact ⟨(hb.cell (p := ⟨B, 0, none⟩) l).trans h.c0, (hb.cell (p := ⟨B, 1, none⟩) l).trans h.c1, (hb.cell (p := ⟨B, 2, none⟩) l).trans h.c2, h.ok.below hb⟩
abbrev wcs (d : Wd) : Array Value := #[.slice d.pa d.ps.length d.pc, .slice d.fa d.fs.length d.fc, .int .i64 d.en]
theorem BoxW.new {w : World} {d : Wd} (h : Ww w d) : BoxW (w.alloc (.cells (wcs d) 25)) w.heap.size d := by
  refine ⟨?_, ?_, ?_, h.below ((Below.refl _ w).alloc (Nat.le_refl _) _)⟩ <;> (rw [World.cell?_alloc_new]; rfl)

set_option maxRecDepth 100000 in
theorem all1_any (w : World) (B : Nat) (d : Wd) (h : BoxW w B d) :
    Calls Try.prog 22 #[.pointer (some ⟨B, 0, none⟩)] w fun e w' => e = .returned (.int .i64 (chk d.ps)) ∧ Below w.heap.size w w' := by
  have x := h.c0
  have C := tcheck_any w w.heap.size d.pa d.pc d.ps h.ok.p (by have := h.ok.pl; omega)
  obtain ⟨E, hE⟩ : ∃ E, chk d.ps = E := ⟨_, rfl⟩
  rw [hE] at C ⊢
  clear h hE
  go_enter Try.func22, Try.ntmps22
  go_wp2_with (go_at_call 23; refine C.mono ?_; rintro e w' ⟨rfl, rfl⟩)
  go_ret
  exact ⟨rfl, Below.refl _ _⟩
set_option maxRecDepth 100000 in
theorem all2_any (w : World) (B : Nat) (d : Wd) (h : BoxW w B d) :
    Calls Try.prog 25 #[.pointer (some ⟨B, 0, none⟩)] w fun e w' => e = .returned (.bool (wi d.en 0 1099511627776 && wi d.fs.length 1 8)) ∧ Below w.heap.size w w' := by
  have x1 := h.c1
  have x2 := h.c2
  clear h
  cases hx : wi d.en 0 1099511627776 with
  | false =>
    go_enter Try.func25, Try.ntmps25
    go_wp2_with (go_at_call 26; refine (within_any _ _ _ _).mono ?_; rintro e w' ⟨rfl, rfl⟩)
    go_ret
    exact ⟨rfl, Below.refl _ _⟩
  | true =>
    go_enter Try.func25, Try.ntmps25
    go_wp2_with (go_at_call 26; refine (within_any _ _ _ _).mono ?_; rintro e w' ⟨rfl, rfl⟩)
    go_ret
    exact ⟨by cases wi d.fs.length 1 8 <;> rfl, Below.refl _ _⟩
theorem tri_a1 {w : World} {B : Nat} {d : Wd} (h : BoxW w B d) : Tri w (.func (.func 22) #[] #[.pointer (some ⟨B, 0, none⟩)]) (chk d.ps) :=
  ⟨_, _, rfl, enters_of Try.func22 (by kernel_rfl) rfl, fun W hW => all1_any W B d (h.below hW)⟩
theorem tri_a2 {w : World} {B : Nat} {d : Wd} (h : BoxW w B d) : TriB w (.func (.func 25) #[] #[.pointer (some ⟨B, 0, none⟩)]) (wi d.en 0 1099511627776 && wi d.fs.length 1 8) :=
  ⟨_, _, rfl, enters_of Try.func25 (by kernel_rfl) rfl, fun W hW => all2_any W B d (h.below hW)⟩

set_option maxRecDepth 100000 in
set_option maxHeartbeats 1000000 in
theorem wcheck_any (w : World) (d : Wd) (h : Ww w d) :
    Calls Try.prog 10 #[wv d] w fun e w' => e = .returned (.tuple #[.int .i64 (wldE d).1, .int .i64 (wldE d).2]) ∧ Below w.heap.size w w' := by
  have hb0 : Hid (Below w.heap.size w (w.alloc (.cells (wcs d) 25))) := (Below.refl _ w).alloc (Nat.le_refl _) _
  have BX := BoxW.new h
  obtain ⟨E, hE⟩ : ∃ E, allE d = E := ⟨_, rfl⟩
  have HE : Hid _ := hE
  have U1 := unless_tri _ 1 _ _ (tri_a2 BX)
  have HX : Hid _ := BX
  have hpl : d.ps.length ≤ 1000 := by have := h.pl; omega
  have hfl := h.fl
  have HLT : Hid _ := h.lt
  obtain ⟨B, hB⟩ : ∃ B, w.heap.size = B := ⟨_, rfl⟩
  simp only [hB] at U1 HX
  dsimp only [wcs] at U1 hb0 HX
  have HBE : Hid _ := hB
  obtain ⟨fa, hfa⟩ : ∃ fa, d.fa = fa := ⟨_, rfl⟩
  have HFA : Hid _ := hfa
  dsimp only [wv]
  simp only [hfa] at U1 hb0 HX ⊢
  clear h hE BX hfa
  go_enter Try.func10, Try.ntmps10
  go_wp2_with fail
  refine U1.mono ?_
  rintro e w1 ⟨k1, bs1, rfl, hT1, hb1⟩
  have hbw1 := (hb0.out).trans (hb1.mono (hb0.out).size)
  have HX1 : Hid _ := (HX.out).below hb1
  have F := first2 (tri_a1 HX1.out) hT1
  rw [show fstE [chk d.ps, unl (wi d.en 0 1099511627776 && wi d.fs.length 1 8) 1] = E from HE.out] at F
  clear hT1 hb1 U1
  by_cases e0 : E = 0
  · subst e0
    go_wp2_with fail
    refine F.mono ?_
    rintro e w2 ⟨rfl, hb2⟩
    have hbw2 := hbw1.trans (hb2.mono hbw1.size)
    have HX2 : Hid _ := (HX1.out).below hb2
    have y0 := (HX2.out).c0
    have y1 := (HX2.out).c1
    rw [HFA.out] at y1
    have lB := clt y0
    dsimp only at lB
    clear F
    go_wp2_with fail
    clear hB y0 y1
    go_loopw [19] (fun s19 wr => ∃ k : Nat, k ≤ d.fs.length ∧ s19 = .int .i64 k ∧ Hid (∀ i, i < k → fedE (nthF d.fs i) d.ps.length = 0) ∧ Below w2.heap.size w2 wr) (fun s19 _ => d.fs.length - (intOf s19).toNat)
    case atStart => exact ⟨0, Nat.zero_le _, rfl, (fun i hi => absurd hi (Nat.not_lt_zero _) : ∀ i, i < 0 → fedE (nthF d.fs i) d.ps.length = 0), Below.refl _ _⟩
    case round =>
      obtain ⟨k, hk, rfl, HJ, hbw⟩ := hrel
      by_cases hkl : k < d.fs.length
      · have hk' : (k : Int) < (d.fs.length : Int) := by omega
        obtain ⟨f, hf⟩ : ∃ f, nthF d.fs k = f := ⟨_, rfl⟩
        have BXr := (HX2.out).below hbw
        have hRF := BXr.ok.f
        rw [HFA.out] at hRF
        obtain ⟨b, off, rfl, hbb, x0, x1, x2, x3, x4, x5, x6⟩ := hRF.cells hkl hf
        have hok := hRF.at hkl hf
        have hlt := HLT.out f (hf ▸ nthF_mem hkl)
        have y0 := BXr.c0
        have HRE : Hid _ := hf
        have hb1 : Below wr.heap.size wr (wr.alloc (.cells (fcs f) 42)) := (Below.refl _ wr).alloc (Nat.le_refl _) _
        have C := fed_any _ f d.ps.length hpl (hok.below hb1) hlt
        obtain ⟨E, hE⟩ : ∃ E, fedE f d.ps.length = E := ⟨_, rfl⟩
        rw [hE] at C
        have HE2 : Hid _ := hE
        have HB1 : Hid _ := hb1
        have lBr := clt y0
        dsimp only at lBr
        dsimp only [fcs, fv] at C
        clear hf hRF hok hlt BXr hE hb1
        by_cases e0 : E = 0
        · subst e0
          go_wp2_with fail
          refine C.mono ?_
          rintro e w4 ⟨rfl, hb4⟩
          have hb5 : Below w2.heap.size w2 w4 := hbw.trans (((HB1.out).trans (hb4.mono (HB1.out).size)).mono hbw.size)
          clear C
          go_wp2
          go_roundw
          case rel =>
            refine ⟨k + 1, by omega, by go_num, ?_, hb5⟩
            refine (fun i hi => ?_ : ∀ i, i < k + 1 → fedE (nthF d.fs i) d.ps.length = 0)
            by_cases e : i = k
            · rw [e, HRE.out, HE2.out]
            · exact HJ.out i (by omega)
          case measure => simp [intOf]; omega
        · have ke : (E == 0) = false := by simpa using e0
          go_wp2_with fail
          refine C.mono ?_
          rintro e w4 ⟨rfl, hb4⟩
          have hb5 : Below w2.heap.size w2 w4 := hbw.trans (((HB1.out).trans (hb4.mono (HB1.out).size)).mono hbw.size)
          clear C
          go_wp2
          go_ret2
          refine ⟨?_, hbw2.trans (hb5.mono hbw2.size)⟩
          rw [show wldE d = ((k : Int), E) by unfold wldE; rw [HE.out, if_pos rfl, fedsE_at 0 HJ.out hkl (by rw [HRE.out]; exact HE2.out) e0, Nat.zero_add]]
          rfl
      · obtain rfl : k = d.fs.length := by omega
        go_wp2
        go_ret2
        refine ⟨?_, hbw2.trans (hbw.mono hbw2.size)⟩
        rw [show wldE d = (-1, 0) by unfold wldE; rw [HE.out, if_pos rfl, fedsE_no 0 HJ.out]]
        rfl
  · have ke : (E == 0) = false := by simpa using e0
    go_wp2_with fail
    refine F.mono ?_
    rintro e w2 ⟨rfl, hb2⟩
    have hbw2 := hbw1.trans (hb2.mono hbw1.size)
    clear F
    go_wp2_with fail
    go_ret2
    refine ⟨?_, hbw2⟩
    rw [show wldE d = (-1, E) by unfold wldE; rw [HE.out, if_neg e0]]
    rfl
end Go.Proofs.Ytpifkoblcbjiiaa
