/- Proved: contracts of the trials of what a rule sends. -/
import Derived.Test.YtpifkoblcbjiiaaFds
namespace Go.Proofs.Ytpifkoblcbjiiaa
open Go.RowKit Go.Shelf
set_option linter.unusedVariables false

/-- A federate in a block of its own. -/
structure BoxF (w : World) (B : Nat) (f : Fd) : Prop where
  c0 : w.cell? ⟨B, 0, none⟩ = some (.int .i64 f.kd)
  c1 : w.cell? ⟨B, 1, none⟩ = some (.int .i64 f.lk)
  c2 : w.cell? ⟨B, 2, none⟩ = some (.int .i64 f.st)
  c3 : w.cell? ⟨B, 3, none⟩ = some (.slice f.ra f.rs.length f.rc)
  c4 : w.cell? ⟨B, 4, none⟩ = some (.slice f.pa f.ps.length f.pc)
  c5 : w.cell? ⟨B, 5, none⟩ = some (.slice f.sa f.ss.length f.sc)
  c6 : w.cell? ⟨B, 6, none⟩ = some (.slice f.ia f.is.length f.ic)
  ok : okF w f
  lt : LtF f
theorem BoxF.below {w W : World} {B : Nat} {f : Fd} (h : BoxF w B f) (hb : Below w.heap.size w W) : BoxF W B f := by
  have l := clt h.c0
  exact ⟨(hb.cell (p := ⟨B, 0, none⟩) l).trans h.c0, (hb.cell (p := ⟨B, 1, none⟩) l).trans h.c1, (hb.cell (p := ⟨B, 2, none⟩) l).trans h.c2, (hb.cell (p := ⟨B, 3, none⟩) l).trans h.c3, (hb.cell (p := ⟨B, 4, none⟩) l).trans h.c4, (hb.cell (p := ⟨B, 5, none⟩) l).trans h.c5, (hb.cell (p := ⟨B, 6, none⟩) l).trans h.c6, h.ok.below hb, h.lt⟩
theorem BoxF.new {w : World} {f : Fd} (h : okF w f) (hl : LtF f) : BoxF (w.alloc (.cells (fcs f) 42)) w.heap.size f := by
  have hb : Below w.heap.size w (w.alloc (.cells (fcs f) 42)) := (Below.refl _ w).alloc (Nat.le_refl _) _
  refine ⟨?_, ?_, ?_, ?_, ?_, ?_, ?_, h.below hb, hl⟩ <;> (rw [World.cell?_alloc_new]; rfl)
/-- A send in a block of its own. -/
structure BoxO (w : World) (B : Nat) (o : O) : Prop where
  c0 : w.cell? ⟨B, 0, none⟩ = some (.int .i64 o.1)
  c1 : w.cell? ⟨B, 1, none⟩ = some (.int .i64 o.2.1)
  c2 : w.cell? ⟨B, 2, none⟩ = some (.int .i64 o.2.2)
theorem BoxO.below {w W : World} {B : Nat} {o : O} (h : BoxO w B o) (hb : Below w.heap.size w W) : BoxO W B o := by
  have l := clt h.c0
  exact ⟨(hb.cell (p := ⟨B, 0, none⟩) l).trans h.c0, (hb.cell (p := ⟨B, 1, none⟩) l).trans h.c1, (hb.cell (p := ⟨B, 2, none⟩) l).trans h.c2⟩
theorem BoxO.new (w : World) (o : O) : BoxO (w.alloc (.cells #[.int .i64 o.1, .int .i64 o.2.1, .int .i64 o.2.2] 55)) w.heap.size o := by
  refine ⟨?_, ?_, ?_⟩ <;> (rw [World.cell?_alloc_new]; rfl)

theorem unless_tri (w : World) (E : Int) (v : Value) (b : Bool) (h : TriB w v b) :
    Calls Try.prog 24 #[.int .i64 E, v] w fun e w' => ∃ k bs, e = .returned (.func (.func k) #[] bs) ∧ Tri w' (.func (.func k) #[] bs) (unl b E) ∧ Below w.heap.size w w' := by
  refine (unless_any w E v b h).mono ?_
  rintro e w' ⟨u, rfl, hT, hb, _⟩
  obtain ⟨k, bs, rfl, h1, h2⟩ := hT
  exact ⟨k, bs, rfl, ⟨k, bs, rfl, h1, h2⟩, hb⟩
theorem rdT2 {w : World} {v1 v2 : Value} {e1 e2 : Int} (h1 : Tri w v1 e1) (h2 : Tri w v2 e2) : RdT (w.alloc (.cells #[v1, v2] 60)) (some ⟨w.heap.size, 0, none⟩) [e1, e2] := fun _ => by
  have hb : Below w.heap.size w (w.alloc (.cells #[v1, v2] 60)) := (Below.refl _ w).alloc (Nat.le_refl _) _
  refine ⟨w.heap.size, 0, rfl, by simp, fun i hi => ?_⟩
  have hi2 : i < 2 := by simpa using hi
  rcases (by omega : i = 0 ∨ i = 1) with rfl | rfl
  · exact ⟨v1, by rw [World.cell?_alloc_new]; rfl, h1.below hb⟩
  · exact ⟨v2, by rw [World.cell?_alloc_new]; rfl, h2.below hb⟩

theorem first2 {w : World} {v1 v2 : Value} {e1 e2 : Int} (h1 : Tri w v1 e1) (h2 : Tri w v2 e2) :
    Calls Try.prog 21 #[.slice (some ⟨w.heap.size, 0, none⟩) 2 2] (w.alloc (.cells #[v1, v2] 60)) fun e w' => e = .returned (.int .i64 (fstE [e1, e2])) ∧ Below w.heap.size w w' := by
  have hb : Below w.heap.size w (w.alloc (.cells #[v1, v2] 60)) := (Below.refl _ w).alloc (Nat.le_refl _) _
  exact (first_any _ _ 2 [e1, e2] (rdT2 h1 h2) (by simp)).mono (fun e w' g => ⟨g.1, hb.trans (g.2.mono hb.size)⟩)

set_option maxRecDepth 100000 in
theorem sends1_any (w : World) (B1 B2 : Nat) (f : Fd) (o : O) (h1 : BoxF w B1 f) (h2 : BoxO w B2 o) :
    Calls Try.prog 76 #[.pointer (some ⟨B1, 0, none⟩), .pointer (some ⟨B2, 0, none⟩)] w fun e w' => e = .returned (.bool (decide (o.1 ∈ f.ps))) ∧ Below w.heap.size w w' := by
  have C := contains_any w w.heap.size f.pa f.pc f.ps o.1 h1.ok.p (by have := h1.lt.p; omega)
  have x4 := h1.c4
  have y0 := h2.c0
  obtain ⟨B, hB⟩ : ∃ B, decide (o.1 ∈ f.ps) = B := ⟨_, rfl⟩
  rw [hB] at C ⊢
  clear h1 h2 hB
  go_enter Try.func76, Try.ntmps76
  go_wp2_with (go_at_call 32; refine C.mono ?_; rintro e w' ⟨rfl, rfl⟩)
  go_ret
  exact ⟨rfl, Below.refl _ _⟩
set_option maxRecDepth 100000 in
theorem sends2_any (w : World) (B1 B2 : Nat) (f : Fd) (o : O) (h1 : BoxF w B1 f) (h2 : BoxO w B2 o) :
    Calls Try.prog 77 #[.pointer (some ⟨B2, 0, none⟩), .pointer (some ⟨B1, 0, none⟩)] w fun e w' => e = .returned (.bool (decide (f.lk ≤ o.2.1))) ∧ Below w.heap.size w w' := by
  have x1 := h1.c1
  have y1 := h2.c1
  clear h1 h2
  go_enter Try.func77, Try.ntmps77
  go_wp2
  go_ret
  exact ⟨rfl, Below.refl _ _⟩
theorem tri_s1 {w : World} {B1 B2 : Nat} {f : Fd} {o : O} (h1 : BoxF w B1 f) (h2 : BoxO w B2 o) : TriB w (.func (.func 76) #[] #[.pointer (some ⟨B1, 0, none⟩), .pointer (some ⟨B2, 0, none⟩)]) (decide (o.1 ∈ f.ps)) :=
  ⟨_, _, rfl, enters_of Try.func76 (by kernel_rfl) rfl, fun W hW => sends1_any W B1 B2 f o (h1.below hW) (h2.below hW)⟩
theorem tri_s2 {w : World} {B1 B2 : Nat} {f : Fd} {o : O} (h1 : BoxF w B1 f) (h2 : BoxO w B2 o) : TriB w (.func (.func 77) #[] #[.pointer (some ⟨B2, 0, none⟩), .pointer (some ⟨B1, 0, none⟩)]) (decide (f.lk ≤ o.2.1)) :=
  ⟨_, _, rfl, enters_of Try.func77 (by kernel_rfl) rfl, fun W hW => sends2_any W B1 B2 f o (h1.below hW) (h2.below hW)⟩

theorem nth_mapO (g : O → Int) (l : List O) {i : Nat} (h : i < l.length) : nthI (l.map g) i = g (nthO l i) := by simp [nthI, nthO, h]
theorem nth_mapR (g : Rl → Int) (l : List Rl) {i : Nat} (h : i < l.length) : nthI (l.map g) i = g (nthR l i) := by simp [nthI, nthR, h]
theorem sndsE_at {ps : List Int} {lk : Int} {os : List O} {k : Nat} {e : Int} (h : ∀ i, i < k → sndE ps lk (nthO os i) = 0) (hk : k < os.length) (he : sndE ps lk (nthO os k) = e) (h0 : e ≠ 0) : sndsE ps lk os = e :=
  fstE_at (k := k) (fun i hi => by rw [nth_mapO _ _ (by omega)]; exact h i hi) (by simpa using hk) (by rw [nth_mapO _ _ hk]; exact he) h0
theorem sndsE_no {ps : List Int} {lk : Int} {os : List O} (h : ∀ i, i < os.length → sndE ps lk (nthO os i) = 0) : sndsE ps lk os = 0 :=
  fstE_no (fun i hi => by have hi' : i < os.length := (by simpa using hi); rw [nth_mapO _ _ hi']; exact h i hi')
theorem rulsE_at {ps : List Int} {lk : Int} {m : Nat} {rs : List Rl} {k : Nat} {e : Int} (h : ∀ i, i < k → rulE ps lk m (nthR rs i) = 0) (hk : k < rs.length) (he : rulE ps lk m (nthR rs k) = e) (h0 : e ≠ 0) : rulsE ps lk m rs = e :=
  fstE_at (k := k) (fun i hi => by rw [nth_mapR _ _ (by omega)]; exact h i hi) (by simpa using hk) (by rw [nth_mapR _ _ hk]; exact he) h0
theorem rulsE_no {ps : List Int} {lk : Int} {m : Nat} {rs : List Rl} (h : ∀ i, i < rs.length → rulE ps lk m (nthR rs i) = 0) : rulsE ps lk m rs = 0 :=
  fstE_no (fun i hi => by have hi' : i < rs.length := (by simpa using hi); rw [nth_mapR _ _ hi']; exact h i hi')

set_option maxRecDepth 100000 in
set_option maxHeartbeats 1000000 in
theorem sends_any (w : World) (f : Fd) (a : Option Addr) (c : Nat) (os : List O) (h : okF w f) (hl : LtF f) (hs : RdO w a os) (hsl : os.length ≤ 1000) :
    Calls Try.prog 64 #[fv f, .slice a os.length c] w fun e w' => e = .returned (.int .i64 (sndsE f.ps f.lk os)) ∧ Below w.heap.size w w' := by
  obtain ⟨W0, hW0⟩ : ∃ W0, W0 = w.alloc (.cells (fcs f) 42) := ⟨_, rfl⟩
  have hb0 : Hid (Below w.heap.size w W0) := by rw [hW0]; exact (Below.refl _ w).alloc (Nat.le_refl _) _
  have HBX : Hid (BoxF W0 w.heap.size f) := by rw [hW0]; exact BoxF.new h hl
  have HS : Hid (RdO W0 a os) := hs.below hb0.out
  obtain ⟨B, hB⟩ : ∃ B, w.heap.size = B := ⟨_, rfl⟩
  have HW0 : Hid _ := hW0
  simp only [hB] at HBX
  have HBE : Hid _ := hB
  clear h hl hs hW0
  dsimp only [fv]
  go_enter Try.func64, Try.ntmps64
  go_wp2_with fail
  dsimp only [fcs] at HW0
  rw [← HW0.out]
  clear hB
  go_loopw [10] (fun s10 wr => ∃ k : Nat, k ≤ os.length ∧ s10 = .int .i64 k ∧ Hid (∀ i, i < k → sndE f.ps f.lk (nthO os i) = 0) ∧ Below W0.heap.size W0 wr) (fun s10 _ => os.length - (intOf s10).toNat)
  case atStart => exact ⟨0, Nat.zero_le _, rfl, (fun i hi => absurd hi (Nat.not_lt_zero _) : ∀ i, i < 0 → sndE f.ps f.lk (nthO os i) = 0), Below.refl _ _⟩
  case round =>
    obtain ⟨k, hk, rfl, HJ, hbw⟩ := hrel
    by_cases hkl : k < os.length
    · have hk' : (k : Int) < (os.length : Int) := by omega
      obtain ⟨o, ho⟩ : ∃ o, nthO os k = o := ⟨_, rfl⟩
      obtain ⟨b, off, rfl, hbb, x0, x1, x2⟩ := (RdO.below HS.out hbw).cells hkl ho
      have HRE : Hid _ := ho
      clear ho
      have hb1 : Below wr.heap.size wr (wr.alloc (.cells #[.int .i64 o.1, .int .i64 o.2.1, .int .i64 o.2.2] 55)) := (Below.refl _ wr).alloc (Nat.le_refl _) _
      have HF1 : Hid _ := ((HBX.out).below hbw).below hb1
      have HO1 : Hid _ := BoxO.new wr o
      have U1 := unless_tri _ 81 _ _ (tri_s1 HF1.out HO1.out)
      have HB1 : Hid (Below W0.heap.size W0 _) := hbw.trans (hb1.mono hbw.size)
      clear hb1
      go_wp2_with fail
      refine U1.mono ?_
      rintro e w2 ⟨k1, bs1, rfl, hT1, hb2⟩
      have HF2 : Hid _ := (HF1.out).below hb2
      have HO2 : Hid _ := (HO1.out).below hb2
      have U2 := unless_tri w2 80 _ _ (tri_s2 HF2.out HO2.out)
      have HB2 : Hid _ := (HB1.out).trans (hb2.mono (HB1.out).size)
      have HT1 : Hid _ := hT1
      clear hT1 hb2 U1
      go_wp2_with fail
      refine U2.mono ?_
      rintro e w3 ⟨k2, bs2, rfl, hT2, hb3⟩
      have HB3 : Hid _ := (HB2.out).trans (hb3.mono (HB2.out).size)
      have F := first2 (Tri.below HT1.out hb3) hT2
      obtain ⟨E, hE⟩ : ∃ E, sndE f.ps f.lk o = E := ⟨_, rfl⟩
      rw [show fstE [unl (decide (o.1 ∈ f.ps)) 81, unl (decide (f.lk ≤ o.2.1)) 80] = E from hE] at F
      have HE : Hid _ := hE
      clear hT2 hb3 U2 hE
      by_cases e0 : E = 0
      · subst e0
        go_wp2_with fail
        refine F.mono ?_
        rintro e w4 ⟨rfl, hb4⟩
        have hb5 := (HB3.out).trans (hb4.mono (HB3.out).size)
        clear F
        go_wp2
        go_roundw
        case rel =>
          refine ⟨k + 1, by omega, by go_num, ?_, hb5⟩
          refine (fun i hi => ?_ : ∀ i, i < k + 1 → sndE f.ps f.lk (nthO os i) = 0)
          by_cases e : i = k
          · rw [e, HRE.out, HE.out]
          · exact HJ.out i (by omega)
        case measure => simp [intOf]; omega
      · have ke : (E == 0) = false := by simpa using e0
        go_wp2_with fail
        refine F.mono ?_
        rintro e w4 ⟨rfl, hb4⟩
        have hb5 := (HB3.out).trans (hb4.mono (HB3.out).size)
        clear F
        go_wp2
        go_ret
        refine ⟨?_, (hb0.out).trans (hb5.mono (hb0.out).size)⟩
        rw [sndsE_at HJ.out hkl (by rw [HRE.out]; exact HE.out) e0]
        rfl
    · obtain rfl : k = os.length := by omega
      go_wp2
      go_ret
      refine ⟨?_, (hb0.out).trans (hbw.mono (hb0.out).size)⟩
      rw [sndsE_no HJ.out]
      rfl
end Go.Proofs.Ytpifkoblcbjiiaa
