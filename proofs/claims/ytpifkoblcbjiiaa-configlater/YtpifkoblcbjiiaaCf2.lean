/- Proved: contracts of the trials of a federate's rules and of its first messages. -/
import Derived.Test.YtpifkoblcbjiiaaCf1
namespace Go.Proofs.Ytpifkoblcbjiiaa
open Go.RowKit Go.Shelf
set_option linter.unusedVariables false

/-- A rule in a block of its own. -/
structure BoxR (w : World) (B : Nat) (r : Rl) : Prop where
  c1 : w.cell? ⟨B, 1, none⟩ = some (.int .i64 r.cl)
  c3 : w.cell? ⟨B, 3, none⟩ = some (.slice r.sa r.os.length r.sc)
  ok : RdO w r.sa r.os
theorem BoxR.below {w W : World} {B : Nat} {r : Rl} (h : BoxR w B r) (hb : Below w.heap.size w W) : BoxR W B r := by
  have l := clt h.c1
  exact ⟨(hb.cell (p := ⟨B, 1, none⟩) l).trans h.c1, (hb.cell (p := ⟨B, 3, none⟩) l).trans h.c3, h.ok.below hb⟩
theorem BoxR.new (w : World) (r : Rl) (h : RdO w r.sa r.os) : BoxR (w.alloc (.cells #[.int .i64 r.st, .int .i64 r.cl, .int .i64 r.nx, .slice r.sa r.os.length r.sc] 44)) w.heap.size r := by
  refine ⟨?_, ?_, h.below ((Below.refl _ w).alloc (Nat.le_refl _) _)⟩ <;> (rw [World.cell?_alloc_new]; rfl)
/-- How many classes there are, in a block of its own. -/
def BoxN (w : World) (B m : Nat) : Prop := w.cell? ⟨B, 0, none⟩ = some (.int .i64 (m : Int))
theorem BoxN.below {w W : World} {B m : Nat} (h : BoxN w B m) (hb : Below w.heap.size w W) : BoxN W B m := (hb.cell (p := ⟨B, 0, none⟩) (clt h)).trans h

set_option maxRecDepth 100000 in
theorem rules1_any (w : World) (B1 B2 m : Nat) (r : Rl) (hm : m ≤ 1000) (h1 : BoxR w B1 r) (h2 : BoxN w B2 m) :
    Calls Try.prog 62 #[.pointer (some ⟨B1, 0, none⟩), .pointer (some ⟨B2, 0, none⟩)] w fun e w' => e = .returned (.bool (inB r.cl m)) ∧ Below w.heap.size w w' := by
  have C := isclass_any r.cl m hm
  have x1 := h1.c1
  unfold BoxN at h2
  clear h1
  go_enter Try.func62, Try.ntmps62
  go_wp2_with (go_at_call 61; refine (C _).mono ?_; rintro e w' ⟨rfl, rfl⟩)
  go_ret
  exact ⟨rfl, Below.refl _ _⟩
set_option maxRecDepth 100000 in
theorem rules2_any (w : World) (B1 B2 : Nat) (f : Fd) (r : Rl) (h1 : BoxF w B1 f) (h2 : BoxR w B2 r) (hl : r.os.length ≤ 1000) :
    Calls Try.prog 63 #[.pointer (some ⟨B1, 0, none⟩), .pointer (some ⟨B2, 0, none⟩)] w fun e w' => e = .returned (.int .i64 (sndsE f.ps f.lk r.os)) ∧ Below w.heap.size w w' := by
  have C := sends_any w f r.sa r.sc r.os h1.ok h1.lt h2.ok hl
  obtain ⟨E, hE⟩ : ∃ E, sndsE f.ps f.lk r.os = E := ⟨_, rfl⟩
  rw [hE] at C ⊢
  obtain ⟨x0, x1, x2, x3, x4, x5, x6, _, _⟩ := h1
  have y3 := h2.c3
  dsimp only [fv] at C
  clear h2 hE
  go_enter Try.func63, Try.ntmps63
  go_wp2_with (go_at_call 64; refine C.mono ?_; rintro e w' ⟨rfl, hb⟩)
  go_ret
  exact ⟨rfl, hb⟩
theorem tri_r1 {w : World} {B1 B2 m : Nat} {r : Rl} (hm : m ≤ 1000) (h1 : BoxR w B1 r) (h2 : BoxN w B2 m) : TriB w (.func (.func 62) #[] #[.pointer (some ⟨B1, 0, none⟩), .pointer (some ⟨B2, 0, none⟩)]) (inB r.cl m) :=
  ⟨_, _, rfl, enters_of Try.func62 (by kernel_rfl) rfl, fun W hW => rules1_any W B1 B2 m r hm (h1.below hW) (h2.below hW)⟩
theorem tri_r2 {w : World} {B1 B2 : Nat} {f : Fd} {r : Rl} (h1 : BoxF w B1 f) (h2 : BoxR w B2 r) (hl : r.os.length ≤ 1000) : Tri w (.func (.func 63) #[] #[.pointer (some ⟨B1, 0, none⟩), .pointer (some ⟨B2, 0, none⟩)]) (sndsE f.ps f.lk r.os) :=
  ⟨_, _, rfl, enters_of Try.func63 (by kernel_rfl) rfl, fun W hW => rules2_any W B1 B2 f r (h1.below hW) (h2.below hW) hl⟩

set_option maxRecDepth 100000 in
set_option maxHeartbeats 1000000 in
theorem rules_any (w : World) (f : Fd) (m : Nat) (hm : m ≤ 1000) (h : okF w f) (hl : LtF f) :
    Calls Try.prog 46 #[fv f, .int .i64 (m : Int)] w fun e w' => e = .returned (.int .i64 (rulsE f.ps f.lk m f.rs)) ∧ Below w.heap.size w w' := by
  obtain ⟨W0, hW0⟩ : ∃ W0, W0 = (w.alloc (.cells (fcs f) 42)).alloc (.cells #[.int .i64 (m : Int)] 3) := ⟨_, rfl⟩
  have hb0 : Hid (Below w.heap.size w W0) := by rw [hW0]; exact ((Below.refl _ w).alloc (Nat.le_refl _) _).alloc (by simp) _
  have HBX : Hid (BoxF W0 w.heap.size f) := by rw [hW0]; exact (BoxF.new h hl).below ((Below.refl _ _).alloc (Nat.le_refl _) _)
  have HBN : Hid (BoxN W0 (w.heap.size + 1) m) := by
    show BoxN _ _ _
    unfold BoxN
    rw [hW0, show w.heap.size + 1 = (w.alloc (.cells (fcs f) 42)).heap.size by simp, World.cell?_alloc_new]; rfl
  have HRD : Hid (RdR W0 f.ra f.rs) := h.r.below hb0.out
  have hlr := hl.r.1
  have HLR : Hid _ := hl.r.2
  obtain ⟨B, hB⟩ : ∃ B, w.heap.size = B := ⟨_, rfl⟩
  have HW0 : Hid _ := hW0
  have hc3 := (HBX.out).c3
  simp only [hB] at HBX HBN hc3
  have HBE : Hid _ := hB
  rw [hW0] at hc3
  dsimp only [fcs] at hc3
  clear h hl hW0
  dsimp only [fv]
  dsimp only [fcs] at HW0
  obtain ⟨ra, hra⟩ : ∃ ra, f.ra = ra := ⟨_, rfl⟩
  rw [hra] at HRD HW0 hc3
  simp only [hra]
  have HRA : Hid _ := hra
  clear hra
  go_enter Try.func46, Try.ntmps46
  go_wp2_with fail
  rw [← HW0.out]
  clear hB hc3
  go_loopw [11] (fun s11 wr => ∃ k : Nat, k ≤ f.rs.length ∧ s11 = .int .i64 k ∧ Hid (∀ i, i < k → rulE f.ps f.lk m (nthR f.rs i) = 0) ∧ Below W0.heap.size W0 wr) (fun s11 _ => f.rs.length - (intOf s11).toNat)
  case atStart => exact ⟨0, Nat.zero_le _, rfl, (fun i hi => absurd hi (Nat.not_lt_zero _) : ∀ i, i < 0 → rulE f.ps f.lk m (nthR f.rs i) = 0), Below.refl _ _⟩
  case round =>
    obtain ⟨k, hk, rfl, HJ, hbw⟩ := hrel
    by_cases hkl : k < f.rs.length
    · have hk' : (k : Int) < (f.rs.length : Int) := by omega
      obtain ⟨r, hr⟩ : ∃ r, nthR f.rs k = r := ⟨_, rfl⟩
      obtain ⟨b, off, rfl, hbb, x0, x1, x2, x3⟩ := (RdR.below HRD.out hbw).cells hkl hr
      have hrd := (RdR.at (RdR.below HRD.out hbw) hkl hr).2.2
      have HRE : Hid _ := hr
      have hlo : r.os.length ≤ 1000 := by have := HLR.out r (hr ▸ nthR_mem hkl); omega
      clear hr
      have hb1 : Below wr.heap.size wr (wr.alloc (.cells #[.int .i64 r.st, .int .i64 r.cl, .int .i64 r.nx, .slice r.sa r.os.length r.sc] 44)) := (Below.refl _ wr).alloc (Nat.le_refl _) _
      have HF1 : Hid _ := ((HBX.out).below hbw).below hb1
      have HN1 : Hid _ := BoxN.below (BoxN.below HBN.out hbw) hb1
      have HO1 : Hid _ := BoxR.new wr r hrd
      have U1 := unless_tri _ 81 _ _ (tri_r1 hm HO1.out HN1.out)
      have HB1 : Hid (Below W0.heap.size W0 _) := hbw.trans (hb1.mono hbw.size)
      clear hb1 hrd
      go_wp2_with fail
      refine U1.mono ?_
      rintro e w2 ⟨k1, bs1, rfl, hT1, hb2⟩
      have HF2 : Hid _ := (HF1.out).below hb2
      have HO2 : Hid _ := (HO1.out).below hb2
      have HB2 : Hid _ := (HB1.out).trans (hb2.mono (HB1.out).size)
      have F := first2 hT1 (tri_r2 HF2.out HO2.out hlo)
      obtain ⟨E, hE⟩ : ∃ E, rulE f.ps f.lk m r = E := ⟨_, rfl⟩
      rw [show fstE [unl (inB r.cl m) 81, sndsE f.ps f.lk r.os] = E from hE] at F
      have HE : Hid _ := hE
      clear hT1 hb2 U1 hE
      by_cases e0 : E = 0
      · subst e0
        go_wp2_with fail
        refine F.mono ?_
        rintro e w4 ⟨rfl, hb4⟩
        have hb5 := (HB2.out).trans (hb4.mono (HB2.out).size)
        clear F
        go_wp2
        go_roundw
        case rel =>
          refine ⟨k + 1, by omega, by go_num, ?_, hb5⟩
          refine (fun i hi => ?_ : ∀ i, i < k + 1 → rulE f.ps f.lk m (nthR f.rs i) = 0)
          by_cases e : i = k
          · rw [e, HRE.out, HE.out]
          · exact HJ.out i (by omega)
        case measure => simp [intOf]; omega
      · have ke : (E == 0) = false := by simpa using e0
        go_wp2_with fail
        refine F.mono ?_
        rintro e w4 ⟨rfl, hb4⟩
        have hb5 := (HB2.out).trans (hb4.mono (HB2.out).size)
        clear F
        go_wp2
        go_ret
        refine ⟨?_, (hb0.out).trans (hb5.mono (hb0.out).size)⟩
        rw [rulsE_at HJ.out hkl (by rw [HRE.out]; exact HE.out) e0]
        rfl
    · obtain rfl : k = f.rs.length := by omega
      go_wp2
      go_ret
      refine ⟨?_, (hb0.out).trans (hbw.mono (hb0.out).size)⟩
      rw [rulsE_no HJ.out]
      rfl

/-! ### First messages -/
set_option maxRecDepth 100000 in
set_option maxHeartbeats 1000000 in
theorem init1_any (w : World) (B : Nat) (f : Fd) (o : O) (h : BoxF w B f) :
    Calls Try.prog 66 #[ov o, .pointer (some ⟨B, 0, none⟩)] w fun e w' => e = .returned (.bool (!okI f.ps o)) ∧ Below w.heap.size w w' := by
  obtain ⟨p, q, r⟩ := o
  have hb0 : Below w.heap.size w (w.alloc (.cells #[.int .i64 p, .int .i64 q, .int .i64 r] 55)) := (Below.refl _ w).alloc (Nat.le_refl _) _
  have C := contains_any _ _ f.pa f.pc f.ps p (h.below hb0).ok.p (by have := h.lt.p; omega)
  have x4 := h.c4
  have e : okI f.ps (p, q, r) = (decide (p ∈ f.ps) && (wi q 0 1099511627776 && wi r 0 999)) := rfl
  rw [e]
  obtain ⟨A, hA⟩ : ∃ A, decide (p ∈ f.ps) = A := ⟨_, rfl⟩
  rw [hA] at C ⊢
  have HB0 : Hid _ := hb0
  have l4 := clt x4
  dsimp only at l4
  dsimp only [ov]
  clear hA h e hb0
  cases A with
  | false =>
    go_enter Try.func66, Try.ntmps66
    go_wp2_with (first | (go_at_call 32; refine C.mono ?_; rintro e w' ⟨rfl, rfl⟩) | (go_at_call 26; refine (within_any _ _ _ _).mono ?_; rintro e w' ⟨rfl, rfl⟩))
    go_ret
    exact ⟨rfl, HB0.out⟩
  | true =>
    cases hy : wi q 0 1099511627776 with
    | false =>
      go_enter Try.func66, Try.ntmps66
      go_wp2_with (first | (go_at_call 32; refine C.mono ?_; rintro e w' ⟨rfl, rfl⟩) | (go_at_call 26; refine (within_any _ _ _ _).mono ?_; rintro e w' ⟨rfl, rfl⟩))
      go_ret
      exact ⟨rfl, HB0.out⟩
    | true =>
      go_enter Try.func66, Try.ntmps66
      go_wp2_with (first | (go_at_call 32; refine C.mono ?_; rintro e w' ⟨rfl, rfl⟩) | (go_at_call 26; refine (within_any _ _ _ _).mono ?_; rintro e w' ⟨rfl, rfl⟩))
      go_ret
      exact ⟨by cases wi r 0 999 <;> rfl, HB0.out⟩

set_option maxRecDepth 100000 in
set_option maxHeartbeats 1000000 in
theorem idxI_any (w : World) (a : Option Addr) (cp : Nat) (l : List O) (B : Nat) (f : Fd) (h : RdO w a l) (hf : BoxF w B f) (hl : l.length ≤ 1000) :
    Calls Try.prog 78 #[.slice a l.length cp, .func (.func 66) #[] #[.pointer (some ⟨B, 0, none⟩)]] w fun e w' => ∃ r : Int, e = .returned (.int .i64 r) ∧ decide (0 ≤ r) = !l.all (okI f.ps) ∧ Below w.heap.size w w' := by
  have HR : Hid (RdO w a l) := h
  have HF : Hid _ := hf
  have eg : ∀ args w, (callFunc 66 args).run Try.prog w = .ok (.enter 66 args) w := enters_of Try.func66 (by kernel_rfl) rfl
  clear h hf
  go_enter Try.func78, Try.ntmps78
  go_wp2_with fail
  go_loopw [8] (fun s8 wr => ∃ k : Nat, k ≤ l.length ∧ s8 = .int .i64 k ∧ Hid (∀ i, i < k → okI f.ps (nthO l i) = true) ∧ Below w.heap.size w wr) (fun s8 _ => l.length - (intOf s8).toNat)
  case atStart => exact ⟨0, Nat.zero_le _, rfl, (fun i hi => absurd hi (Nat.not_lt_zero _) : ∀ i, i < 0 → okI f.ps (nthO l i) = true), Below.refl _ _⟩
  case round =>
    obtain ⟨k, hk, rfl, HJ, hbw⟩ := hrel
    by_cases hkl : k < l.length
    · have hk' : (k : Int) < (l.length : Int) := by omega
      obtain ⟨o, ho⟩ : ∃ o, nthO l k = o := ⟨_, rfl⟩
      obtain ⟨b, off, rfl, hB, x0, x1, x2⟩ := (RdO.below HR.out hbw).cells hkl ho
      have C := init1_any wr B f o ((HF.out).below hbw)
      have HRE : Hid _ := ho
      clear ho
      cases hbit : okI f.ps o with
      | false =>
        rw [hbit] at C
        have HBT : Hid _ := hbit
        clear hbit
        obtain ⟨p, q, r⟩ := o
        dsimp only [ov] at C x0 x1 x2
        go_wp2_with (go_at_call 66; refine C.mono ?_; rintro e w' ⟨rfl, hb1⟩)
        go_ret
        refine ⟨_, rfl, ?_, hbw.trans (hb1.mono hbw.size)⟩
        have : l.all (okI f.ps) = false := by
          rw [List.all_eq_false]
          exact ⟨_, (memO l _).2 ⟨k, hkl, HRE.out⟩, by rw [HBT.out]; decide⟩
        rw [this]
        simp
      | true =>
        rw [hbit] at C
        have HBT : Hid _ := hbit
        clear hbit
        obtain ⟨p, q, r⟩ := o
        dsimp only [ov] at C x0 x1 x2
        go_wp2_with (go_at_call 66; refine C.mono ?_; rintro e w' ⟨rfl, hb1⟩)
        go_roundw
        case rel =>
          refine ⟨k + 1, by omega, by go_num, ?_, hbw.trans (hb1.mono hbw.size)⟩
          refine (fun i hi => ?_ : ∀ i, i < k + 1 → okI f.ps (nthO l i) = true)
          by_cases e : i = k
          · rw [e, HRE.out]; exact HBT.out
          · exact HJ.out i (by omega)
        case measure => simp [intOf]; omega
    · obtain rfl : k = l.length := by omega
      go_wp2
      go_ret
      refine ⟨_, rfl, ?_, hbw⟩
      have : l.all (okI f.ps) = true := by
        rw [List.all_eq_true]
        intro x hx
        obtain ⟨i, hi, rfl⟩ := (memO l x).1 hx
        exact HJ.out i hi
      rw [this]
      rfl
set_option maxRecDepth 100000 in
theorem contI_any (w : World) (a : Option Addr) (cp : Nat) (l : List O) (B : Nat) (f : Fd) (h : RdO w a l) (hf : BoxF w B f) (hl : l.length ≤ 1000) :
    Calls Try.prog 65 #[.slice a l.length cp, .func (.func 66) #[] #[.pointer (some ⟨B, 0, none⟩)]] w fun e w' => e = .returned (.bool (!l.all (okI f.ps))) ∧ Below w.heap.size w w' := by
  have I := idxI_any w a cp l B f h hf hl
  obtain ⟨A, hA⟩ : ∃ A, l.all (okI f.ps) = A := ⟨_, rfl⟩
  rw [hA] at I ⊢
  clear hA h hf
  go_enter Try.func65, Try.ntmps65
  go_wp2_with (go_at_call 78; refine I.mono ?_; rintro e w' ⟨r, rfl, hr, hb1⟩; have HR : Hid _ := hr; clear hr I)
  go_ret
  refine ⟨?_, hb1⟩
  have e := HR.out
  simp [e, Array.getD]
set_option maxRecDepth 100000 in
set_option maxHeartbeats 1000000 in
theorem init_any (w : World) (f : Fd) (h : okF w f) (hl : LtF f) :
    Calls Try.prog 48 #[fv f] w fun e w' => e = .returned (.bool (iniB f.ps f.is)) ∧ Below w.heap.size w w' := by
  have hb0 : Below w.heap.size w (w.alloc (.cells (fcs f) 42)) := (Below.refl _ w).alloc (Nat.le_refl _) _
  have BX := BoxF.new h hl
  have C := contI_any _ f.ia f.ic f.is _ f BX.ok.i BX (by have := hl.i; omega)
  have x6 := BX.c6
  unfold iniB
  obtain ⟨A, hA⟩ : ∃ A, f.is.all (okI f.ps) = A := ⟨_, rfl⟩
  rw [hA] at C ⊢
  have HB0 : Hid _ := hb0
  dsimp only [fcs] at C x6
  dsimp only [fv]
  clear hA h BX hb0
  by_cases h4 : (f.is.length : Int) ≤ 4
  · rw [decide_eq_true (show f.is.length ≤ 4 by omega)]
    have hd : decide ((f.is.length : Int) ≤ 4) = true := decide_eq_true h4
    go_enter Try.func48, Try.ntmps48
    go_wp2_with (go_at_call 65; refine C.mono ?_; rintro e w' ⟨rfl, hb1⟩)
    go_ret
    exact ⟨by cases A <;> simp [Array.getD], (HB0.out).trans (hb1.mono (HB0.out).size)⟩
  · rw [decide_eq_false (show ¬ f.is.length ≤ 4 by omega)]
    have hd : decide ((f.is.length : Int) ≤ 4) = false := decide_eq_false h4
    go_enter Try.func48, Try.ntmps48
    go_wp2
    go_ret
    exact ⟨rfl, HB0.out⟩
end Go.Proofs.Ytpifkoblcbjiiaa
