/- Joined: the texts that follow, each with its own sentence. -/
import Derived.Test.YtkodjioofkdepaaJCfg
import Derived.Deep.QuietTactic
import Derived.BigQuiet
/- Proved: contracts of checkFed and Check: the document's first error at the document's federate. -/
namespace Go.Proofs.Ytkodjioofkdepaa
open Go.RowKit Go.Shelf
set_option linter.unusedVariables false

set_option maxRecDepth 100000 in
theorem fed1_any (w : World) (B : Nat) (f : Fd) (h : BoxF w B f) :
    Calls Try.prog 49 #[.pointer (some ⟨B, 0, none⟩)] w fun e w' => e = .returned (.bool (wi f.kd 0 1)) ∧ Below w.heap.size w w' := by
  have x := h.c0
  clear h
  go_enter Try.func49, Try.ntmps49
  go_wp2_with (go_at_call 34; refine (within_any _ _ _ _).mono ?_; rintro e w' ⟨rfl, rfl⟩)
  go_ret
  exact ⟨rfl, Below.refl _ _⟩
set_option maxRecDepth 100000 in
theorem fed2_any (w : World) (B : Nat) (f : Fd) (h : BoxF w B f) :
    Calls Try.prog 50 #[.pointer (some ⟨B, 0, none⟩)] w fun e w' => e = .returned (.bool (wi f.lk 1 1048576)) ∧ Below w.heap.size w w' := by
  have x := h.c1
  clear h
  go_enter Try.func50, Try.ntmps50
  go_wp2_with (go_at_call 34; refine (within_any _ _ _ _).mono ?_; rintro e w' ⟨rfl, rfl⟩)
  go_ret
  exact ⟨rfl, Below.refl _ _⟩
set_option maxRecDepth 100000 in
theorem fed3_any (w : World) (B : Nat) (f : Fd) (h : BoxF w B f) :
    Calls Try.prog 51 #[.pointer (some ⟨B, 0, none⟩)] w fun e w' => e = .returned (.bool (wi f.st 0 7)) ∧ Below w.heap.size w w' := by
  have x := h.c2
  clear h
  go_enter Try.func51, Try.ntmps51
  go_wp2_with (go_at_call 34; refine (within_any _ _ _ _).mono ?_; rintro e w' ⟨rfl, rfl⟩)
  go_ret
  exact ⟨rfl, Below.refl _ _⟩
set_option maxRecDepth 100000 in
theorem fed4_any (w : World) (B : Nat) (f : Fd) (h : BoxF w B f) :
    Calls Try.prog 52 #[.pointer (some ⟨B, 0, none⟩)] w fun e w' => e = .returned (.int .i64 (chkE f.rs)) ∧ Below w.heap.size w w' := by
  have x := h.c3
  have C := check_any w f.ra f.rc f.rs h.ok.r h.lt.r
  obtain ⟨E, hE⟩ : ∃ E, chkE f.rs = E := ⟨_, rfl⟩
  rw [hE] at C ⊢
  clear h hE
  go_enter Try.func52, Try.ntmps52
  go_wp2_with (go_at_call 53; refine C.mono ?_; rintro e w' ⟨rfl, hb⟩)
  go_ret
  exact ⟨rfl, hb⟩
set_option maxRecDepth 100000 in
theorem fed5_any (w : World) (B B2 m : Nat) (f : Fd) (hm : m ≤ 1000) (h : BoxF w B f) (h2 : BoxN w B2 m) :
    Calls Try.prog 54 #[.pointer (some ⟨B, 0, none⟩), .pointer (some ⟨B2, 0, none⟩)] w fun e w' => e = .returned (.bool (cls f.ps m && cls f.ss m)) ∧ Below w.heap.size w w' := by
  have x4 := h.c4
  have x5 := h.c5
  unfold BoxN at h2
  have C1 := areclasses_any w w.heap.size f.pa f.pc f.ps m h.ok.p (by have := h.lt.p; omega) hm
  have C2 := areclasses_any w w.heap.size f.sa f.sc f.ss m h.ok.s (by have := h.lt.s; omega) hm
  obtain ⟨X, hX⟩ : ∃ X, cls f.ps m = X := ⟨_, rfl⟩
  obtain ⟨Y, hY⟩ : ∃ Y, cls f.ss m = Y := ⟨_, rfl⟩
  rw [hX] at C1 ⊢
  rw [hY] at C2 ⊢
  clear h hX hY
  cases X with
  | false =>
    go_enter Try.func54, Try.ntmps54
    go_wp2_with fail
    refine C1.mono ?_
    rintro e w' ⟨rfl, rfl⟩
    go_wp2_with fail
    go_ret
    exact ⟨rfl, Below.refl _ _⟩
  | true =>
    go_enter Try.func54, Try.ntmps54
    go_wp2_with fail
    refine C1.mono ?_
    rintro e w' ⟨rfl, rfl⟩
    go_wp2_with fail
    refine C2.mono ?_
    rintro e w' ⟨rfl, rfl⟩
    go_wp2_with fail
    go_ret
    exact ⟨by cases Y <;> rfl, Below.refl _ _⟩
set_option maxRecDepth 100000 in
theorem fed6_any (w : World) (B B2 m : Nat) (f : Fd) (hm : m ≤ 1000) (h : BoxF w B f) (h2 : BoxN w B2 m) :
    Calls Try.prog 56 #[.pointer (some ⟨B, 0, none⟩), .pointer (some ⟨B2, 0, none⟩)] w fun e w' => e = .returned (.int .i64 (rulsE f.ps f.lk m f.rs)) ∧ Below w.heap.size w w' := by
  have C := rules_any w f m hm h.ok h.lt
  unfold BoxN at h2
  obtain ⟨x0, x1, x2, x3, x4, x5, x6, _, _⟩ := h
  obtain ⟨E, hE⟩ : ∃ E, rulsE f.ps f.lk m f.rs = E := ⟨_, rfl⟩
  rw [hE] at C ⊢
  dsimp only [fv] at C
  clear hE
  go_enter Try.func56, Try.ntmps56
  go_wp2_with (go_at_call 57; refine C.mono ?_; rintro e w' ⟨rfl, hb⟩)
  go_ret
  exact ⟨rfl, hb⟩
set_option maxRecDepth 100000 in
theorem fed7_any (w : World) (B : Nat) (f : Fd) (h : BoxF w B f) :
    Calls Try.prog 58 #[.pointer (some ⟨B, 0, none⟩)] w fun e w' => e = .returned (.bool (iniB f.ps f.is)) ∧ Below w.heap.size w w' := by
  have C := init_any w f h.ok h.lt
  obtain ⟨x0, x1, x2, x3, x4, x5, x6, _, _⟩ := h
  obtain ⟨E, hE⟩ : ∃ E, iniB f.ps f.is = E := ⟨_, rfl⟩
  rw [hE] at C ⊢
  dsimp only [fv] at C
  clear hE
  go_enter Try.func58, Try.ntmps58
  go_wp2_with (go_at_call 59; refine C.mono ?_; rintro e w' ⟨rfl, hb⟩)
  go_ret
  exact ⟨rfl, hb⟩
theorem tri_f1 {w : World} {B : Nat} {f : Fd} (h : BoxF w B f) : TriB w (.func (.func 49) #[] #[.pointer (some ⟨B, 0, none⟩)]) (wi f.kd 0 1) :=
  ⟨_, _, rfl, enters_of Try.func49 (by kernel_rfl) rfl, fun W hW => fed1_any W B f (h.below hW)⟩
theorem tri_f2 {w : World} {B : Nat} {f : Fd} (h : BoxF w B f) : TriB w (.func (.func 50) #[] #[.pointer (some ⟨B, 0, none⟩)]) (wi f.lk 1 1048576) :=
  ⟨_, _, rfl, enters_of Try.func50 (by kernel_rfl) rfl, fun W hW => fed2_any W B f (h.below hW)⟩
theorem tri_f3 {w : World} {B : Nat} {f : Fd} (h : BoxF w B f) : TriB w (.func (.func 51) #[] #[.pointer (some ⟨B, 0, none⟩)]) (wi f.st 0 7) :=
  ⟨_, _, rfl, enters_of Try.func51 (by kernel_rfl) rfl, fun W hW => fed3_any W B f (h.below hW)⟩
theorem tri_f4 {w : World} {B : Nat} {f : Fd} (h : BoxF w B f) : Tri w (.func (.func 52) #[] #[.pointer (some ⟨B, 0, none⟩)]) (chkE f.rs) :=
  ⟨_, _, rfl, enters_of Try.func52 (by kernel_rfl) rfl, fun W hW => fed4_any W B f (h.below hW)⟩
theorem tri_f5 {w : World} {B B2 m : Nat} {f : Fd} (hm : m ≤ 1000) (h : BoxF w B f) (h2 : BoxN w B2 m) : TriB w (.func (.func 54) #[] #[.pointer (some ⟨B, 0, none⟩), .pointer (some ⟨B2, 0, none⟩)]) (cls f.ps m && cls f.ss m) :=
  ⟨_, _, rfl, enters_of Try.func54 (by kernel_rfl) rfl, fun W hW => fed5_any W B B2 m f hm (h.below hW) (h2.below hW)⟩
theorem tri_f6 {w : World} {B B2 m : Nat} {f : Fd} (hm : m ≤ 1000) (h : BoxF w B f) (h2 : BoxN w B2 m) : Tri w (.func (.func 56) #[] #[.pointer (some ⟨B, 0, none⟩), .pointer (some ⟨B2, 0, none⟩)]) (rulsE f.ps f.lk m f.rs) :=
  ⟨_, _, rfl, enters_of Try.func56 (by kernel_rfl) rfl, fun W hW => fed6_any W B B2 m f hm (h.below hW) (h2.below hW)⟩
theorem tri_f7 {w : World} {B : Nat} {f : Fd} (h : BoxF w B f) : TriB w (.func (.func 58) #[] #[.pointer (some ⟨B, 0, none⟩)]) (iniB f.ps f.is) :=
  ⟨_, _, rfl, enters_of Try.func58 (by kernel_rfl) rfl, fun W hW => fed7_any W B f (h.below hW)⟩
theorem first7 {w : World} {v1 v2 v3 v4 v5 v6 v7 : Value} {e1 e2 e3 e4 e5 e6 e7 : Int} (h1 : Tri w v1 e1) (h2 : Tri w v2 e2) (h3 : Tri w v3 e3) (h4 : Tri w v4 e4) (h5 : Tri w v5 e5) (h6 : Tri w v6 e6) (h7 : Tri w v7 e7) :
    Calls Try.prog 29 #[.slice (some ⟨w.heap.size, 0, none⟩) 7 7] (w.alloc (.cells #[v1, v2, v3, v4, v5, v6, v7] 89)) fun e w' => e = .returned (.int .i64 (fstE [e1, e2, e3, e4, e5, e6, e7])) ∧ Below w.heap.size w w' := by
  have hb : Below w.heap.size w (w.alloc (.cells #[v1, v2, v3, v4, v5, v6, v7] 89)) := (Below.refl _ w).alloc (Nat.le_refl _) _
  refine (first_any _ _ 7 [e1, e2, e3, e4, e5, e6, e7] (fun _ => ⟨w.heap.size, 0, rfl, by simp, fun i hi => ?_⟩) (by simp)).mono (fun e w' g => ⟨g.1, hb.trans (g.2.mono hb.size)⟩)
  have hi2 : i < 7 := by simpa using hi
  rcases (by omega : i = 0 ∨ i = 1 ∨ i = 2 ∨ i = 3 ∨ i = 4 ∨ i = 5 ∨ i = 6) with rfl | rfl | rfl | rfl | rfl | rfl | rfl
  · exact ⟨v1, by rw [World.cell?_alloc_new]; rfl, h1.below hb⟩
  · exact ⟨v2, by rw [World.cell?_alloc_new]; rfl, h2.below hb⟩
  · exact ⟨v3, by rw [World.cell?_alloc_new]; rfl, h3.below hb⟩
  · exact ⟨v4, by rw [World.cell?_alloc_new]; rfl, h4.below hb⟩
  · exact ⟨v5, by rw [World.cell?_alloc_new]; rfl, h5.below hb⟩
  · exact ⟨v6, by rw [World.cell?_alloc_new]; rfl, h6.below hb⟩
  · exact ⟨v7, by rw [World.cell?_alloc_new]; rfl, h7.below hb⟩

set_option maxRecDepth 100000 in
set_option maxHeartbeats 1000000 in
theorem fed_any (w : World) (f : Fd) (m : Nat) (hm : m ≤ 1000) (h : okF w f) (hl : LtF f) :
    Calls Try.prog 35 #[fv f, .int .i64 (m : Int)] w fun e w' => e = .returned (.int .i64 (fedE f m)) ∧ Below w.heap.size w w' := by
  have hb0 : Hid (Below w.heap.size w ((w.alloc (.cells (fcs f) 65)).alloc (.cells #[.int .i64 (m : Int)] 3))) := ((Below.refl _ w).alloc (Nat.le_refl _) _).alloc (by simp) _
  have BX : BoxF ((w.alloc (.cells (fcs f) 65)).alloc (.cells #[.int .i64 (m : Int)] 3)) w.heap.size f := (BoxF.new h hl).below ((Below.refl _ _).alloc (Nat.le_refl _) _)
  have BN : BoxN ((w.alloc (.cells (fcs f) 65)).alloc (.cells #[.int .i64 (m : Int)] 3)) (w.heap.size + 1) m := by
    unfold BoxN
    rw [show w.heap.size + 1 = (w.alloc (.cells (fcs f) 65)).heap.size by simp, World.cell?_alloc_new]; rfl
  obtain ⟨E, hE⟩ : ∃ E, fedE f m = E := ⟨_, rfl⟩
  have HE : Hid _ := hE
  have U1 := unless_tri _ 1 _ _ (tri_f1 BX)
  have HX : Hid _ := BX
  have HN : Hid _ := BN
  rw [hE]
  dsimp only [fv]
  dsimp only [fcs] at U1
  clear h hl hE BX BN
  go_enter Try.func35, Try.ntmps35
  go_wp2_with fail
  refine U1.mono ?_
  rintro e w1 ⟨k1, bs1, rfl, hT1, hb1⟩
  have HX1 : Hid _ := (HX.out).below hb1
  have HN1 : Hid _ := BoxN.below HN.out hb1
  have HB1 : Hid _ := (hb0.out).trans (hb1.mono (hb0.out).size)
  have HT1 : Hid _ := hT1
  have U2 := unless_tri w1 80 _ _ (tri_f2 HX1.out)
  clear hT1 hb1 U1
  go_wp2_with fail
  refine U2.mono ?_
  rintro e w2 ⟨k2, bs2, rfl, hT2, hb2⟩
  have HX2 : Hid _ := (HX1.out).below hb2
  have HN2 : Hid _ := BoxN.below HN1.out hb2
  have HB2 : Hid _ := (HB1.out).trans (hb2.mono (HB1.out).size)
  have HT12 : Hid _ := Tri.below HT1.out hb2
  have HT2 : Hid _ := hT2
  have U3 := unless_tri w2 70 _ _ (tri_f3 HX2.out)
  clear hT2 hb2 U2
  go_wp2_with fail
  refine U3.mono ?_
  rintro e w3 ⟨k3, bs3, rfl, hT3, hb3⟩
  have HX3 : Hid _ := (HX2.out).below hb3
  have HN3 : Hid _ := BoxN.below HN2.out hb3
  have HB3 : Hid _ := (HB2.out).trans (hb3.mono (HB2.out).size)
  have HT13 : Hid _ := Tri.below HT12.out hb3
  have HT23 : Hid _ := Tri.below HT2.out hb3
  have HT3 : Hid _ := hT3
  have HT4 : Hid _ := tri_f4 HX3.out
  have U5 := unless_tri w3 81 _ _ (tri_f5 hm HX3.out HN3.out)
  clear hT3 hb3 U3
  go_wp2_with fail
  refine U5.mono ?_
  rintro e w5 ⟨k5, bs5, rfl, hT5, hb5⟩
  have HX5 : Hid _ := (HX3.out).below hb5
  have HN5 : Hid _ := BoxN.below HN3.out hb5
  have HB5 : Hid _ := (HB3.out).trans (hb5.mono (HB3.out).size)
  have HT15 : Hid _ := Tri.below HT13.out hb5
  have HT25 : Hid _ := Tri.below HT23.out hb5
  have HT35 : Hid _ := Tri.below HT3.out hb5
  have HT45 : Hid _ := Tri.below HT4.out hb5
  have HT5 : Hid _ := hT5
  have HT6 : Hid _ := tri_f6 hm HX5.out HN5.out
  have U7 := unless_tri w5 82 _ _ (tri_f7 HX5.out)
  clear hT5 hb5 U5
  go_wp2_with fail
  refine U7.mono ?_
  rintro e w7 ⟨k7, bs7, rfl, hT7, hb7⟩
  have HB7 : Hid _ := (HB5.out).trans (hb7.mono (HB5.out).size)
  have F := first7 (Tri.below HT15.out hb7) (Tri.below HT25.out hb7) (Tri.below HT35.out hb7) (Tri.below HT45.out hb7) (Tri.below HT5.out hb7) (Tri.below HT6.out hb7) hT7
  rw [show fstE [unl (wi f.kd 0 1) 1, unl (wi f.lk 1 1048576) 80, unl (wi f.st 0 7) 70, chkE f.rs, unl (cls f.ps m && cls f.ss m) 81, rulsE f.ps f.lk m f.rs, unl (iniB f.ps f.is) 82] = E from HE.out] at F
  clear hT7 hb7 U7
  go_wp2_with fail
  refine F.mono ?_
  rintro e w8 ⟨rfl, hb8⟩
  go_wp2_with fail
  go_ret
  exact ⟨rfl, (HB7.out).trans (hb8.mono (HB7.out).size)⟩
end Go.Proofs.Ytkodjioofkdepaa
/- Proved: the contract of Check: the first error, and whose it is. -/
namespace Go.Proofs.Ytkodjioofkdepaa
open Go.RowKit Go.Shelf
set_option linter.unusedVariables false

/-- A federation in a block of its own. -/
structure BoxW (w : World) (B : Nat) (d : Wd) : Prop where
  c0 : w.cell? ⟨B, 0, none⟩ = some (.slice d.pa d.ps.length d.pc)
  c1 : w.cell? ⟨B, 1, none⟩ = some (.slice d.fa d.fs.length d.fc)
  c2 : w.cell? ⟨B, 2, none⟩ = some (.int .i64 d.en)
  ok : Ww w d
theorem BoxW.below {w W : World} {B : Nat} {d : Wd} (h : BoxW w B d) (hb : Below w.heap.size w W) : BoxW W B d := by
  have l := clt h.c0
  exact ⟨(hb.cell (p := ⟨B, 0, none⟩) l).trans h.c0, (hb.cell (p := ⟨B, 1, none⟩) l).trans h.c1, (hb.cell (p := ⟨B, 2, none⟩) l).trans h.c2, h.ok.below hb⟩
abbrev wcs (d : Wd) : Array Value := #[.slice d.pa d.ps.length d.pc, .slice d.fa d.fs.length d.fc, .int .i64 d.en]
theorem BoxW.new {w : World} {d : Wd} (h : Ww w d) : BoxW (w.alloc (.cells (wcs d) 31)) w.heap.size d := by
  refine ⟨?_, ?_, ?_, h.below ((Below.refl _ w).alloc (Nat.le_refl _) _)⟩ <;> (rw [World.cell?_alloc_new]; rfl)

set_option maxRecDepth 100000 in
theorem all1_any (w : World) (B : Nat) (d : Wd) (h : BoxW w B d) :
    Calls Try.prog 30 #[.pointer (some ⟨B, 0, none⟩)] w fun e w' => e = .returned (.int .i64 (chk d.ps)) ∧ Below w.heap.size w w' := by
  have x := h.c0
  have C := tcheck_any w w.heap.size d.pa d.pc d.ps h.ok.p (by have := h.ok.pl; omega)
  obtain ⟨E, hE⟩ : ∃ E, chk d.ps = E := ⟨_, rfl⟩
  rw [hE] at C ⊢
  clear h hE
  go_enter Try.func30, Try.ntmps30
  go_wp2_with (go_at_call 31; refine C.mono ?_; rintro e w' ⟨rfl, rfl⟩)
  go_ret
  exact ⟨rfl, Below.refl _ _⟩
set_option maxRecDepth 100000 in
theorem all2_any (w : World) (B : Nat) (d : Wd) (h : BoxW w B d) :
    Calls Try.prog 33 #[.pointer (some ⟨B, 0, none⟩)] w fun e w' => e = .returned (.bool (wi d.en 0 1099511627776 && wi d.fs.length 1 8)) ∧ Below w.heap.size w w' := by
  have x1 := h.c1
  have x2 := h.c2
  clear h
  cases hx : wi d.en 0 1099511627776 with
  | false =>
    go_enter Try.func33, Try.ntmps33
    go_wp2_with (go_at_call 34; refine (within_any _ _ _ _).mono ?_; rintro e w' ⟨rfl, rfl⟩)
    go_ret
    exact ⟨rfl, Below.refl _ _⟩
  | true =>
    go_enter Try.func33, Try.ntmps33
    go_wp2_with (go_at_call 34; refine (within_any _ _ _ _).mono ?_; rintro e w' ⟨rfl, rfl⟩)
    go_ret
    exact ⟨by cases wi d.fs.length 1 8 <;> rfl, Below.refl _ _⟩
theorem tri_a1 {w : World} {B : Nat} {d : Wd} (h : BoxW w B d) : Tri w (.func (.func 30) #[] #[.pointer (some ⟨B, 0, none⟩)]) (chk d.ps) :=
  ⟨_, _, rfl, enters_of Try.func30 (by kernel_rfl) rfl, fun W hW => all1_any W B d (h.below hW)⟩
theorem tri_a2 {w : World} {B : Nat} {d : Wd} (h : BoxW w B d) : TriB w (.func (.func 33) #[] #[.pointer (some ⟨B, 0, none⟩)]) (wi d.en 0 1099511627776 && wi d.fs.length 1 8) :=
  ⟨_, _, rfl, enters_of Try.func33 (by kernel_rfl) rfl, fun W hW => all2_any W B d (h.below hW)⟩

set_option maxRecDepth 100000 in
set_option maxHeartbeats 1000000 in
theorem wcheck_any (w : World) (d : Wd) (h : Ww w d) :
    Calls Try.prog 15 #[wv d] w fun e w' => e = .returned (.tuple #[.int .i64 (wldE d).1, .int .i64 (wldE d).2]) ∧ Below w.heap.size w w' := by
  have hb0 : Hid (Below w.heap.size w (w.alloc (.cells (wcs d) 31))) := (Below.refl _ w).alloc (Nat.le_refl _) _
  have BX := BoxW.new h
  obtain ⟨E, hE⟩ : ∃ E, allE d = E := ⟨_, rfl⟩
  have HE : Hid _ := hE
  have U1 := unless_tri _ 1 _ _ (tri_a2 BX)
  have HX : Hid _ := BX
  have hpl : d.ps.length ≤ 1000 := by have := h.pl; omega
  have hfl := h.fl
  have HLT : Hid _ := h.lt
  obtain ⟨B, hB⟩ : ∃ B, w.heap.size = B := ⟨_, rfl⟩
  simp only [hB] at U1 HX
  dsimp only [wcs] at U1 hb0 HX
  have HBE : Hid _ := hB
  obtain ⟨fa, hfa⟩ : ∃ fa, d.fa = fa := ⟨_, rfl⟩
  have HFA : Hid _ := hfa
  dsimp only [wv]
  simp only [hfa] at U1 hb0 HX ⊢
  clear h hE BX hfa
  go_enter Try.func15, Try.ntmps15
  go_wp2_with fail
  refine U1.mono ?_
  rintro e w1 ⟨k1, bs1, rfl, hT1, hb1⟩
  have hbw1 := (hb0.out).trans (hb1.mono (hb0.out).size)
  have HX1 : Hid _ := (HX.out).below hb1
  have F := first2 (tri_a1 HX1.out) hT1
  rw [show fstE [chk d.ps, unl (wi d.en 0 1099511627776 && wi d.fs.length 1 8) 1] = E from HE.out] at F
  clear hT1 hb1 U1
  by_cases e0 : E = 0
  · subst e0
    go_wp2_with fail
    refine F.mono ?_
    rintro e w2 ⟨rfl, hb2⟩
    have hbw2 := hbw1.trans (hb2.mono hbw1.size)
    have HX2 : Hid _ := (HX1.out).below hb2
    have y0 := (HX2.out).c0
    have y1 := (HX2.out).c1
    rw [HFA.out] at y1
    have lB := clt y0
    dsimp only at lB
    clear F
    go_wp2_with fail
    clear hB y0 y1
    go_loopw [19] (fun s19 wr => ∃ k : Nat, k ≤ d.fs.length ∧ s19 = .int .i64 k ∧ Hid (∀ i, i < k → fedE (nthF d.fs i) d.ps.length = 0) ∧ Below w2.heap.size w2 wr) (fun s19 _ => d.fs.length - (intOf s19).toNat)
    case atStart => exact ⟨0, Nat.zero_le _, rfl, (fun i hi => absurd hi (Nat.not_lt_zero _) : ∀ i, i < 0 → fedE (nthF d.fs i) d.ps.length = 0), Below.refl _ _⟩
    case round =>
      obtain ⟨k, hk, rfl, HJ, hbw⟩ := hrel
      by_cases hkl : k < d.fs.length
      · have hk' : (k : Int) < (d.fs.length : Int) := by omega
        obtain ⟨f, hf⟩ : ∃ f, nthF d.fs k = f := ⟨_, rfl⟩
        have BXr := (HX2.out).below hbw
        have hRF := BXr.ok.f
        rw [HFA.out] at hRF
        obtain ⟨b, off, rfl, hbb, x0, x1, x2, x3, x4, x5, x6⟩ := hRF.cells hkl hf
        have hok := hRF.at hkl hf
        have hlt := HLT.out f (hf ▸ nthF_mem hkl)
        have y0 := BXr.c0
        have HRE : Hid _ := hf
        have hb1 : Below wr.heap.size wr (wr.alloc (.cells (fcs f) 65)) := (Below.refl _ wr).alloc (Nat.le_refl _) _
        have C := fed_any _ f d.ps.length hpl (hok.below hb1) hlt
        obtain ⟨E, hE⟩ : ∃ E, fedE f d.ps.length = E := ⟨_, rfl⟩
        rw [hE] at C
        have HE2 : Hid _ := hE
        have HB1 : Hid _ := hb1
        have lBr := clt y0
        dsimp only at lBr
        dsimp only [fcs, fv] at C
        clear hf hRF hok hlt BXr hE hb1
        by_cases e0 : E = 0
        · subst e0
          go_wp2_with fail
          refine C.mono ?_
          rintro e w4 ⟨rfl, hb4⟩
          have hb5 : Below w2.heap.size w2 w4 := hbw.trans (((HB1.out).trans (hb4.mono (HB1.out).size)).mono hbw.size)
          clear C
          go_wp2
          go_roundw
          case rel =>
            refine ⟨k + 1, by omega, by go_num, ?_, hb5⟩
            refine (fun i hi => ?_ : ∀ i, i < k + 1 → fedE (nthF d.fs i) d.ps.length = 0)
            by_cases e : i = k
            · rw [e, HRE.out, HE2.out]
            · exact HJ.out i (by omega)
          case measure => simp [intOf]; omega
        · have ke : (E == 0) = false := by simpa using e0
          go_wp2_with fail
          refine C.mono ?_
          rintro e w4 ⟨rfl, hb4⟩
          have hb5 : Below w2.heap.size w2 w4 := hbw.trans (((HB1.out).trans (hb4.mono (HB1.out).size)).mono hbw.size)
          clear C
          go_wp2
          go_ret2
          refine ⟨?_, hbw2.trans (hb5.mono hbw2.size)⟩
          rw [show wldE d = ((k : Int), E) by unfold wldE; rw [HE.out, if_pos rfl, fedsE_at 0 HJ.out hkl (by rw [HRE.out]; exact HE2.out) e0, Nat.zero_add]]
          rfl
      · obtain rfl : k = d.fs.length := by omega
        go_wp2
        go_ret2
        refine ⟨?_, hbw2.trans (hbw.mono hbw2.size)⟩
        rw [show wldE d = (-1, 0) by unfold wldE; rw [HE.out, if_pos rfl, fedsE_no 0 HJ.out]]
        rfl
  · have ke : (E == 0) = false := by simpa using e0
    go_wp2_with fail
    refine F.mono ?_
    rintro e w2 ⟨rfl, hb2⟩
    have hbw2 := hbw1.trans (hb2.mono hbw1.size)
    clear F
    go_wp2_with fail
    go_ret2
    refine ⟨?_, hbw2⟩
    rw [show wldE d = (-1, E) by unfold wldE; rw [HE.out, if_neg e0]]
    rfl
end Go.Proofs.Ytkodjioofkdepaa
/- Proved: the contract of the document's classes. -/
namespace Go.Proofs.Ytkodjioofkdepaa
open Go.RowKit Go.Shelf
set_option linter.unusedVariables false

theorem below_drewN (n : Nat) (w : World) (k : Nat) : Below n w (w.drewN k) := ⟨rfl, rfl, rfl, Nat.le_refl _, fun _ _ => rfl⟩
end Go.Proofs.Ytkodjioofkdepaa
