/- Proved: contracts of the program's node: fed, Safe, hearMessage, Hear, Tell. -/
import Derived.Test.YtkodjioofkdepaaPn0
import Derived.Deep.RegionHeld3
namespace Go.Proofs.Ytkodjioofkdepaa
open Go.RowKit Go.Shelf
set_option linter.unusedVariables false
set_option maxRecDepth 100000

abbrev set7v (W : World) (A : Nat) (x0 x1 x2 x3 x4 x5 x6 : Value) : World := ((((((W.setCell ⟨A, 0, none⟩ x0).setCell ⟨A, 1, none⟩ x1).setCell ⟨A, 2, none⟩ x2).setCell ⟨A, 3, none⟩ x3).setCell ⟨A, 4, none⟩ x4).setCell ⟨A, 5, none⟩ x5).setCell ⟨A, 6, none⟩ x6
theorem set7v_heap {W : World} {A : Nat} {T : TypeId} {y0 y1 y2 y3 y4 y5 y6 : Value} (h : W.heap[A]? = some (.cells #[y0, y1, y2, y3, y4, y5, y6] T (0, 0))) (x0 x1 x2 x3 x4 x5 x6 : Value) : (set7v W A x0 x1 x2 x3 x4 x5 x6).heap[A]? = some (.cells #[x0, x1, x2, x3, x4, x5, x6] T (0, 0)) := by
  have e0 := heap_setCell_same W A 0 _ _ x0 h
  have e1 := heap_setCell_same _ A 1 _ _ x1 e0
  have e2 := heap_setCell_same _ A 2 _ _ x2 e1
  have e3 := heap_setCell_same _ A 3 _ _ x3 e2
  have e4 := heap_setCell_same _ A 4 _ _ x4 e3
  have e5 := heap_setCell_same _ A 5 _ _ x5 e4
  have e6 := heap_setCell_same _ A 6 _ _ x6 e5
  rw [e6]
  simp
theorem set7v_below {a W : World} {A n : Nat} (h : Below n a W) (hA : n ≤ A) (x0 x1 x2 x3 x4 x5 x6 : Value) : Below n a (set7v W A x0 x1 x2 x3 x4 x5 x6) :=
  ((((((h.setCell (p := ⟨A, 0, none⟩) hA _).setCell (p := ⟨A, 1, none⟩) hA _).setCell (p := ⟨A, 2, none⟩) hA _).setCell (p := ⟨A, 3, none⟩) hA _).setCell (p := ⟨A, 4, none⟩) hA _).setCell (p := ⟨A, 5, none⟩) hA _).setCell (p := ⟨A, 6, none⟩) hA _

set_option maxHeartbeats 2000000 in
theorem knfed {w0 : World} {D : Wd} {f : Nat} {x : Nd} {nb cb rb qb : Nat} {G : Nat → Prop} {v : Value} {K : Nat → Bool} {w : World} (h : KN w0 D f x nb cb rb qb G v K w) :
    Calls Try.prog 24 #[.pointer (some ⟨nb, 0, none⟩)] w fun e w' => e = .returned (fv (nthF D.fs f)) ∧ Below w.heap.size w w' := by
  have lnb := h.lt nb (.inl rfl)
  obtain ⟨F, hF⟩ : ∃ F, nthF D.fs f = F := ⟨_, rfl⟩
  rw [hF]
  have hfI : (f : Int) < (D.fs.length : Int) := by have := h.hf; omega
  obtain ⟨W1, hW1⟩ : ∃ W1, W1 = w.alloc (.cells #[.int .i64 0, .int .i64 0, .int .i64 0, .slice none 0 0, .slice none 0 0, .slice none 0 0, .slice none 0 0] 65) := ⟨_, rfl⟩
  have hb1 : Below w.heap.size w W1 := by rw [hW1]; exact al _ _
  have bx1 : W1.heap[w.heap.size]? = some (.cells #[.int .i64 0, .int .i64 0, .int .i64 0, .slice none 0 0, .slice none 0 0, .slice none 0 0, .slice none 0 0] 65 (0, 0)) := by rw [hW1]; exact World.alloc_heap_new w _
  obtain ⟨fb, off, hfa, lfb, _⟩ := h.wd.f.cells h.hf hF
  obtain ⟨fb2, off2, hfa2, lfb2, z0, z1, z2, z3, z4, z5, z6⟩ := (h.wd.below hb1).f.cells h.hf hF
  rw [hfa] at hfa2
  cases hfa2
  obtain ⟨n0, n1, n2, n3, n4, n5, n6, n7, n8⟩ := (h.below hb1).cells
  rw [hfa] at n3
  obtain ⟨A, hA⟩ : ∃ A, w.heap.size = A := ⟨_, rfl⟩
  rw [hA] at bx1
  have lA : A < W1.heap.size := (Array.getElem?_eq_some_iff.1 bx1).1
  have t0 : W1.cell? ⟨A, 0, none⟩ = some (.int .i64 0) := cellN bx1 0
  have t1 : W1.cell? ⟨A, 1, none⟩ = some (.int .i64 0) := cellN bx1 1
  have t2 : W1.cell? ⟨A, 2, none⟩ = some (.int .i64 0) := cellN bx1 2
  have t3 : W1.cell? ⟨A, 3, none⟩ = some (.slice none 0 0) := cellN bx1 3
  have t4 : W1.cell? ⟨A, 4, none⟩ = some (.slice none 0 0) := cellN bx1 4
  have t5 : W1.cell? ⟨A, 5, none⟩ = some (.slice none 0 0) := cellN bx1 5
  have t6 : W1.cell? ⟨A, 6, none⟩ = some (.slice none 0 0) := cellN bx1 6
  have tf : ∀ j, W1.frozen? ⟨A, j, none⟩ = false := fun j => by simp [World.frozen?, bx1]
  have m1 : ¬ A = nb := by omega
  have m2 : ¬ nb = A := by omega
  have m3 : ¬ A = fb := by omega
  have m4 : ¬ fb = A := by omega
  have HB1 : Hid _ := hb1
  have BX1 : Hid _ := bx1
  have HA : Hid _ := hA
  clear h hF hb1 bx1
  go_enter Try.func24, Try.ntmps24
  go_wp2_with fail
  rw [← hW1]
  try simp only [hA]
  clear hW1 hA
  go_region_held3 (fun w' => w'.cell? ⟨nb, 3, none⟩ = some (.slice (some ⟨fb, off, none⟩) D.fs.length D.fc) ∧ w'.cell? ⟨nb, 5, none⟩ = some (.int .i64 f) ∧ w'.cell? ⟨fb, off + f * 7, none⟩ = some (.int .i64 F.kd) ∧ w'.cell? ⟨fb, off + f * 7 + 1, none⟩ = some (.int .i64 F.lk) ∧ w'.cell? ⟨fb, off + f * 7 + 2, none⟩ = some (.int .i64 F.st) ∧ w'.cell? ⟨fb, off + f * 7 + 3, none⟩ = some (.slice F.ra F.rs.length F.rc) ∧ w'.cell? ⟨fb, off + f * 7 + 4, none⟩ = some (.slice F.pa F.ps.length F.pc) ∧ w'.cell? ⟨fb, off + f * 7 + 5, none⟩ = some (.slice F.sa F.ss.length F.sc) ∧ w'.cell? ⟨fb, off + f * 7 + 6, none⟩ = some (.slice F.ia F.is.length F.ic)) (go_keep) (fail)
  go_wp2_with fail
  generalize hwf : World.setCell _ _ _ = WF
  have hWF : WF = set7v W1 A (.int .i64 F.kd) (.int .i64 F.lk) (.int .i64 F.st) (.slice F.ra F.rs.length F.rc) (.slice F.pa F.ps.length F.pc) (.slice F.sa F.ss.length F.sc) (.slice F.ia F.is.length F.ic) := by
    first | exact hwf.symm | (rw [← hwf]; rfl)
  have hFF := set7v_heap BX1.out (.int .i64 F.kd) (.int .i64 F.lk) (.int .i64 F.st) (.slice F.ra F.rs.length F.rc) (.slice F.pa F.ps.length F.pc) (.slice F.sa F.ss.length F.sc) (.slice F.ia F.is.length F.ic)
  have hbl := set7v_below HB1.out (A := A) (Nat.le_of_eq HA.out) (.int .i64 F.kd) (.int .i64 F.lk) (.int .i64 F.st) (.slice F.ra F.rs.length F.rc) (.slice F.pa F.ps.length F.pc) (.slice F.sa F.ss.length F.sc) (.slice F.ia F.is.length F.ic)
  rw [← hWF] at hFF hbl
  have q0 := cellN hFF 0
  have q1 := cellN hFF 1
  have q2 := cellN hFF 2
  have q3 := cellN hFF 3
  have q4 := cellN hFF 4
  have q5 := cellN hFF 5
  have q6 := cellN hFF 6
  exact bodyPost_ret (v := fv F) (by simp [results, Try.results24, go_sem, q0, q1, q2, q3, q4, q5, q6]) rfl ⟨rfl, hbl.drew⟩
set_option maxHeartbeats 4000000 in
theorem knsafe {w0 : World} {D : Wd} {f : Nat} {x : Nd} {nb cb rb qb : Nat} {G : Nat → Prop} {v : Value} {K : Nat → Bool} {w : World} (h : KN w0 D f x nb cb rb qb G v K w) :
    Calls Try.prog 14 #[.pointer (some ⟨nb, 0, none⟩)] w fun e w' => e = .returned (.bool (safe D f x)) ∧ Below w.heap.size w w' := by
  obtain ⟨n0, n1, n2, n3, n4, n5, n6, n7, n8⟩ := h.cells
  have F := Q.first_any h.qu
  obtain ⟨m, hm⟩ : ∃ m, x.q.headD Q.zeroM = m := ⟨_, rfl⟩
  obtain ⟨E, hE⟩ : ∃ E, (!x.q.isEmpty) = E := ⟨_, rfl⟩
  have hs : safe D f x = (E && (decide (m.1.1 < D.en) && decide (m.1.1 < C.bnd D.fs.length f x.c))) := by unfold safe hd; rw [hm, hE]
  rw [hs]
  rw [hm, hE] at F
  have HP : Hid (∀ W, Below w.heap.size w W → KN w0 D f x nb cb rb qb G v K W) := fun W hb => h.below hb
  clear hs hm hE h
  obtain ⟨⟨T, m2, m3⟩, m4, m5, m6⟩ := m
  dsimp only [Q.mv] at F ⊢
  have HB0 : Hid (∀ w1, Below w.heap.size w w1 → Below w.heap.size w (w1.alloc (.cells #[.int .i64 T, .int .i64 m2, .int .i64 m3, .int .i64 m4, .int .i64 m5, .int .i64 m6] 36)) ∧ (w1.alloc (.cells #[.int .i64 T, .int .i64 m2, .int .i64 m3, .int .i64 m4, .int .i64 m5, .int .i64 m6] 36)).cell? ⟨w1.heap.size, 0, none⟩ = some (.int .i64 T)) := fun w1 b1 => ⟨b1.trans ((al w1 _).mono b1.size), cellN (MapKept.heap_alloc w1 _).1 0⟩
  cases E
  · rw [Bool.false_and]
    go_enter Try.func14, Try.ntmps14
    go_wp2_with (go_at_call 27; refine F.mono ?_; rintro e w1 ⟨rfl, b1⟩; obtain ⟨hb, k0⟩ := Hid.out HB0 _ b1; have HB : Hid _ := hb; clear b1 F hb)
    go_quiet (fail)
    go_wp2
    go_ret
    exact ⟨rfl, HB.out.trans ⟨rfl, rfl, rfl, Nat.le_refl _, fun _ _ => rfl⟩⟩
  · rw [Bool.true_and]
    obtain ⟨B, hB⟩ : ∃ B, C.bnd D.fs.length f x.c = B := ⟨_, rfl⟩
    rw [hB]
    by_cases c1 : T < D.en
    · have d1 : decide (T < D.en) = true := by simpa using c1
      rw [d1, Bool.true_and]
      have HBD : Hid (∀ W, Below w.heap.size w W → Calls Try.prog 8 #[.pointer (some ⟨cb, 0, none⟩)] W fun e w' => e = .returned (.int .i64 B) ∧ Below W.heap.size W w') := fun W hb => by
        have := C.bound_any (HP.out W hb).ck
        rw [hB] at this
        exact this
      clear hB
      go_enter Try.func14, Try.ntmps14
      go_wp2_with (go_at_call 27; refine F.mono ?_; rintro e w1 ⟨rfl, b1⟩; obtain ⟨hb, k0⟩ := Hid.out HB0 _ b1; have HB : Hid _ := hb; obtain ⟨y0, y1, y2, y3, y4, y5, y6, y7, y8⟩ := (Hid.out HP _ hb).cells; clear b1 F hb)
      obtain ⟨W2, hW2⟩ : ∃ W2, W2 = w1.alloc (.cells #[.int .i64 T, .int .i64 m2, .int .i64 m3, .int .i64 m4, .int .i64 m5, .int .i64 m6] 36) := ⟨_, rfl⟩
      obtain ⟨A, hA⟩ : ∃ A, w1.heap.size = A := ⟨_, rfl⟩
      rw [← hW2, hA] at k0
      rw [← hW2] at HB y0 y1 y2 y3 y4 y5 y6 y7 y8 ⊢
      try simp only [hA]
      have lA : A < W2.heap.size := by rw [hW2, ← hA]; simp
      clear hW2 hA
      have HBW : Hid (Calls Try.prog 8 #[.pointer (some ⟨cb, 0, none⟩)] W2.drew fun e w' => e = .returned (.int .i64 B) ∧ Below W2.heap.size W2 w') := (HBD.out W2.drew (HB.out.drew)).mono fun e w' ⟨he, hb⟩ => ⟨he, ⟨hb.os, hb.tape, hb.output, hb.size, hb.block⟩⟩
      have HKP : Hid (∀ w3, Below W2.heap.size W2 w3 → Below w.heap.size w w3 ∧ w3.cell? ⟨A, 0, none⟩ = some (.int .i64 T) ∧ w3.cell? ⟨nb, 4, none⟩ = some (.int .i64 D.en) ∧ w3.cell? ⟨nb, 0, none⟩ = some (.pointer (some ⟨cb, 0, none⟩))) := fun w3 hb3 => by
        have hbb := HB.out.trans (hb3.mono HB.out.size)
        have hc := (HP.out w3 hbb).cells
        exact ⟨hbb, (hb3.cell (p := ⟨A, 0, none⟩) lA).trans k0, hc.2.2.2.2.1, hc.1⟩
      go_region_held3 (fun w' => w'.cell? ⟨A, 0, none⟩ = some (.int .i64 T) ∧ w'.cell? ⟨nb, 4, none⟩ = some (.int .i64 D.en) ∧ w'.cell? ⟨nb, 0, none⟩ = some (.pointer (some ⟨cb, 0, none⟩))) (first | (go_keep; done) | exact Hid.out KEEP) (first
        | (go_at_call 8; refine (Hid.out HBW).mono ?_; rintro e w3 ⟨rfl, b3⟩; obtain ⟨hbb, hc⟩ := Hid.out HKP _ b3; have HB3 : Hid _ := hbb; have KEEP : Hid _ := hc; clear hbb hc b3 HBW))
      go_wp2
      go_ret
      exact ⟨rfl, HB3.out⟩
    · have d1 : decide (T < D.en) = false := by simpa using c1
      rw [d1, Bool.false_and]
      clear hB
      go_enter Try.func14, Try.ntmps14
      go_wp2_with (go_at_call 27; refine F.mono ?_; rintro e w1 ⟨rfl, b1⟩; obtain ⟨hb, k0⟩ := Hid.out HB0 _ b1; have HB : Hid _ := hb; obtain ⟨y0, y1, y2, y3, y4, y5, y6, y7, y8⟩ := (Hid.out HP _ hb).cells; clear b1 F hb)
      go_quiet (fail)
      go_wp2
      go_ret
      exact ⟨rfl, HB.out.trans ⟨rfl, rfl, rfl, Nat.le_refl _, fun _ _ => rfl⟩⟩

set_option maxHeartbeats 1000000 in
theorem knlog {w0 : World} {D : Wd} {f : Nat} {x : Nd} {nb cb rb qb : Nat} {G : Nat → Prop} {v : Value} {K : Nat → Bool} {w : World} (h : KN w0 D f x nb cb rb qb G v K w) (hl : x.lg.length ≤ 10000) :
    Calls Try.prog 11 #[.pointer (some ⟨nb, 0, none⟩)] w fun en w' => ∃ a c, en = .returned (.slice a x.lg.length c) ∧ w'.ownsRow w.heap.size 49 7 (.slice a x.lg.length c) x.lg.length (flatD x.lg) ∧ Below w.heap.size w w' := by
  obtain ⟨va, vc, rfl⟩ := shape_of h.lg
  have n8 := h.cells.2.2.2.2.2.2.2.2
  have CL := cloneD_any w va x.lg.length vc (flatD x.lg) (flatD_len _) hl (flatD_one _) (fun g => RdD.flat (rdD_row h.lg) g)
  obtain ⟨n, hn⟩ : ∃ n, x.lg.length = n := ⟨_, rfl⟩
  rw [hn] at n8 CL ⊢
  clear h hn
  go_enter Try.func11, Try.ntmps11
  go_wp2_with (go_at_call 26; refine CL.mono ?_; rintro en w2 ⟨a', c', rfl, ho, hb⟩; have HO : Hid _ := And.intro ho hb; clear ho hb CL)
  go_ret
  exact ⟨a', c', rfl, HO.out⟩
end Go.Proofs.Ytkodjioofkdepaa
