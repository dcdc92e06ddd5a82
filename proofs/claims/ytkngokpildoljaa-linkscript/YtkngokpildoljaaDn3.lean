/- Proved: the contract of First of the document's net. -/
import Derived.Test.YtkngokpildoljaaDn2
namespace Go.Proofs.Ytkngokpildoljaa
open Go.RowKit Go.Shelf Go.Sort
set_option linter.unusedVariables false

/-- A goal that the walk is not to look into. -/
structure Veil (p : Prop) : Prop where
  out : p
theorem veil_step {P : Program} {ops : Array Oper} {C : World → Prop} {Q : Act → Prop} {a : Act} {o : Oper} {rest : List Oper}
    (h : ∀ K : Act → Prop, (∀ a, Veil (wpQuiet P ops C Q rest a) → K a) → if Region.wanted o (yielded ops a.tmps) then o.quiet P a C K else K (a.put o.dst undef)) : wpQuiet P ops C Q (o :: rest) a :=
  wpQuiet_step (fun K hK => h K (fun a hv => hK a hv.out))
/-- An operation whose guard bars it is passed over. -/
theorem skip_step {P : Program} {ops : Array Oper} {C : World → Prop} {Q : Act → Prop} {a : Act} {o : Oper} {rest : List Oper} (hw : Region.wanted o (yielded ops a.tmps) = false) (h : Veil (wpQuiet P ops C Q rest (a.put o.dst undef))) : Veil (wpQuiet P ops C Q (o :: rest) a) :=
  ⟨wpQuiet_step (fun K hK => by rw [hw]; exact hK _ h.out)⟩

set_option maxRecDepth 100000 in
set_option maxHeartbeats 4000000 in
theorem dfirst_no {w : World} {tb n : Nat} (h0 : w.cell? ⟨tb, 0, none⟩ = some (.int .i64 n)) (a b : Int) (hne : isL n a b = false) :
    Calls Try.prog 13 #[.pointer (some ⟨tb, 0, none⟩), .int .i64 a, .int .i64 b] w fun e w' => e = .returned (.tuple #[iv it0, .bool false]) ∧ Below w.heap.size w w' := by
  obtain ⟨W0, hW0⟩ : ∃ W0, W0 = w.alloc (.cells #[.int .i64 0, .int .i64 0, .int .i64 0, .int .i64 0, .int .i64 0, .int .i64 0, .int .i64 0, .int .i64 0] 35) := ⟨_, rfl⟩
  have bx0 : BoxT W0 w.heap.size it0 := by rw [hW0]; exact BoxT.zero w
  have hb0 : Below w.heap.size w W0 := by rw [hW0]; exact al w _
  have h0' : W0.cell? ⟨tb, 0, none⟩ = some (.int .i64 n) := (hb0.cell (p := ⟨tb, 0, none⟩) (clt h0)).trans h0
  have C : ∀ d os, Calls Try.prog 29 #[.pointer (some ⟨tb, 0, none⟩), .int .i64 a, .int .i64 b] (grow (redrawn W0 d) os) fun e w'' => e = .returned (.bool false) ∧ ∃ p : Regrown, w'' = grow (redrawn W0 p.d) p.os := fun d os =>
    Calls.regrown_of ((dis_any (grow (redrawn W0 d) os) tb n a b (cell_regrown h0' d os)).mono (fun e w' g => ⟨by rw [g.1, hne], g.2 ▸ Below.refl _ _⟩))
  have mixed : Try.prog.follows .mixedOrders = true := by kernel_rfl
  have HBX : Hid _ := bx0
  have HB0 : Hid _ := hb0
  clear bx0 hb0 hne
  go_enter Try.func13, Try.ntmps13
  go_wp2_with fail
  rw [← hW0]
  clear hW0
  refine wp_region_quiet_below (by assumption) (by kernel_rfl) ?_
  quiet_step (fail)
  quiet_step (fail)
  quiet_step (fail)
  quiet_step (first | (go_at_call 29; exact C _ _))
  quiet_step (fail)
  refine veil_step (fun K hK => ?_)
  go_simp
  refine hK _ ?_
  clear hK K
  iterate 16 (refine skip_step (by kernel_rfl) ?_)
  go_simp
  refine Veil.mk ?_
  repeat (quiet_step (fail))
  refine wpQuiet_nil ?_
  intro p
  have hbq := below_regrown W0 p.d p.os
  obtain ⟨V, hV⟩ : ∃ V, V = grow (redrawn W0 p.d) p.os := ⟨_, rfl⟩
  rw [← hV] at hbq ⊢
  have bx := HBX.out.below hbq
  obtain ⟨c0, c1, c2, c3, c4, c5, c6, c7⟩ := bx.cells
  obtain ⟨z0, z1, z2, z3, z4, z5, z6, z7⟩ := bx.frozs
  dsimp only [it0] at c0 c1 c2 c3 c4 c5 c6 c7
  have HX : Hid _ := bx.set8 it0
  have HB2 : Hid _ := below8 (Below.on HB0.out hbq) (Nat.le_refl _) it0
  clear hV bx hbq C h0 h0' HBX HB0
  go_wp2_with fail
  obtain ⟨W9, hW⟩ : ∃ W9, W9 = se8 V w.heap.size it0 := ⟨_, rfl⟩
  rw [← hW] at HX HB2
  simp only [se8, it0] at hW
  rw [← hW]
  obtain ⟨c0, c1, c2, c3, c4, c5, c6, c7⟩ := HX.out.cells
  dsimp only [it0] at c0 c1 c2 c3 c4 c5 c6 c7
  exact bodyPost_ret (v := .tuple #[iv it0, .bool false]) (by simp [results, Try.results13, go_sem, c0, c1, c2, c3, c4, c5, c6, c7, it0]) rfl ⟨rfl, HB2.out⟩

set_option maxRecDepth 100000 in
set_option maxHeartbeats 4000000 in
theorem dfirst_any {n room : Nat} {L : Ln} {tb pu : Nat} {w : World} {F : Nat → Prop} (h : DN n room L tb pu w F) (a b : Int) :
    Calls Try.prog 13 #[.pointer (some ⟨tb, 0, none⟩), .int .i64 a, .int .i64 b] w fun e w' => e = .returned (.tuple #[iv (nthT (L a b) 0), .bool (fstB (L a b))]) ∧ Below w.heap.size w w' := by
  cases hx : isL n a b
  · rw [h.ok.no a b hx]
    exact dfirst_no h.c0 a b hx
  · have I : ∀ W, Below w.heap.size w W → Calls Try.prog 29 #[.pointer (some ⟨tb, 0, none⟩), .int .i64 a, .int .i64 b] W fun e w' => e = .returned (.bool true) ∧ W = w' := fun W hW => (dis_any W tb n a b (h.below hW).c0).mono fun e w' g => ⟨by rw [g.1, hx], g.2⟩
    obtain ⟨⟨h1, h2⟩, ⟨h3, h4⟩, _⟩ := (isL_iff n a b).1 hx
    have h8 := h.ok.n8
    obtain ⟨k, rfl⟩ := Int.eq_ofNat_of_zero_le h1
    obtain ⟨m, rfl⟩ := Int.eq_ofNat_of_zero_le h3
    obtain ⟨p, q, e1, e2, hq, g1, g2, g3, g4, g5, g6, g7⟩ := place_of h8 (a := k) (b := m) (by omega) (by omega)
    obtain ⟨sa, sc, k1, k2, k3⟩ := h.ls q hq
    have hrd := k3.rd
    rw [show lk n L q = L k m by rw [← e2, ← e1]; exact lk_at L (by omega)] at k1 hrd
    have hl16 := h.ok.len k m
    have hr16 := h.ok.r16
    have ht := h.lt _ h.ft
    have hp := h.lt _ h.fp
    obtain ⟨l, hl⟩ : ∃ l, L k m = l := ⟨_, rfl⟩
    rw [hl] at k1 hrd hl16 ⊢
    have c0 := h.c0
    have c2 := h.c2
    obtain ⟨nn, hnn⟩ : ∃ nn, n * n = nn := ⟨_, rfl⟩
    rw [hnn] at c2 hq g7
    have hq' : (q : Int) < (nn : Int) := by omega
    have hq0 : (0 : Int) ≤ (q : Int) := by omega
    have g8 : IntKind.i64.wrap (p : Int) = (p : Int) := by rw [IntKind.wrap_i64]; omega
    have g9 : IntKind.i64.wrap (q : Int) = (q : Int) := by rw [IntKind.wrap_i64]; omega
    have HI : Hid _ := I
    clear h hl hx k2 k3 e1 e2 hnn I
    obtain ⟨W0, hW0⟩ : ∃ W0, W0 = w.alloc (.cells #[.int .i64 0, .int .i64 0, .int .i64 0, .int .i64 0, .int .i64 0, .int .i64 0, .int .i64 0, .int .i64 0] 35) := ⟨_, rfl⟩
    have bx0 : BoxT W0 w.heap.size it0 := by rw [hW0]; exact BoxT.zero w
    have hb0 : Below w.heap.size w W0 := by rw [hW0]; exact al w _
    have d0 := (hb0.cell (p := ⟨tb, 0, none⟩) ht).trans c0
    have d2 := (hb0.cell (p := ⟨tb, 2, none⟩) ht).trans c2
    have d1 := (hb0.cell (p := ⟨pu, q, none⟩) hp).trans k1
    have HBX : Hid _ := bx0
    have HB0 : Hid _ := hb0
    obtain ⟨f0, f1, f2, f3, f4, f5, f6, f7⟩ := bx0.cells
    dsimp only [it0] at f0 f1 f2 f3 f4 f5 f6 f7
    obtain ⟨z0, z1, z2, z3, z4, z5, z6, z7⟩ := bx0.frozs
    clear bx0 hb0 c0 c2 k1
    by_cases hl0 : l.length = 0
    · have hl1 : l = [] := List.eq_nil_of_length_eq_zero hl0
      subst hl1
      go_enter Try.func13, Try.ntmps13
      go_wp2_with fail
      rw [← hW0]
      clear hW0
      go_region_held3 (fun w' => w'.cell? ⟨tb, 0, none⟩ = some (.int .i64 n) ∧ w'.cell? ⟨tb, 2, none⟩ = some (.slice (some ⟨pu, 0, none⟩) nn nn) ∧ w'.cell? ⟨pu, q, none⟩ = some (.slice sa ([] : List It).length sc)) (go_keep) (first | (go_at_call 29; refine (Hid.out HI _ (Hid.out HB0).drew).mono ?_; rintro e w' ⟨rfl, rfl⟩))
      obtain ⟨V, hV⟩ : ∃ V, V = W0.drew := ⟨_, rfl⟩
      have bx : BoxT V w.heap.size it0 := by rw [hV]; exact HBX.out.drew
      have hbq : Below w.heap.size w V := by rw [hV]; exact HB0.out.drew
      rw [← hV]
      clear f0 f1 f2 f3 f4 f5 f6 f7 z0 z1 z2 z3 z4 z5 z6 z7
      obtain ⟨f0, f1, f2, f3, f4, f5, f6, f7⟩ := bx.cells
      dsimp only [it0] at f0 f1 f2 f3 f4 f5 f6 f7
      obtain ⟨z0, z1, z2, z3, z4, z5, z6, z7⟩ := bx.frozs
      have HX : Hid _ := bx.set8 it0
      have HB2 : Hid _ := below8 hbq (Nat.le_refl _) it0
      clear hV bx hbq d0 d1 d2 HBX HB0
      go_wp2_with fail
      obtain ⟨W9, hW⟩ : ∃ W9, W9 = se8 V w.heap.size it0 := ⟨_, rfl⟩
      rw [← hW] at HX HB2
      simp only [se8, it0] at hW
      rw [← hW]
      obtain ⟨c0, c1, c2, c3, c4, c5, c6, c7⟩ := HX.out.cells
      dsimp only [it0] at c0 c1 c2 c3 c4 c5 c6 c7
      exact bodyPost_ret (v := .tuple #[iv it0, .bool false]) (by simp [results, Try.results13, go_sem, c0, c1, c2, c3, c4, c5, c6, c7, it0]) rfl ⟨rfl, HB2.out⟩
    · have hfb : fstB l = true := by unfold fstB; rw [decide_eq_true]; omega
      rw [hfb]
      obtain ⟨x, hx⟩ : ∃ x, nthT l 0 = x := ⟨_, rfl⟩
      rw [hx]
      obtain ⟨b1, o1, hsa, hb1, x0, x1, x2, x3, x4, x5, x6, x7⟩ := hrd.cells (i := 0) (by omega) hx
      simp only [Nat.zero_mul, Nat.add_zero] at x0 x1 x2 x3 x4 x5 x6 x7
      subst hsa
      have y0 := (HB0.out.cell (p := ⟨b1, o1, none⟩) hb1).trans x0
      have y1 := (HB0.out.cell (p := ⟨b1, o1 + 1, none⟩) hb1).trans x1
      have y2 := (HB0.out.cell (p := ⟨b1, o1 + 2, none⟩) hb1).trans x2
      have y3 := (HB0.out.cell (p := ⟨b1, o1 + 3, none⟩) hb1).trans x3
      have y4 := (HB0.out.cell (p := ⟨b1, o1 + 4, none⟩) hb1).trans x4
      have y5 := (HB0.out.cell (p := ⟨b1, o1 + 5, none⟩) hb1).trans x5
      have y6 := (HB0.out.cell (p := ⟨b1, o1 + 6, none⟩) hb1).trans x6
      have y7 := (HB0.out.cell (p := ⟨b1, o1 + 7, none⟩) hb1).trans x7
      obtain ⟨ll, hll⟩ : ∃ ll, l.length = ll := ⟨_, rfl⟩
      rw [hll] at d1 hl0
      have hl1 : ((ll : Int) == 0) = false := by simp; omega
      have hl2 : (0 : Int) < (ll : Int) := by omega
      clear hrd hx hll hfb x0 x1 x2 x3 x4 x5 x6 x7 hl16
      go_enter Try.func13, Try.ntmps13
      go_wp2_with fail
      rw [← hW0]
      clear hW0
      go_region_held3 (fun w' => w'.cell? ⟨tb, 0, none⟩ = some (.int .i64 n) ∧ w'.cell? ⟨tb, 2, none⟩ = some (.slice (some ⟨pu, 0, none⟩) nn nn) ∧ w'.cell? ⟨pu, q, none⟩ = some (.slice (some ⟨b1, o1, none⟩) ll sc)) (go_keep) (first | (go_at_call 29; refine (Hid.out HI _ (Hid.out HB0).drew).mono ?_; rintro e w' ⟨rfl, rfl⟩))
      obtain ⟨V, hV⟩ : ∃ V, V = W0.drew := ⟨_, rfl⟩
      have bx : BoxT V w.heap.size it0 := by rw [hV]; exact HBX.out.drew
      have hbq : Below w.heap.size w V := by rw [hV]; exact HB0.out.drew
      have v0 : V.cell? ⟨tb, 0, none⟩ = some (.int .i64 n) := by rw [hV]; exact d0
      have v2 : V.cell? ⟨tb, 2, none⟩ = some (.slice (some ⟨pu, 0, none⟩) nn nn) := by rw [hV]; exact d2
      have v1 : V.cell? ⟨pu, q, none⟩ = some (.slice (some ⟨b1, o1, none⟩) ll sc) := by rw [hV]; exact d1
      have u0 : V.cell? ⟨b1, o1, none⟩ = some (.int .i64 x.k) := by rw [hV]; exact y0
      have u1 : V.cell? ⟨b1, o1 + 1, none⟩ = some (.int .i64 x.t) := by rw [hV]; exact y1
      have u2 : V.cell? ⟨b1, o1 + 2, none⟩ = some (.int .i64 x.fr) := by rw [hV]; exact y2
      have u3 : V.cell? ⟨b1, o1 + 3, none⟩ = some (.int .i64 x.sq) := by rw [hV]; exact y3
      have u4 : V.cell? ⟨b1, o1 + 4, none⟩ = some (.int .i64 x.dst) := by rw [hV]; exact y4
      have u5 : V.cell? ⟨b1, o1 + 5, none⟩ = some (.int .i64 x.cl) := by rw [hV]; exact y5
      have u6 : V.cell? ⟨b1, o1 + 6, none⟩ = some (.int .i64 x.bd) := by rw [hV]; exact y6
      have u7 : V.cell? ⟨b1, o1 + 7, none⟩ = some (.int .i64 x.co) := by rw [hV]; exact y7
      rw [← hV]
      clear f0 f1 f2 f3 f4 f5 f6 f7 z0 z1 z2 z3 z4 z5 z6 z7 y0 y1 y2 y3 y4 y5 y6 y7 d0 d1 d2
      obtain ⟨f0, f1, f2, f3, f4, f5, f6, f7⟩ := bx.cells
      dsimp only [it0] at f0 f1 f2 f3 f4 f5 f6 f7
      obtain ⟨z0, z1, z2, z3, z4, z5, z6, z7⟩ := bx.frozs
      have HX : Hid _ := bx.set8 x
      have HB2 : Hid _ := below8 hbq (Nat.le_refl _) x
      clear hV bx hbq HBX HB0
      go_wp2_with fail
      go_region
      obtain ⟨W9, hW⟩ : ∃ W9, W9 = (se8 V w.heap.size x).drew := ⟨_, rfl⟩
      have HX2 : Hid (BoxT W9 w.heap.size x) := by rw [hW]; exact HX.out.drew
      have HB3 : Hid (Below w.heap.size w W9) := by rw [hW]; exact HB2.out.drew
      simp only [se8] at hW
      rw [← hW]
      clear hW f0 f1 f2 f3 f4 f5 f6 f7 z0 z1 z2 z3 z4 z5 z6 z7 u0 u1 u2 u3 u4 u5 u6 u7 v0 v1 v2
      go_wp2_with fail
      obtain ⟨c0, c1, c2, c3, c4, c5, c6, c7⟩ := HX2.out.cells
      exact bodyPost_ret (v := .tuple #[iv x, .bool true]) (by simp [results, Try.results13, go_sem, c0, c1, c2, c3, c4, c5, c6, c7]) rfl ⟨rfl, HB3.out⟩
end Go.Proofs.Ytkngokpildoljaa
