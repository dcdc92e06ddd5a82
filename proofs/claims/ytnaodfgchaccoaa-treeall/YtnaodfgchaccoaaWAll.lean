/- Proved: TreeAll answers true, whatever it is asked; what lay in memory is as it was. -/
import Derived.Test.YtnaodfgchaccoaaCom
import Derived.Deep.RegionHeld3
import Derived.BigQuiet
import Derived.Lib.QuietBelow
namespace Go.Proofs.Ytnaodfgchaccoaa
open Go.RowKit Go.Shelf Go.Sort
set_option linter.unusedVariables false

theorem rd_some {W : World} {n0 : Nat} {a : Option Addr} {xs : List Int} (h : RdI W n0 a xs) (hx : 1 ≤ xs.length) : ∃ b o, a = some ⟨b, o, none⟩ ∧ (b < n0 ∧ ∀ i, i < xs.length → W.cell? ⟨b, o + i, none⟩ = some (.int .i64 (nthI xs i))) := by
  obtain ⟨b, o, e, h1, h2⟩ := h (by intro e; rw [e] at hx; simp at hx)
  exact ⟨b, o, e, h1, h2⟩
/-- What the walk holds on to: the slices of parents, and of what is below a class. -/
structure Hol (w1 : World) (a1 : Option Addr) (zs : List Int) (b2 o2 : Nat) (ys : List Int) (W : World) : Prop where
  bel : Below w1.heap.size w1 W
  l2 : b2 < W.heap.size
  c2 : ∀ i, i < ys.length → W.cell? ⟨b2, o2 + i, none⟩ = some (.int .i64 (nthI ys i))
theorem Hol.on {w1 : World} {a1 : Option Addr} {zs : List Int} {b2 o2 : Nat} {ys : List Int} {W W' : World} (h : Hol w1 a1 zs b2 o2 ys W) (g : Below W.heap.size W W') : Hol w1 a1 zs b2 o2 ys W' :=
  ⟨Below.on h.bel g, Nat.lt_of_lt_of_le h.l2 g.size, fun i hi => (g.cell (p := ⟨b2, o2 + i, none⟩) h.l2).trans (h.c2 i hi)⟩
theorem Hol.rd {w1 : World} {a1 : Option Addr} {zs : List Int} {b2 o2 : Nat} {ys : List Int} {W : World} (h : Hol w1 a1 zs b2 o2 ys W) : RdI W W.heap.size (some ⟨b2, o2, none⟩) ys := fun _ => ⟨b2, o2, rfl, h.l2, h.c2⟩
/-- A goal that the walk is not to look into. -/
structure Veil (p : Prop) : Prop where
  out : p
theorem veil_step {P : Program} {ops : Array Oper} {C : World → Prop} {Q : Act → Prop} {a : Act} {o : Oper} {rest : List Oper}
    (h : ∀ K : Act → Prop, (∀ a, Veil (wpQuiet P ops C Q rest a) → K a) → if Region.wanted o (yielded ops a.tmps) then o.quiet P a C K else K (a.put o.dst undef)) : wpQuiet P ops C Q (o :: rest) a :=
  wpQuiet_step (fun K hK => h K (fun a hv => hK a hv.out))
/-- An operation whose guard bars it is passed over. -/
theorem skip_step {P : Program} {ops : Array Oper} {C : World → Prop} {Q : Act → Prop} {a : Act} {o : Oper} {rest : List Oper} (hw : Region.wanted o (yielded ops a.tmps) = false) (h : Veil (wpQuiet P ops C Q rest (a.put o.dst undef))) : Veil (wpQuiet P ops C Q (o :: rest) a) :=
  ⟨wpQuiet_step (fun K hK => by rw [hw]; exact hK _ h.out)⟩

set_option maxRecDepth 100000 in
set_option maxHeartbeats 4000000 in
theorem all_walk (w : World) (a : Option Addr) (n c : Nat) (z : List Int) (hn : n ≤ maxLen) (h : InB w a n z) :
    Calls Try.prog 8 #[.slice a n c] w fun e w' => e = .returned (.bool true) ∧ Below w.heap.size w w' := by
  have MD := Tr.made (c := c) hn h
  clear h
  go_enter Try.func8, Try.ntmps8
  go_wp2_with (go_at_call 20; refine MD.mono ?_; rintro e w1 ⟨zs, a1, c1, rfl, T, hb1⟩; have hl1 := T.ok.1; have hl2 := T.ok.2.1; have HT0 := T; obtain ⟨b1, o1, rfl, _⟩ := rd_some T.rd hl1; have HT : Hid (Tr w1 (some ⟨b1, o1, none⟩) zs) := T; clear MD T HT0)
  go_loopw [4, 5, 6] (fun s4 s5 s6 wr => ∃ k : Nat, k ≤ zs.length ∧ s4 = .int .i64 (upS zs k) ∧ s5 = .int .i64 (dnS zs k) ∧ s6 = .int .i64 k ∧ Hid (Below w1.heap.size w1 wr)) (fun _ _ s6 _ => zs.length - (intOf s6).toNat)
  case atStart => exact ⟨0, Nat.zero_le _, rfl, rfl, rfl, Below.refl _ _⟩
  case round =>
    obtain ⟨k, hk, rfl, rfl, rfl, HB⟩ := hrel
    have hup := upS_le zs k
    have hdn := dnS_le zs k
    by_cases hkl : k < zs.length
    · have hk' : (k : Int) < (zs.length : Int) := by omega
      have A1 := Tr.above (c := c1) HT.out (k : Int) HB.out
      have B1 : Hid (∀ W, Below w1.heap.size w1 W → Calls Try.prog 14 #[.slice (some ⟨b1, o1, none⟩) zs.length c1, .int .i64 k] W _) := fun W (hb : Below w1.heap.size w1 W) => Tr.below (c := c1) HT.out (k : Int) hb
      have hxl := abv_len zs (k : Int)
      have hyl := belF_len zs (k : Int) zs.length (Nat.le_refl _)
      change (bel zs (k : Int)).length ≤ 16 at hyl
      have HU : Hid (upS zs (k + 1) = upS zs k + (abv zs (k : Int)).length) := rfl
      have HD : Hid (dnS zs (k + 1) = dnS zs k + (bel zs (k : Int)).length) := rfl
      obtain ⟨yt, ey⟩ := bel_first (Tr.ok HT.out) (show (0 : Int) ≤ (k : Int) by omega) hk'
      have hy1 : 1 ≤ (bel zs (k : Int)).length := by rw [ey]; simp
      have HRI : Hid _ := bel_rises zs (k : Int)
      have HME : Hid (∀ v, v ∈ bel zs (k : Int) → (k : Int) ∈ abv zs v) := fun v hv => mem_bel.1 hv
      have hBE : Hid _ := (rfl : bel zs (k : Int) = bel zs (k : Int))
      clear ey
      obtain ⟨xs, hxs⟩ : ∃ xs, abv zs (k : Int) = xs := ⟨_, rfl⟩
      rw [hxs] at A1 hxl HU
      obtain ⟨ys, hys⟩ : ∃ ys, bel zs (k : Int) = ys := ⟨_, rfl⟩
      rw [hys] at B1 hyl HD hy1 HRI HME
      have HYE : Hid _ := hys
      obtain ⟨U, hU⟩ : ∃ U, upS zs k = U := ⟨_, rfl⟩
      obtain ⟨D, hD⟩ : ∃ D, dnS zs k = D := ⟨_, rfl⟩
      rw [hU] at hup HU
      rw [hD] at hdn HD
      rw [hU, hD]
      clear hxs hys hU hD hBE
      go_wp2_with fail
      refine A1.mono ?_
      rintro e w2 ⟨a2, c2, rfl, _, _, hB2⟩
      clear A1
      go_wp2_with fail
      refine (B1.out w2 hB2).mono ?_
      rintro e w3 ⟨a3, c3, rfl, hR3, _, hB3⟩
      obtain ⟨b2, o2, rfl, hRR⟩ := rd_some hR3 hy1
      have HH : Hid (Hol w1 (some ⟨b1, o1, none⟩) zs b2 o2 ys w3) := ⟨hB3, hRR.1, hRR.2⟩
      clear B1 hR3 hRR hB2 hB3
      have HI : Hid (∀ v W, Hol w1 (some ⟨b1, o1, none⟩) zs b2 o2 ys W → v ∈ ys → Calls Try.prog 16 #[.slice (some ⟨b1, o1, none⟩) zs.length c1, .int .i64 v, .int .i64 k] W fun e w' => e = .returned (.bool true) ∧ Hol w1 (some ⟨b1, o1, none⟩) zs b2 o2 ys w') := fun v W (hW : Hol w1 (some ⟨b1, o1, none⟩) zs b2 o2 ys W) (hv : v ∈ ys) => (isa_any W (some ⟨b1, o1, none⟩) c1 zs v (k : Int) (RdI.go (Tr.rd HT.out) (Nat.le_refl _) hW.bel) (by omega)).mono (fun e w' g => ⟨by rw [g.1, decide_eq_true (HME.out v hv)], Hol.on hW g.2⟩)
      have HQ : Hid (∀ W, Hol w1 (some ⟨b1, o1, none⟩) zs b2 o2 ys W → Calls Try.prog 15 #[.slice (some ⟨b1, o1, none⟩) zs.length c1, .int .i64 k] W fun e w' => ∃ a4 c4, e = .returned (.slice a4 ys.length c4) ∧ RdI w' w'.heap.size a4 ys ∧ Hol w1 (some ⟨b1, o1, none⟩) zs b2 o2 ys w') := fun W (hW : Hol w1 (some ⟨b1, o1, none⟩) zs b2 o2 ys W) => (rbelow_any W (some ⟨b1, o1, none⟩) c1 zs (k : Int) (RdI.go (Tr.rd HT.out) (Nat.le_refl _) hW.bel) (by omega)).mono (fun e w' g => by
        obtain ⟨a4, c4, rfl, g1, g2⟩ := g
        rw [HYE.out] at g1 ⊢
        exact ⟨a4, c4, rfl, g1, Hol.on hW g2⟩)
      go_wp2_with fail
      go_loopw [8] (fun s wr => ∃ i : Nat, i ≤ ys.length ∧ s = .int .i64 i ∧ Hid (Hol w1 (some ⟨b1, o1, none⟩) zs b2 o2 ys wr)) (fun s _ => ys.length - (intOf s).toNat)
      case atStart => exact ⟨0, Nat.zero_le _, rfl, HH.out⟩
      case round =>
        obtain ⟨i, hi, rfl, HW⟩ := hrel
        clear HH
        by_cases hil : i < ys.length
        · have hil' : (i : Int) < (ys.length : Int) := by omega
          have HWD : Hid (Hol w1 (some ⟨b1, o1, none⟩) zs b2 o2 ys wr.drew) := Hol.on HW.out (Below.refl _ _).drew
          have I1 := HI.out _ wr.drew HWD.out (nth_mem hil)
          cases i with
          | zero =>
            obtain ⟨v, hv⟩ : ∃ v, nthI ys 0 = v := ⟨_, rfl⟩
            have f0 : wr.cell? ⟨b2, o2, none⟩ = some (.int .i64 v) := by rw [← hv]; exact Hol.c2 HW.out 0 hil
            have F : ∀ d os, (grow (redrawn wr d) os).cell? ⟨b2, o2, none⟩ = some (.int .i64 v) := cell_regrown f0
            have I2 : ∀ d os, Calls Try.prog 16 #[.slice (some ⟨b1, o1, none⟩) zs.length c1, .int .i64 v, .int .i64 k] (grow (redrawn wr d) os) fun e w'' => e = .returned (.bool true) ∧ ∃ p : Regrown, w'' = grow (redrawn wr p.d) p.os := fun d os => by
              have := isa_any (grow (redrawn wr d) os) (some ⟨b1, o1, none⟩) c1 zs v (k : Int) (RdI.go (Tr.rd HT.out) (Nat.le_refl _) (Below.on (Hol.bel HW.out) (below_regrown wr d os))) (by omega)
              rw [decide_eq_true (HME.out v (by rw [← hv]; exact nth_mem hil))] at this
              exact Calls.regrown_of this
            have v5 : (0 : Int) < (ys.length : Int) := by simpa using hil'
            have mixed : Try.prog.follows .mixedOrders = true := by kernel_rfl
            clear hv HWD I1 f0
            rw [show ((0 : Nat) : Int) = 0 from rfl]
            go_wp2_with fail
            refine wp_region_quiet_below (by assumption) (by kernel_rfl) ?_
            quiet_step (fail)
            quiet_step (fail)
            refine veil_step (fun K hK => ?_)
            go_simp
            refine hK _ ?_
            clear hK K
            iterate 10 (refine skip_step (by kernel_rfl) ?_)
            go_simp
            refine Veil.mk ?_
            repeat (quiet_step (first | (go_at_call 16; exact I2 _ _)))
            refine wpQuiet_nil ?_
            intro p
            have hbq := below_regrown wr p.d p.os
            obtain ⟨wq, hwq⟩ : ∃ wq, grow (redrawn wr p.d) p.os = wq := ⟨_, rfl⟩
            rw [hwq] at hbq ⊢
            clear hwq F I2
            go_wp2_with fail
            go_roundw
            case rel => exact ⟨1, by omega, by go_num, Hol.on HW.out hbq⟩
            case measure => simp [intOf]; omega
          | succ i =>
            have hri := HRI.out i (i + 1) (by omega) hil
            have F : Hid (∀ W, Hol w1 (some ⟨b1, o1, none⟩) zs b2 o2 ys W → W.cell? ⟨b2, o2 + (i + 1), none⟩ = some (.int .i64 (nthI ys (i + 1))) ∧ W.cell? ⟨b2, o2 + i, none⟩ = some (.int .i64 (nthI ys i))) := fun W (hW : Hol w1 (some ⟨b1, o1, none⟩) zs b2 o2 ys W) => ⟨hW.c2 (i + 1) hil, hW.c2 i (by omega)⟩
            obtain ⟨v, hv⟩ : ∃ v, nthI ys (i + 1) = v := ⟨_, rfl⟩
            obtain ⟨u, hu⟩ : ∃ u, nthI ys i = u := ⟨_, rfl⟩
            rw [hv] at F I1 hri
            rw [hu] at F hri
            obtain ⟨f1, f2⟩ := F.out wr HW.out
            have v1 : IntKind.i64.wrap ((i : Int) + 1 - 1) = (i : Int) := by rw [IntKind.wrap_i64]; omega
            have v3 : IntKind.i64.wrap (i : Int) = (i : Int) := by rw [IntKind.wrap_i64]; omega
            have v5 : (0 : Int) ≤ (i : Int) := by omega
            have v6 : (0 : Int) < (i : Int) + 1 := by omega
            have v7 : (i : Int) + 1 < (ys.length : Int) := by omega
            have v8 : (i : Int) < (ys.length : Int) := by omega
            have v9 : (0 : Int) ≤ (i : Int) + 1 := by omega
            have d1 : decide (v ≤ u) = false := by simp; omega
            have d2 : decide ((0 : Int) < (i : Int) + 1) = true := decide_eq_true v6
            clear hv hu HWD
            go_wp2_with fail
            go_region_held3 (fun w' => w'.cell? ⟨b2, o2 + (i + 1), none⟩ = some (.int .i64 v) ∧ w'.cell? ⟨b2, o2 + i, none⟩ = some (.int .i64 u)) (go_keep) (first | (go_at_call 16; refine I1.mono ?_; rintro e wA ⟨rfl, zA⟩; obtain ⟨g1, g2⟩ := F.out wA zA))
            go_wp2_with fail
            go_roundw
            case rel => exact ⟨i + 1 + 1, by omega, by go_num, zA⟩
            case measure => simp [intOf]; omega
        · obtain rfl : i = ys.length := by omega
          go_wp2_with fail
          refine (HQ.out wr HW.out).mono ?_
          rintro e w5 ⟨a4, c4, rfl, hR4, zA⟩
          have S1 := same_yes w5 w5.heap.size (some ⟨b2, o2, none⟩) a4 c3 c4 ys (Nat.le_refl _) (Hol.rd zA) hR4 (by omega)
          clear HQ HI hR4
          go_wp2_with (go_at_call 11; refine S1.mono ?_; rintro e w6 ⟨rfl, hb6⟩; clear S1)
          go_roundw
          case rel => exact ⟨k + 1, by omega, by rw [HU.out]; simp, by rw [HD.out]; simp, by go_num, Below.on (Hol.bel zA) hb6⟩
          case measure => simp [intOf]; omega
    · obtain rfl : k = zs.length := by omega
      have hge := upS_ge (Tr.ok HT.out)
      have C1 := Tr.check (c := c1) HT.out HB.out
      rw [← up_down (Tr.ok HT.out)]
      obtain ⟨U, hU⟩ : ∃ U, upS zs zs.length = U := ⟨_, rfl⟩
      rw [hU] at hge hup ⊢
      have hge' : (zs.length : Int) ≤ (U : Int) := by omega
      have d1 : decide ((zs.length : Int) ≤ (U : Int)) = true := by simpa using hge'
      clear hU hdn
      go_wp2_with (go_at_call 9; refine C1.mono ?_; rintro e w6 ⟨rfl, rfl⟩; clear C1)
      go_ret
      exact ⟨rfl, Below.on hb1 HB.out⟩
end Go.Proofs.Ytnaodfgchaccoaa
