/- Proved: the program's Hears at its table. -/
import Derived.Test.YtkbldbbhcdiihaaPt3
import Derived.Lib.QuietBelow
namespace Go.Proofs.Ytkbldbbhcdiihaa
open Go.RowKit Go.Shelf Go.Sort
set_option linter.unusedVariables false

/-- A goal that the walk is not to look into. -/
structure Veil (p : Prop) : Prop where
  out : p
theorem veil_step {P : Program} {ops : Array Oper} {C : World → Prop} {Q : Act → Prop} {a : Act} {o : Oper} {rest : List Oper}
    (h : ∀ K : Act → Prop, (∀ a, Veil (wpQuiet P ops C Q rest a) → K a) → if Region.wanted o (yielded ops a.tmps) then o.quiet P a C K else K (a.put o.dst undef)) : wpQuiet P ops C Q (o :: rest) a :=
  wpQuiet_step (fun K hK => h K (fun a hv => hK a hv.out))
/-- An operation whose guard bars it is passed over. -/
theorem skip_step {P : Program} {ops : Array Oper} {C : World → Prop} {Q : Act → Prop} {a : Act} {o : Oper} {rest : List Oper} (hw : Region.wanted o (yielded ops a.tmps) = false) (h : Veil (wpQuiet P ops C Q rest (a.put o.dst undef))) : Veil (wpQuiet P ops C Q (o :: rest) a) :=
  ⟨wpQuiet_step (fun K hK => by rw [hw]; exact hK _ h.out)⟩

set_option maxRecDepth 100000 in
set_option maxHeartbeats 4000000 in
theorem phears_no {w : World} {tb : Nat} {az : Option Addr} {cz : Nat} {zs : List Int} (h0 : w.cell? ⟨tb, 0, none⟩ = some (.slice az zs.length cz)) (f c : Int) (hne : okFC zs.length f c ≠ 0) :
    Calls Try.prog 19 #[.pointer (some ⟨tb, 0, none⟩), .int .i64 f, .int .i64 c] w fun e w' => e = .returned (.bool false) ∧ Below w.heap.size w w' := by
  have C : ∀ d os, Calls Try.prog 29 #[.pointer (some ⟨tb, 0, none⟩), .int .i64 f, .int .i64 c] (grow (redrawn w d) os) fun e w'' => e = .returned (.int .i64 (okFC zs.length f c)) ∧ ∃ p : Regrown, w'' = grow (redrawn w p.d) p.os := fun d os =>
    Calls.regrown_of ((pchk_any (grow (redrawn w d) os) tb az cz zs f c (cell_regrown h0 d os)).mono (fun e w' g => ⟨g.1, g.2 ▸ Below.refl _ _⟩))
  obtain ⟨r, hr⟩ : ∃ r, okFC zs.length f c = r := ⟨_, rfl⟩
  rw [hr] at C hne
  have d0 : (r == 0) = false := by simpa using hne
  have mixed : Try.prog.follows .mixedOrders = true := by kernel_rfl
  clear hr
  go_enter Try.func19, Try.ntmps19
  go_wp2_with fail
  refine wp_region_quiet_below (by assumption) (by kernel_rfl) ?_
  quiet_step (fail)
  quiet_step (fail)
  quiet_step (fail)
  quiet_step (first | (go_at_call 29; exact C _ _))
  quiet_step (fail)
  refine veil_step (fun K hK => ?_)
  go_simp
  refine hK _ ?_
  clear hK K
  iterate 14 (refine skip_step (by kernel_rfl) ?_)
  go_simp
  refine Veil.mk ?_
  repeat (quiet_step (fail))
  refine wpQuiet_nil ?_
  intro p
  have hbq := below_regrown w p.d p.os
  go_wp2_with fail
  go_ret
  exact ⟨rfl, hbq⟩

set_option maxRecDepth 100000 in
set_option maxHeartbeats 4000000 in
theorem phears_any {w : World} {F : Nat → Prop} {tb : Nat} {zs : List Int} {p s : Tab} (h : PT tb zs p s w F) (f c : Int) :
    Calls Try.prog 19 #[.pointer (some ⟨tb, 0, none⟩), .int .i64 f, .int .i64 c] w fun e w' => e = .returned (.bool (hearB zs s f c)) ∧ Below w.heap.size w w' := by
  obtain ⟨U, V, az, cz, h⟩ := h
  unfold hearB
  rcases okFC_cases zs.length f c with ⟨e, _⟩ | ⟨e, hf0, hf8, hc0, hcl⟩
  · rw [decide_eq_false e, Bool.false_and]
    exact phears_no h.c0 f c e
  · have hb0 : Below w.heap.size w w.drew := (Below.refl _ _).drew
    have C := pchk_any w.drew tb az cz zs f c h.c0
    rw [e] at C
    rw [decide_eq_true e, Bool.true_and]
    obtain ⟨k, rfl⟩ := Int.eq_ofNat_of_zero_le hf0
    have hk8 : k < 8 := by omega
    have A1 := above_any w.drew az cz zs c (RdI.below h.rd.rd hb0) (by have := h.ok.2.1; omega)
    have hkk : ((k : Int)).toNat = k := by simp
    rw [hkk]
    have c0 := h.c0
    have c1 := h.cv k hk8
    have hlt : tb < w.heap.size := h.lt _ h.ft
    have v1 : (0 : Int) ≤ (k : Int) := by omega
    have v2 : (k : Int) < 8 := by omega
    have hAL := abv_len zs c
    have hany : (abv zs c).any (fun x => s k x) = (abv zs c).any (fun x => (V k).testBit x.toNat) := by
      rw [Bool.eq_iff_iff, List.any_eq_true, List.any_eq_true]
      constructor
      · rintro ⟨x, hx, hs⟩
        obtain ⟨_, _, g1, g2, g3⟩ := abv_valid hx
        obtain ⟨y, rfl⟩ := Int.eq_ofNat_of_zero_le g2
        exact ⟨_, hx, by rw [show ((y : Int)).toNat = y from by simp, h.tv k y hk8 (by omega)]; exact hs⟩
      · rintro ⟨x, hx, hs⟩
        obtain ⟨_, _, g1, g2, g3⟩ := abv_valid hx
        obtain ⟨y, rfl⟩ := Int.eq_ofNat_of_zero_le g2
        rw [show ((y : Int)).toNat = y from by simp, h.tv k y hk8 (by omega)] at hs
        exact ⟨_, hx, hs⟩
    have hxv : ∀ x ∈ abv zs c, 0 ≤ x ∧ x < 16 := fun x hx => by
      obtain ⟨g0, _, g1, g2, g3⟩ := abv_valid hx
      have := g0.2.1
      omega
    rw [hany]
    obtain ⟨xs, hxs⟩ : ∃ xs, abv zs c = xs := ⟨_, rfl⟩
    rw [hxs] at A1 hAL hxv ⊢
    obtain ⟨R, hR⟩ : ∃ R, xs.any (fun x => (V k).testBit x.toNat) = R := ⟨_, rfl⟩
    have HC : Hid (∀ (W : World) (a' : Option Addr) (c' : Nat), RdI W W.heap.size a' xs → Calls Try.prog 32 #[.slice a' xs.length c', .func (.func 30) #[.int .u32 (V k : Int)] #[]] W fun e w' => e = .returned (.bool R) ∧ W = w') := fun (W : World) (a' : Option Addr) (c' : Nat) (hW : RdI W W.heap.size a' xs) => by
      have := cont_any W a' c' xs (V k) hW hAL hxv (h.bv k hk8)
      rw [hR] at this
      exact this
    rw [hR]
    have HF : Hid (∀ W, Below w.heap.size w W → W.cell? ⟨tb, 0, none⟩ = some (.slice az zs.length cz) ∧ W.cell? ⟨tb, 9 + k, none⟩ = some (.int .u32 (V k : Int))) := fun W (hW : Below w.heap.size w W) => ⟨(hW.cell (p := ⟨tb, 0, none⟩) hlt).trans c0, (hW.cell (p := ⟨tb, 9 + k, none⟩) hlt).trans c1⟩
    obtain ⟨v, hv⟩ : ∃ v, V k = v := ⟨_, rfl⟩
    rw [hv] at HC HF c1
    clear hv hR hxs hany hxv e h hkk
    go_enter Try.func19, Try.ntmps19
    go_wp2_with fail
    go_region_held3 (fun w' => w'.cell? ⟨tb, 0, none⟩ = some (.slice az zs.length cz) ∧ w'.cell? ⟨tb, 9 + k, none⟩ = some (.int .u32 (v : Int))) (go_keep) (first | (go_at_call 29; refine C.mono ?_; rintro e w' ⟨rfl, rfl⟩) | (go_at_call 33; refine A1.mono ?_; rintro e w1 ⟨a1, k1, rfl, hR1, hb1⟩; have HR1 : Hid _ := hR1; have hb2 := Below.trans hb0 hb1; obtain ⟨g0, g1⟩ := HF.out w1 hb2; clear hR1) | (go_at_call 32; refine (HC.out w1 a1 k1 HR1.out).mono ?_; rintro e w' ⟨rfl, rfl⟩))
    all_goals go_wp2
    all_goals go_ret
    all_goals exact ⟨rfl, hb2⟩
end Go.Proofs.Ytkbldbbhcdiihaa
