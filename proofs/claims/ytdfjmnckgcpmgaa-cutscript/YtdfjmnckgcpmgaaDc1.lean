/- Proved: contracts of Got, Turn, Sent of the document's cut. -/
import Derived.Test.YtdfjmnckgcpmgaaDc0
namespace Go.Proofs.Ytdfjmnckgcpmgaa
open Go.RowKit Go.Shelf
open K
set_option linter.unusedVariables false

theorem DT.add {B B' : Nat} {c : Cu} {db rb tb eb : Nat} {w : World} (h : DT B c db rb tb eb w) {k d : Int} (hk : k = 0 ∨ k = 1) (ok : OK B' (addOn c k d)) : DT B' (addOn c k d) db rb tb eb (w.setCell ⟨db, 3 + k.toNat, none⟩ (.int .i64 (on c k + d))) := by
  rcases hk with rfl | rfl
  · exact h.wr 3 _ ok rfl rfl rfl (dv_of rfl rfl rfl rfl rfl rfl rfl rfl rfl rfl)
  · exact h.wr 4 _ ok rfl rfl rfl (dv_of rfl rfl rfl rfl rfl rfl rfl rfl rfl rfl)
theorem DT.onWay {B : Nat} {c : Cu} {db rb tb eb : Nat} {w : World} (h : DT B c db rb tb eb w) {k : Int} (hk : k = 0 ∨ k = 1) : w.cell? ⟨db, 3 + k.toNat, none⟩ = some (.int .i64 (on c k)) ∧ w.frozen? ⟨db, 3 + k.toNat, none⟩ = false := by
  rcases hk with rfl | rfl
  · exact h.rcd.c 3 (by omega)
  · exact h.rcd.c 4 (by omega)
set_option maxRecDepth 100000 in
set_option maxHeartbeats 2000000 in
theorem dgot_any {B : Nat} {c : Cu} {db rb tb eb : Nat} {w : World} (h : DT B c db rb tb eb w) (hB : B ≤ 1000000) (i k : Int) :
    Calls Try.prog 15 #[pp db, .int .i64 i, .int .i64 k] w fun e w' => e = .returned (.int .i64 (gotE c i k)) ∧ DT B (gotC c i k) db rb tb eb w' ∧ Fr (DS db rb tb eb) w w' := by
  have HA := dis_any h i
  have HP : Hid (DT B c db rb tb eb w) := h
  have no : gotE c i k = 1 → gotC c i k = c := fun e => by unfold gotC; rw [if_neg (by rw [e]; decide)]
  cases hp : isP c i
  · have e : gotE c i k = 1 := by unfold gotE; rw [if_neg (by simp [hp])]
    rw [e, no e]
    rw [hp] at HA
    clear h no e hp
    go_enter Try.func15, Try.ntmps15
    go_wp2_with (go_at_call 27; refine HA.mono ?_; rintro e w' ⟨rfl, rfl⟩)
    go_ret
    exact ⟨rfl, HP.out, Fr.refl _ _⟩
  rw [hp] at HA
  by_cases hk : k = 0 ∨ k = 1
  · obtain ⟨o1, o2⟩ := h.onWay hk
    obtain ⟨b0, b1⟩ := h.ok.onB k
    have hB' : on c k ≤ 1000000 := by omega
    by_cases hz : on c k = 0
    · have e : gotE c i k = 1 := by unfold gotE; rw [if_neg (by simp [hz])]
      rw [e, no e]
      rw [hz] at o1
      rcases hk with rfl | rfl
      all_goals
        simp only [Int.toNat_zero, Int.toNat_one, Nat.add_zero, Nat.reduceAdd] at o1 o2
        clear h no e hp hz b0 b1 hB' hB
        go_enter Try.func15, Try.ntmps15
        go_wp2_with (go_at_call 27; refine HA.mono ?_; rintro e w' ⟨rfl, rfl⟩)
        go_ret
        exact ⟨rfl, HP.out, Fr.refl _ _⟩
    · have e : gotE c i k = 0 := by unfold gotE; rw [if_pos ⟨hp, hk, hz⟩]
      have e2 : gotC c i k = addOn c k (-1) := by unfold gotC; rw [if_pos e]
      have ok := h.ok.got i k
      rw [e2] at ok
      have HN : Hid (DT B (addOn c k (-1)) db rb tb eb (w.setCell ⟨db, 3 + k.toNat, none⟩ (.int .i64 (on c k + -1)))) := h.add hk ok
      rw [e, e2]
      obtain ⟨q, hq⟩ : ∃ q, on c k = q := ⟨_, rfl⟩
      rw [hq] at o1 HN hz hB' b0
      have dz : (q == 0) = false := by simpa using hz
      rw [show q + -1 = q - 1 by omega] at HN
      rcases hk with rfl | rfl
      all_goals
        simp only [Int.toNat_zero, Int.toNat_one, Nat.add_zero, Nat.reduceAdd] at o1 o2 HN
        clear h no e e2 hp hz b1 hB hq ok
        go_enter Try.func15, Try.ntmps15
        go_wp2_with (go_at_call 27; refine HA.mono ?_; rintro e w' ⟨rfl, rfl⟩)
        go_region
        go_wp2
        go_ret
        exact ⟨rfl, HN.out.drew, (frD1 w _ _ _ (.inl rfl)).drew⟩
  · have e : gotE c i k = 1 := by unfold gotE; rw [if_neg (fun g => hk g.2.1)]
    rw [e, no e]
    by_cases hk0 : k < 0
    · clear h no e hp hk
      go_enter Try.func15, Try.ntmps15
      go_wp2_with (go_at_call 27; refine HA.mono ?_; rintro e w' ⟨rfl, rfl⟩)
      go_ret
      exact ⟨rfl, HP.out, Fr.refl _ _⟩
    · have hk1 : 1 < k := by omega
      clear h no e hp hk
      go_enter Try.func15, Try.ntmps15
      go_wp2_with (go_at_call 27; refine HA.mono ?_; rintro e w' ⟨rfl, rfl⟩)
      go_ret
      exact ⟨rfl, HP.out, Fr.refl _ _⟩
set_option maxRecDepth 100000 in
set_option maxHeartbeats 2000000 in
theorem dturn_any {B : Nat} {c : Cu} {db rb tb eb : Nat} {w : World} (h : DT B c db rb tb eb w) (i : Int) :
    Calls Try.prog 17 #[pp db, .int .i64 i] w fun e w' => e = .returned (.int .i64 (turE c i)) ∧ DT B (turC c i) db rb tb eb w' ∧ Fr (DS db rb tb eb) w w' := by
  have HA := dis_any h i
  have HP : Hid (DT B c db rb tb eb w) := h
  have c5 : w.cell? ⟨db, 5, none⟩ = some (.bool c.is) := h.rcd.at (i := 5) (by omega) rfl
  cases hp : isP c i
  · obtain ⟨e, e2⟩ := turE_no hp
    rw [e, e2]
    rw [hp] at HA
    clear h e e2 hp
    go_enter Try.func17, Try.ntmps17
    go_wp2_with (go_at_call 27; refine HA.mono ?_; rintro e w' ⟨rfl, rfl⟩)
    go_ret
    exact ⟨rfl, HP.out, Fr.refl _ _⟩
  rw [hp] at HA
  obtain ⟨k, rfl, hk⟩ := isP_yes hp
  have hk' : (k : Int) < (c.co.length : Int) := by omega
  have c1 : w.cell? ⟨db, 1, none⟩ = some (.slice (some ⟨tb, 0, none⟩) c.co.length c.co.length) := h.rcd.at (i := 1) (by omega) rfl
  have ct := h.rtu.at hk rfl
  have ft := (h.rtu.c k hk).2
  have no : turE c k = 130 → turC c k = c := fun e => by unfold turC; rw [if_neg (by rw [e]; decide)]
  cases hi : c.is
  · have e : turE c k = 130 := by unfold turE; rw [if_neg (by simp [hp]), if_pos (.inl hi)]
    rw [e, no e]
    rw [hi] at c5
    clear h e no hp hi
    go_enter Try.func17, Try.ntmps17
    go_wp2_with (go_at_call 27; refine HA.mono ?_; rintro e w' ⟨rfl, rfl⟩)
    go_ret
    exact ⟨rfl, HP.out, Fr.refl _ _⟩
  cases ht : c.tu.getD k false
  · have e : turE c k = 0 := by unfold turE; rw [if_neg (by simp [hp]), if_neg (by unfold tud; rw [hi, Int.toNat_natCast, ht]; simp)]
    have e2 : turC c k = { c with tu := c.tu.set k true, co := c.co.set k (1 - c.old) } := by unfold turC; rw [if_pos e, Int.toNat_natCast]
    have ok := h.ok.tur (k := k)
    have hod := h.ok.od
    obtain ⟨q, hq⟩ : ∃ q, 1 - c.old = q := ⟨_, rfl⟩
    obtain ⟨W1, hW1⟩ : ∃ W1, w.setCell ⟨tb, k, none⟩ (.bool true) = W1 := ⟨_, rfl⟩
    have F1 : Fr (fun k => k = tb) w W1 := by rw [← hW1]; exact fr1 w tb k _
    have a0 : W1.cell? ⟨db, 0, none⟩ = some (.slice (some ⟨rb, 0, none⟩) c.co.length c.co.length) := (h.rcd.keep F1 (fun e => h.n2 e.symm)).at (i := 0) (by omega) rfl
    have a6 : W1.cell? ⟨db, 6, none⟩ = some (.int .i64 c.old) := (h.rcd.keep F1 (fun e => h.n2 e.symm)).at (i := 6) (by omega) rfl
    have ar := (h.rco.keep F1 h.n4).at hk rfl
    have af := ((h.rco.keep F1 h.n4).c k hk).2
    have HN : Hid (DT B (turC c k) db rb tb eb (W1.setCell ⟨rb, k, none⟩ (.int .i64 q))) := by
      rw [e2] at ok ⊢
      have hkt : k < c.tu.length := by rw [h.ok.lt]; exact hk
      have F2 : Fr (fun k => k = rb) W1 (W1.setCell ⟨rb, k, none⟩ (.int .i64 q)) := fr1 W1 rb k _
      have hcl : (c.co.set k (1 - c.old)).length = c.co.length := List.length_set
      refine ⟨ok, ((h.rcd.keep F1 (fun e => h.n2 e.symm)).keep F2 (fun e => h.n1 e.symm)).same (dv_of ?_ ?_ ?_ rfl rfl rfl rfl rfl rfl rfl), ?_, ?_, ?_, h.n1, h.n2, h.n3, h.n4, h.n5, h.n6⟩
      · show _ = Value.slice _ (c.co.set k (1 - c.old)).length (c.co.set k (1 - c.old)).length; rw [hcl]; rfl
      · show _ = Value.slice _ (c.co.set k (1 - c.old)).length (c.co.set k (1 - c.old)).length; rw [hcl]; rfl
      · show _ = Value.slice _ (c.co.set k (1 - c.old)).length (c.co.set k (1 - c.old)).length; rw [hcl]; rfl
      · show Rv _ rb (c.co.set k (1 - c.old)).length (fun i => .int .i64 ((c.co.set k (1 - c.old)).getD i 0))
        rw [hcl]
        refine ((h.rco.keep F1 h.n4).set k (.int .i64 q)).same (fun j hj => ?_)
        unfold upV
        rw [set_getD c.co 0 _ k j hk, hq]
        split <;> rfl
      · show Rv _ tb (c.co.set k (1 - c.old)).length (fun i => .bool ((c.tu.set k true).getD i false))
        rw [hcl]
        have : Rv W1 tb c.co.length (upV (fun i => .bool (c.tu.getD i false)) k (.bool true)) := by rw [← hW1]; exact h.rtu.set k _
        refine (this.keep F2 (fun e => h.n4 e.symm)).same (fun j hj => ?_)
        unfold upV
        rw [set_getD c.tu false _ k j hkt]
        split <;> rfl
      · show Rv _ eb (c.co.set k (1 - c.old)).length (fun i => .bool (c.re.getD i false))
        rw [hcl]
        exact (h.rre.keep F1 (fun e => h.n6 e.symm)).keep F2 (fun e => h.n5 e.symm)
    have HF : Hid (Fr (DS db rb tb eb) w (W1.setCell ⟨rb, k, none⟩ (.int .i64 q))) := frD (F1.wide (fun i e => .inr (.inr (.inl e)))) _ _ _ (.inr (.inl rfl))
    rw [e]
    rw [ht] at ct
    rw [hi] at c5
    generalize c.co.length = n at c1 a0 hk'
    generalize c.co.getD k 0 = y at ar
    generalize c.old = old0 at a6 hq hod
    have hwq : IntKind.i64.wrap q = q := by rw [IntKind.wrap_i64]; omega
    have hq0 : 0 ≤ q := by omega
    have hq1 : q ≤ 1 := by omega
    clear h e e2 no hp hi ok ht hk F1 hod
    go_enter Try.func17, Try.ntmps17
    go_wp2_with (go_at_call 27; refine HA.mono ?_; rintro e w' ⟨rfl, rfl⟩)
    go_region
    go_wp2
    go_ret
    exact ⟨rfl, HN.out.drew, HF.out.drew⟩
  · have e : turE c k = 130 := by unfold turE; rw [if_neg (by simp [hp]), if_pos (.inr (by unfold tud; rw [Int.toNat_natCast]; exact ht))]
    rw [e, no e]
    rw [ht] at ct
    rw [hi] at c5
    generalize c.co.length = n at c1 hk'
    clear h e no hp hi ht hk
    go_enter Try.func17, Try.ntmps17
    go_wp2_with (go_at_call 27; refine HA.mono ?_; rintro e w' ⟨rfl, rfl⟩)
    go_ret
    exact ⟨rfl, HP.out, Fr.refl _ _⟩
set_option maxRecDepth 100000 in
set_option maxHeartbeats 4000000 in
theorem dsent_any {B : Nat} {c : Cu} {db rb tb eb : Nat} {w : World} (h : DT B c db rb tb eb w) (hB : B ≤ 1000000) (i t : Int) :
    Calls Try.prog 13 #[pp db, .int .i64 i, .int .i64 t] w fun e w' => e = .returned (.tuple #[.int .i64 (senK c i t), .int .i64 (senE c i t)]) ∧ DT (B + 1) (senC c i t) db rb tb eb w' ∧ Fr (DS db rb tb eb) w w' := by
  have HA := dis_any h i
  have VA := refvalid_any t
  have HP : Hid (DT (B + 1) c db rb tb eb w) := h.wide (Nat.le_succ _)
  have no : senE c i t = 1 → senC c i t = c ∧ senK c i t = 0 := fun e => ⟨by unfold senC; rw [if_neg (by rw [e]; decide)], by unfold senK; rw [if_neg (by rw [e]; decide)]⟩
  cases hp : isP c i
  · have e : senE c i t = 1 := by unfold senE; rw [if_neg (by simp [hp])]
    rw [e, (no e).1, (no e).2]
    rw [hp] at HA
    clear h no e hp
    go_enter Try.func13, Try.ntmps13
    go_wp2_with (go_at_call 27; refine HA.mono ?_; rintro e w' ⟨rfl, rfl⟩)
    go_ret2
    exact ⟨rfl, HP.out, Fr.refl _ _⟩
  rw [hp] at HA
  cases hv : okT t
  · have e : senE c i t = 1 := by unfold senE; rw [if_neg (by simp [hv])]
    rw [e, (no e).1, (no e).2]
    simp only [hv] at VA
    clear h no e hp hv
    go_enter Try.func13, Try.ntmps13
    go_wp2_with (first | (go_at_call 27; refine HA.mono ?_; rintro e w' ⟨rfl, rfl⟩) | (go_at_call 28; refine (VA _).mono ?_; rintro e w' ⟨rfl, rfl⟩))
    go_ret2
    exact ⟨rfl, HP.out, Fr.refl _ _⟩
  simp only [hv] at VA
  have e : senE c i t = 0 := by unfold senE; rw [if_pos ⟨hp, hv⟩]
  obtain ⟨k, rfl, hk⟩ := isP_yes hp
  have hk' : (k : Int) < (c.co.length : Int) := by omega
  have hq2 := h.ok.col2 hk
  have eK : senK c k t = c.co.getD k 0 := by unfold senK; rw [if_pos e]; simp [K.col]
  have eS : senC c k t = (let d := addOn c (c.co.getD k 0) 1; if c.is = true ∧ tud c k = true then { d with le := min d.le t } else d) := by unfold senC; rw [if_pos e]; simp only [K.col, Int.toNat_natCast]
  have ok := h.ok.sen k t
  rw [eS] at ok ⊢
  rw [eK, e]
  obtain ⟨q, hq⟩ : ∃ q, c.co.getD k 0 = q := ⟨_, rfl⟩
  rw [hq] at hq2 ok ⊢
  obtain ⟨b0, b1⟩ := h.ok.onB q
  have okA : OK (B + 1) (addOn c q 1) := h.ok.add (Nat.le_succ _) (fun _ => by have := h.ok.p0; have := h.ok.h0; omega) (fun _ => by have := h.ok.p1; have := h.ok.h1; omega)
  have hN := (h.add hq2 okA).drew
  obtain ⟨o1, o2⟩ := h.onWay hq2
  have c0 : w.cell? ⟨db, 0, none⟩ = some (.slice (some ⟨rb, 0, none⟩) c.co.length c.co.length) := h.rcd.at (i := 0) (by omega) rfl
  have cr := h.rco.at hk (v := .int .i64 q) (by rw [hq])
  obtain ⟨er1, er2, er3, er4, er5, er6, _, _⟩ := addOn_rest c q 1
  obtain ⟨o, ho⟩ : ∃ o, on c q = o := ⟨_, rfl⟩
  rw [ho] at b0 b1 hN o1
  have ho1 : o ≤ 1000000 := by omega
  obtain ⟨W1, hW1⟩ : ∃ W1, (w.setCell ⟨db, 3 + q.toNat, none⟩ (.int .i64 (o + 1))).drew = W1 := ⟨_, rfl⟩
  rw [hW1] at hN
  have HF : Hid (Fr (DS db rb tb eb) w W1) := by rw [← hW1]; exact (frD1 w _ _ _ (.inl rfl)).drew
  have a5 : W1.cell? ⟨db, 5, none⟩ = some (.bool c.is) := by rw [← er4]; exact hN.rcd.at (i := 5) (by omega) rfl
  have a1 : W1.cell? ⟨db, 1, none⟩ = some (.slice (some ⟨tb, 0, none⟩) c.co.length c.co.length) := by rw [← er1]; exact hN.rcd.at (i := 1) (by omega) rfl
  have a0 : W1.cell? ⟨db, 0, none⟩ = some (.slice (some ⟨rb, 0, none⟩) c.co.length c.co.length) := by rw [← er1]; exact hN.rcd.at (i := 0) (by omega) rfl
  have a7 : W1.cell? ⟨db, 7, none⟩ = some (.int .i64 c.le) := by rw [← er6]; exact hN.rcd.at (i := 7) (by omega) rfl
  have f7 := (hN.rcd.c 7 (by omega)).2
  have hk1 : k < (addOn c q 1).co.length := by rw [er1]; exact hk
  have at' := hN.rtu.at hk1 rfl
  rw [er2] at at'
  have ar := hN.rco.at hk1 (v := .int .i64 q) (by rw [er1, hq])
  have HN : Hid (DT (B + 1) (addOn c q 1) db rb tb eb W1) := hN
  have hdl := h.rcd.lt
  have hrl := h.rco.lt
  have n1' := h.n1
  have n1'' : db ≠ rb := fun e => h.n1 e.symm
  have fin : ∀ (b1 b2 : Bool), c.is = b1 → c.tu.getD k false = b2 → ((c.is = true ∧ tud c k = true) ↔ (b1 = true ∧ b2 = true)) := fun b1 b2 e1 e2 => by unfold tud; rw [Int.toNat_natCast, e1, e2]
  cases hi : c.is
  · dsimp only
    rw [if_neg (fun g => by cases g.1)]
    rw [hi] at a5
    generalize c.co.length = n at c0 a1 a0 hk'
    rcases hq2 with rfl | rfl
    all_goals
      simp only [Int.toNat_zero, Int.toNat_one, Nat.add_zero, Nat.reduceAdd] at o1 o2 hW1
      clear h no e hp hv b1 hB hk eK eS ok okA hN fin hi er1 er2 er3 er4 er5 er6 ho hq hk1
      go_enter Try.func13, Try.ntmps13
      go_wp2_with (first | (go_at_call 27; refine HA.mono ?_; rintro e w' ⟨rfl, rfl⟩) | (go_at_call 28; refine (VA _).mono ?_; rintro e w' ⟨rfl, rfl⟩))
      go_region
      go_wp2
      go_ret2
      exact ⟨rfl, HN.out, HF.out⟩
  · cases ht : c.tu.getD k false
    · dsimp only
      rw [if_neg (fun g => by have := ((fin _ _ hi ht).1 ⟨hi, g.2⟩).2; cases this)]
      rw [hi] at a5
      rw [ht] at at'
      generalize c.co.length = n at c0 a1 a0 hk'
      rcases hq2 with rfl | rfl
      all_goals
        simp only [Int.toNat_zero, Int.toNat_one, Nat.add_zero, Nat.reduceAdd] at o1 o2 hW1
        clear h no e hp hv b1 hB hk eK eS ok okA hN fin hi ht er1 er2 er3 er4 er5 er6 ho hq hk1
        go_enter Try.func13, Try.ntmps13
        go_wp2_with (first | (go_at_call 27; refine HA.mono ?_; rintro e w' ⟨rfl, rfl⟩) | (go_at_call 28; refine (VA _).mono ?_; rintro e w' ⟨rfl, rfl⟩))
        go_region
        go_wp2
        go_ret2
        exact ⟨rfl, HN.out, HF.out⟩
    · dsimp only
      rw [if_pos (show true = true ∧ tud c k = true from ⟨rfl, ((fin _ _ hi ht).2 ⟨rfl, rfl⟩).2⟩)]
      rw [hi] at a5
      rw [ht] at at'
      obtain ⟨mn, hmn⟩ : ∃ mn, min c.le t = mn := ⟨_, rfl⟩
      have okM : OK (B + 1) { addOn c q 1 with le := min (addOn c q 1).le t } := okA.less _
      have HM : Hid (DT (B + 1) { addOn c q 1 with le := min (addOn c q 1).le t } db rb tb eb (W1.setCell ⟨db, 7, none⟩ (.int .i64 mn))) :=
        hN.wr 7 _ okM rfl rfl rfl (dv_of rfl rfl rfl rfl rfl rfl rfl (by rw [er6, hmn]; rfl) rfl rfl)
      have z0 : (W1.setCell ⟨db, 7, none⟩ (.int .i64 mn)).cell? ⟨db, 0, none⟩ = some (.slice (some ⟨rb, 0, none⟩) c.co.length c.co.length) := by rw [← er1]; exact (hN.rcd.set 7 _).at (i := 0) (by omega) rfl
      have zr : (W1.setCell ⟨db, 7, none⟩ (.int .i64 mn)).cell? ⟨rb, k, none⟩ = some (.int .i64 q) := ((fr1 W1 db 7 _).cell (p := ⟨rb, k, none⟩) hN.rco.lt h.n1).trans ar
      generalize c.le = le0 at a7 hmn
      generalize c.co.length = n at c0 a1 a0 hk' z0
      rcases hq2 with rfl | rfl
      all_goals
        simp only [Int.toNat_zero, Int.toNat_one, Nat.add_zero, Nat.reduceAdd] at o1 o2 hW1
        clear h no e hp hv b1 hB hk eK eS ok okA hN fin hi ht er1 er2 er3 er4 er5 er6 ho hq hk1 okM
        go_enter Try.func13, Try.ntmps13
        go_wp2_with (first | (go_at_call 27; refine HA.mono ?_; rintro e w' ⟨rfl, rfl⟩) | (go_at_call 28; refine (VA _).mono ?_; rintro e w' ⟨rfl, rfl⟩))
        go_region
        go_wp2
        go_ret2
        exact ⟨rfl, HM.out, frD HF.out _ _ _ (.inl rfl)⟩
end Go.Proofs.Ytdfjmnckgcpmgaa
