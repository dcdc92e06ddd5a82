/- Proved: contracts of all, Report, New of the document's cut. -/
import Derived.Test.YtdfjmnckgcpmgaaDc1
namespace Go.Proofs.Ytdfjmnckgcpmgaa
open Go.RowKit Go.Shelf
open K
set_option linter.unusedVariables false

set_option maxHeartbeats 1000000 in
theorem dall_any {w : World} {b n : Nat} {g : Nat → Bool} (h : Rv w b n (fun i => .bool (g i))) (hn : n ≤ 8) :
    Calls Try.prog 34 #[.slice (some ⟨b, 0, none⟩) n n] w fun e w' => e = .returned (.bool (allN n g)) ∧ w = w' := by
  have HR : Hid (Rv w b n (fun i => .bool (g i))) := h
  obtain ⟨A, hA⟩ : ∃ A, allN n g = A := ⟨_, rfl⟩
  have HA : Hid (allN n g = A) := hA
  rw [hA]
  clear h hA
  go_enter Try.func34, Try.ntmps34
  go_wp2
  go_loop [3] (fun s => ∃ i : Nat, s = .int .i64 i ∧ i ≤ n ∧ Hid (∀ j, j < i → g j = true)) (fun s => n - (intOf s).toNat)
  case atStart => exact ⟨0, rfl, Nat.zero_le _, (fun j hj => by omega : ∀ j, j < 0 → g j = true)⟩
  case round =>
    obtain ⟨i, rfl, hi, HI⟩ := hrel
    by_cases hlt : i < n
    · have hlt' : (i : Int) < (n : Int) := by omega
      have cx := HR.out.at hlt rfl
      obtain ⟨x, hx⟩ : ∃ x, g i = x := ⟨_, rfl⟩
      rw [hx] at cx
      have HX : Hid (g i = x) := hx
      clear hx
      cases x
      · go_wp2
        go_ret
        refine ⟨?_, rfl⟩
        rw [← HA.out, allN_no hlt HX.out]
        rfl
      · go_wp2
        go_round
        case rel => exact ⟨i + 1, by go_num, by omega, (fun j hj => by
          by_cases e : j = i
          · rw [e]; exact HX.out
          · exact HI.out j (by omega) : ∀ j, j < i + 1 → g j = true)⟩
        case measure => simp [intOf]; omega
    · obtain rfl : i = n := by omega
      go_wp2
      go_ret
      refine ⟨?_, rfl⟩
      rw [← HA.out, allN_yes HI.out]
      rfl
theorem allN_B {l : List Bool} {n : Nat} (h : l.length = n) : allN n (fun i => l.getD i false) = allB l := by
  cases ha : allB l
  · cases hh : allN n (fun i => l.getD i false)
    · rfl
    · have : allB l = true := allB_iff.2 (fun i hi => allN_iff.1 hh i (by rw [← h]; exact hi))
      rw [ha] at this
      cases this
  · exact allN_yes (fun i hi => allB_iff.1 ha i (by rw [h]; exact hi))
theorem DT.told {B : Nat} {c : Cu} {db rb tb eb : Nat} {w : World} (h : DT B c db rb tb eb w) {k : Nat} (hk : k < c.co.length) (mn : Int) : DT B { c with re := c.re.set k true, le := mn } db rb tb eb ((w.setCell ⟨eb, k, none⟩ (.bool true)).setCell ⟨db, 7, none⟩ (.int .i64 mn)) := by
  have hkr : k < c.re.length := by rw [h.ok.lr]; exact hk
  have F1 : Fr (fun k => k = eb) w (w.setCell ⟨eb, k, none⟩ (.bool true)) := fr1 w eb k _
  have F2 : Fr (fun k => k = db) (w.setCell ⟨eb, k, none⟩ (.bool true)) ((w.setCell ⟨eb, k, none⟩ (.bool true)).setCell ⟨db, 7, none⟩ (.int .i64 mn)) := fr1 _ db 7 _
  refine ⟨{ h.ok with lr := by show (c.re.set _ _).length = c.co.length; rw [List.length_set]; exact h.ok.lr }, ((h.rcd.keep F1 (fun e => h.n3 e.symm)).set 7 _).same (dv_of rfl rfl rfl rfl rfl rfl rfl rfl rfl rfl), (h.rco.keep F1 h.n5).keep F2 h.n1, (h.rtu.keep F1 h.n6).keep F2 h.n2, ?_, h.n1, h.n2, h.n3, h.n4, h.n5, h.n6⟩
  refine ((h.rre.set k (.bool true)).keep F2 h.n3).same (fun j hj => ?_)
  show upV _ k _ j = Value.bool ((c.re.set k true).getD j false)
  unfold upV
  rw [set_getD c.re false true k j hkr]
  split <;> rfl
theorem DT.over {B : Nat} {c : Cu} {db rb tb eb : Nat} {w : World} (h : DT B c db rb tb eb w) {v' : Int} (ok : OK (B + 1) { c with is := false, v := v', r := c.r + 1 }) : DT (B + 1) { c with is := false, v := v', r := c.r + 1 } db rb tb eb (((w.setCell ⟨db, 5, none⟩ (.bool false)).setCell ⟨db, 8, none⟩ (.int .i64 v')).drew.setCell ⟨db, 9, none⟩ (.int .i64 (c.r + 1))) := by
  have F : Fr (fun k => k = db) w (((w.setCell ⟨db, 5, none⟩ (.bool false)).setCell ⟨db, 8, none⟩ (.int .i64 v')).drew.setCell ⟨db, 9, none⟩ (.int .i64 (c.r + 1))) := fr_set (fr_set (fr1 w db 5 _) 8 _).drew 9 _
  have y := ((h.rcd.set 5 (.bool false)).set 8 (.int .i64 v')).keep (Fr.drew (Fr.refl (fun _ => False) _)) (fun g => g)
  exact ⟨ok, (y.set 9 _).same (dv_of rfl rfl rfl rfl rfl rfl rfl rfl rfl rfl), h.rco.keep F h.n1, h.rtu.keep F h.n2, h.rre.keep F h.n3, h.n1, h.n2, h.n3, h.n4, h.n5, h.n6⟩
set_option maxRecDepth 100000 in
set_option maxHeartbeats 4000000 in
theorem dreport_any {B : Nat} {c : Cu} {db rb tb eb : Nat} {w : World} (h : DT B c db rb tb eb w) (hB : B ≤ 1000000) (i t : Int) :
    Calls Try.prog 19 #[pp db, .int .i64 i, .int .i64 t] w fun e w' => e = .returned (.int .i64 (repE c i t)) ∧ DT (B + 1) (repC c i t) db rb tb eb w' ∧ Fr (DS db rb tb eb) w w' := by
  have HA := dis_any h i
  have VA := refvalid_any t
  have HP : Hid (DT (B + 1) c db rb tb eb w) := h.wide (Nat.le_succ _)
  have no : repE c i t ≠ 0 → repC c i t = c := fun e => by unfold repC; rw [if_neg e]
  cases hp : isP c i
  · have e : repE c i t = 1 := by unfold repE; rw [if_pos (by simp [hp])]
    rw [no (by rw [e]; decide), e]
    rw [hp] at HA
    clear h no e hp
    go_enter Try.func19, Try.ntmps19
    go_wp2_with (go_at_call 27; refine HA.mono ?_; rintro e w' ⟨rfl, rfl⟩)
    go_ret
    exact ⟨rfl, HP.out, Fr.refl _ _⟩
  rw [hp] at HA
  cases hv : okT t
  · have e : repE c i t = 1 := by unfold repE; rw [if_pos (by simp [hv])]
    rw [no (by rw [e]; decide), e]
    simp only [hv] at VA
    clear h no e hp hv
    go_enter Try.func19, Try.ntmps19
    go_wp2_with (first | (go_at_call 27; refine HA.mono ?_; rintro e w' ⟨rfl, rfl⟩) | (go_at_call 28; refine (VA _).mono ?_; rintro e w' ⟨rfl, rfl⟩))
    go_ret
    exact ⟨rfl, HP.out, Fr.refl _ _⟩
  simp only [hv] at VA
  obtain ⟨k, rfl, hk⟩ := isP_yes hp
  have hk' : (k : Int) < (c.co.length : Int) := by omega
  have g0 : ¬ ¬ (isP c k = true ∧ okT t = true) := fun g => g ⟨hp, hv⟩
  have c5 : w.cell? ⟨db, 5, none⟩ = some (.bool c.is) := h.rcd.at (i := 5) (by omega) rfl
  cases hi : c.is
  · have e : repE c k t = 130 := by unfold repE; rw [if_neg g0, if_pos (.inl hi)]
    rw [no (by rw [e]; decide), e]
    rw [hi] at c5
    clear h no e hp hv g0 hk hi
    go_enter Try.func19, Try.ntmps19
    go_wp2_with (first | (go_at_call 27; refine HA.mono ?_; rintro e w' ⟨rfl, rfl⟩) | (go_at_call 28; refine (VA _).mono ?_; rintro e w' ⟨rfl, rfl⟩))
    go_ret
    exact ⟨rfl, HP.out, Fr.refl _ _⟩
  have AT := dall_any h.rtu h.ok.n8
  rw [allN_B h.ok.lt] at AT
  have c1 : w.cell? ⟨db, 1, none⟩ = some (.slice (some ⟨tb, 0, none⟩) c.co.length c.co.length) := h.rcd.at (i := 1) (by omega) rfl
  rw [hi] at c5
  cases ht : allB c.tu
  · have e : repE c k t = 130 := by unfold repE; rw [if_neg g0, if_pos (.inr (.inl ht))]
    rw [no (by rw [e]; decide), e]
    rw [ht] at AT
    generalize c.co.length = n at c1 AT hk'
    clear h no e hp hv g0 hk hi ht
    go_enter Try.func19, Try.ntmps19
    go_wp2_with (first | (go_at_call 27; refine HA.mono ?_; rintro e w' ⟨rfl, rfl⟩) | (go_at_call 28; refine (VA _).mono ?_; rintro e w' ⟨rfl, rfl⟩) | (go_at_call 34; refine AT.mono ?_; rintro e w' ⟨rfl, rfl⟩))
    go_ret
    exact ⟨rfl, HP.out, Fr.refl _ _⟩
  rw [ht] at AT
  have c2 : w.cell? ⟨db, 2, none⟩ = some (.slice (some ⟨eb, 0, none⟩) c.co.length c.co.length) := h.rcd.at (i := 2) (by omega) rfl
  have cr := h.rre.at hk rfl
  have fr := (h.rre.c k hk).2
  cases hr : c.re.getD k false
  · have er : red c k = false := by unfold red; rw [Int.toNat_natCast]; exact hr
    have g1 : ¬ (c.is = false ∨ allB c.tu = false ∨ red c k = true) := by rw [hi, ht, er]; simp
    rw [hr] at cr
    have hod := h.ok.od
    have c6 : w.cell? ⟨db, 6, none⟩ = some (.int .i64 c.old) := h.rcd.at (i := 6) (by omega) rfl
    have con := (h.onWay hod).1
    by_cases hon : 0 < on c c.old
    · have e : repE c k t = 150 := by unfold repE; rw [if_neg g0, if_neg g1, if_pos hon]
      rw [no (by rw [e]; decide), e]
      obtain ⟨o, ho⟩ : ∃ o, on c c.old = o := ⟨_, rfl⟩
      obtain ⟨q, hq⟩ : ∃ q, c.old = q := ⟨_, rfl⟩
      rw [ho] at con hon
      rw [hq] at con c6 hod
      generalize c.co.length = n at c1 c2 AT hk'
      clear h no e hp hv g0 g1 hk hi ht hr er ho hq
      rcases hod with rfl | rfl
      all_goals
        simp only [Int.toNat_zero, Int.toNat_one, Nat.add_zero, Nat.reduceAdd] at con
        go_enter Try.func19, Try.ntmps19
        go_wp2_with (first | (go_at_call 27; refine HA.mono ?_; rintro e w' ⟨rfl, rfl⟩) | (go_at_call 28; refine (VA _).mono ?_; rintro e w' ⟨rfl, rfl⟩) | (go_at_call 34; refine AT.mono ?_; rintro e w' ⟨rfl, rfl⟩))
        go_quiet (fail)
        go_wp2
        go_ret
        exact ⟨rfl, HP.out.below ⟨rfl, rfl, rfl, Nat.le_refl _, fun _ _ => rfl⟩, Fr.of_below ⟨rfl, rfl, rfl, Nat.le_refl _, fun _ _ => rfl⟩⟩
    · have e : repE c k t = 0 := by unfold repE; rw [if_neg g0, if_neg g1, if_neg hon]
      have e2 : repC c k t = (let re' := c.re.set k true; let le' := min c.le t; if allB re' = true then { c with re := re', le := le', is := false, v := max c.v le', r := c.r + 1 } else { c with re := re', le := le' }) := by unfold repC; rw [if_pos e, Int.toNat_natCast]
      have ok := h.ok.rep k t
      rw [e2] at ok ⊢
      rw [e]
      dsimp only at ok ⊢
      obtain ⟨mn, hmn⟩ : ∃ mn, min c.le t = mn := ⟨_, rfl⟩
      obtain ⟨re', hre⟩ : ∃ re', c.re.set k true = re' := ⟨_, rfl⟩
      have hrl : re'.length = c.co.length := by rw [← hre, List.length_set]; exact h.ok.lr
      have HT : Hid (∀ W, DT B c db rb tb eb W → DT B { c with re := re', le := mn } db rb tb eb ((W.setCell ⟨eb, k, none⟩ (.bool true)).setCell ⟨db, 7, none⟩ (.int .i64 mn))) := fun W hW => by rw [← hre]; exact hW.told hk mn
      rw [hmn, hre] at ok ⊢
      have HD : Hid (∀ n1, DT B c db rb tb eb (w.drewN n1)) := fun n1 => h.below ⟨rfl, rfl, rfl, Nat.le_refl _, fun _ _ => rfl⟩
      have HF : Hid (∀ n1, Fr (DS db rb tb eb) w (((w.drewN n1).setCell ⟨eb, k, none⟩ (.bool true)).setCell ⟨db, 7, none⟩ (.int .i64 mn))) := fun n1 => frD (frD ((Fr.refl _ w).drewN n1) _ _ _ (.inr (.inr (.inr rfl)))) _ _ _ (.inl rfl)
      have AR : Hid (∀ W, DT B { c with re := re', le := mn } db rb tb eb W → Calls Try.prog 34 #[.slice (some ⟨eb, 0, none⟩) c.co.length c.co.length] W fun e w' => e = .returned (.bool (allB re')) ∧ W = w') := fun W hW => by
        have := dall_any hW.rre hW.ok.n8
        rw [allN_B hrl] at this
        exact this
      have HC : Hid (∀ W, DT B c db rb tb eb W → W.cell? ⟨db, 2, none⟩ = some (.slice (some ⟨eb, 0, none⟩) c.co.length c.co.length) ∧ W.cell? ⟨eb, k, none⟩ = some (.bool false) ∧ W.frozen? ⟨eb, k, none⟩ = false ∧ (W.setCell ⟨eb, k, none⟩ (.bool true)).cell? ⟨db, 7, none⟩ = some (.int .i64 c.le) ∧ (W.setCell ⟨eb, k, none⟩ (.bool true)).frozen? ⟨db, 7, none⟩ = false) := fun W hW => by
        have y := hW.rcd.keep (fr1 W eb k (.bool true)) (fun e => hW.n3 e.symm)
        exact ⟨hW.rcd.at (i := 2) (by omega) rfl, hW.rre.at hk (by rw [hr]), (hW.rre.c k hk).2, y.at (i := 7) (by omega) rfl, (y.c 7 (by omega)).2⟩
      have HC2 : Hid (∀ W, DT B { c with re := re', le := mn } db rb tb eb W → W.cell? ⟨db, 2, none⟩ = some (.slice (some ⟨eb, 0, none⟩) c.co.length c.co.length) ∧ W.cell? ⟨db, 5, none⟩ = some (.bool true) ∧ W.frozen? ⟨db, 5, none⟩ = false ∧ (W.setCell ⟨db, 5, none⟩ (.bool false)).cell? ⟨db, 8, none⟩ = some (.int .i64 c.v) ∧ (W.setCell ⟨db, 5, none⟩ (.bool false)).frozen? ⟨db, 8, none⟩ = false ∧ (W.setCell ⟨db, 5, none⟩ (.bool false)).cell? ⟨db, 7, none⟩ = some (.int .i64 mn) ∧ (∀ x, ((W.setCell ⟨db, 5, none⟩ (.bool false)).setCell ⟨db, 8, none⟩ x).drew.cell? ⟨db, 9, none⟩ = some (.int .i64 c.r)) ∧ (∀ x, ((W.setCell ⟨db, 5, none⟩ (.bool false)).setCell ⟨db, 8, none⟩ x).drew.frozen? ⟨db, 9, none⟩ = false)) := fun W hW => by
        have y := hW.rcd.set 5 (.bool false)
        exact ⟨hW.rcd.at (i := 2) (by omega) rfl, hW.rcd.at (i := 5) (by omega) (by show Value.bool c.is = _; rw [hi]), (hW.rcd.c 5 (by omega)).2, y.at (i := 8) (by omega) rfl, (y.c 8 (by omega)).2, y.at (i := 7) (by omega) rfl, fun x => (y.set 8 x).at (i := 9) (by omega) rfl, fun x => ((y.set 8 x).c 9 (by omega)).2⟩
      obtain ⟨A, hA⟩ : ∃ A, allB re' = A := ⟨_, rfl⟩
      have hr0 := h.ok.r0
      have hr1 : c.r ≤ 1000000 := by have := h.ok.r1; omega
      rw [hA] at AR
      obtain ⟨o, ho⟩ : ∃ o, on c c.old = o := ⟨_, rfl⟩
      obtain ⟨q, hq⟩ : ∃ q, c.old = q := ⟨_, rfl⟩
      rw [ho] at con hon
      rw [hq] at con c6 hod
      cases A
      · rw [if_neg (by rw [hA]; decide)]
        generalize c.le = le0 at HC hmn
        generalize c.co.length = n at c1 c2 AT hk' HC HC2 AR hrl
        clear h no e e2 hp hv g0 g1 hk hi ht hr er ho hq hA ok hre hr0 hr1 hrl
        rcases hod with rfl | rfl
        all_goals
          simp only [Int.toNat_zero, Int.toNat_one, Nat.add_zero, Nat.reduceAdd] at con
          go_enter Try.func19, Try.ntmps19
          go_wp2_with (first | (go_at_call 27; refine HA.mono ?_; rintro e w' ⟨rfl, rfl⟩) | (go_at_call 28; refine (VA _).mono ?_; rintro e w' ⟨rfl, rfl⟩) | (go_at_call 34; refine AT.mono ?_; rintro e w' ⟨rfl, rfl⟩))
          go_quiet (fail)
          have HT2 : Hid _ := HT.out _ (HD.out nq)
          obtain ⟨x1, x2, x3, x4, x5⟩ := HC.out _ (HD.out nq)
          have x6 := (HC2.out _ (HT.out _ (HD.out nq))).1
          go_wp2_with (go_at_call 34; refine (Hid.out AR _ (Hid.out HT2)).mono ?_; rintro e w' ⟨rfl, rfl⟩)
          go_ret
          exact ⟨rfl, (HT.out _ (HD.out nq)).wide (Nat.le_succ _), HF.out nq⟩
      · rw [if_pos hA] at ok
        rw [if_pos hA]
        obtain ⟨mx, hmx⟩ : ∃ mx, max c.v mn = mx := ⟨_, rfl⟩
        rw [hmx] at ok ⊢
        have HO : Hid (∀ W, DT B { c with re := re', le := mn } db rb tb eb W → DT (B + 1) { c with re := re', le := mn, is := false, v := mx, r := c.r + 1 } db rb tb eb (((W.setCell ⟨db, 5, none⟩ (.bool false)).setCell ⟨db, 8, none⟩ (.int .i64 mx)).drew.setCell ⟨db, 9, none⟩ (.int .i64 (c.r + 1)))) := fun W hW => hW.over ok
        generalize c.le = le0 at HC hmn
        generalize c.co.length = n at c1 c2 AT hk' HC HC2 AR hrl
        obtain ⟨r0, hrr⟩ : ∃ r0, c.r = r0 := ⟨_, rfl⟩
        obtain ⟨v0, hv0⟩ : ∃ v0, c.v = v0 := ⟨_, rfl⟩
        rw [hrr] at hr0 hr1
        rw [hv0] at hmx
        have HR : Hid (c.r = r0) := hrr
        have HV0 : Hid (c.v = v0) := hv0
        clear h no e e2 hp hv g0 g1 hk hi ht hr er ho hq hA ok hre hrl hv0 hrr
        rcases hod with rfl | rfl
        all_goals
          simp only [Int.toNat_zero, Int.toNat_one, Nat.add_zero, Nat.reduceAdd] at con
          go_enter Try.func19, Try.ntmps19
          go_wp2_with (first | (go_at_call 27; refine HA.mono ?_; rintro e w' ⟨rfl, rfl⟩) | (go_at_call 28; refine (VA _).mono ?_; rintro e w' ⟨rfl, rfl⟩) | (go_at_call 34; refine AT.mono ?_; rintro e w' ⟨rfl, rfl⟩))
          go_quiet (fail)
          have HT2 := HT.out _ (HD.out nq)
          have HF2 := HF.out nq
          obtain ⟨x1, x2, x3, x4, x5⟩ := HC.out _ (HD.out nq)
          obtain ⟨W2, hW2⟩ : ∃ W2, ((w.drewN nq).setCell ⟨eb, k, none⟩ (.bool true)).setCell ⟨db, 7, none⟩ (.int .i64 mn) = W2 := ⟨_, rfl⟩
          rw [hW2] at HT2 HF2
          obtain ⟨y1, y2, y3, y4, y5, y6, y7, y8⟩ := HC2.out _ HT2
          have y7' := y7 (.int .i64 mx)
          have y8' := y8 (.int .i64 mx)
          rw [HR.out] at y7'
          rw [HV0.out] at y4
          have HT3 : Hid _ := HT2
          have HF3 : Hid (Fr (DS db rb tb eb) w W2) := HF2
          clear y7 y8 HT2 HF2
          go_wp2_with (go_at_call 34; refine (Hid.out AR _ (Hid.out HT3)).mono ?_; rintro e w' ⟨rfl, rfl⟩)
          go_region
          go_wp2
          go_ret
          have hO := HO.out _ HT3.out
          rw [HR.out] at hO
          rw [HR.out]
          exact ⟨rfl, hO, frD (frD (frD HF3.out _ _ _ (.inl rfl)) _ _ _ (.inl rfl)).drew _ _ _ (.inl rfl)⟩
  · have e : repE c k t = 130 := by
      unfold repE
      rw [if_neg g0, if_pos (.inr (.inr (by unfold red; rw [Int.toNat_natCast]; exact hr)))]
    rw [no (by rw [e]; decide), e]
    rw [hr] at cr
    generalize c.co.length = n at c1 c2 AT hk'
    clear h no e hp hv g0 hk hi ht hr
    go_enter Try.func19, Try.ntmps19
    go_wp2_with (first | (go_at_call 27; refine HA.mono ?_; rintro e w' ⟨rfl, rfl⟩) | (go_at_call 28; refine (VA _).mono ?_; rintro e w' ⟨rfl, rfl⟩) | (go_at_call 34; refine AT.mono ?_; rintro e w' ⟨rfl, rfl⟩))
    go_ret
    exact ⟨rfl, HP.out, Fr.refl _ _⟩
end Go.Proofs.Ytdfjmnckgcpmgaa
