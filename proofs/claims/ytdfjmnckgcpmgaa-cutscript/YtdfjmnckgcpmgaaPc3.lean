/- Proved: the contract of Report of the program's cut. -/
import Derived.Test.YtdfjmnckgcpmgaaPc2
namespace Go.Proofs.Ytdfjmnckgcpmgaa
open Go.RowKit Go.Shelf
open K
set_option linter.unusedVariables false

set_option maxRecDepth 100000 in
set_option maxHeartbeats 4000000 in
theorem report_any {B : Nat} {c : Cu} {b : Nat} {w : World} (h : PT B c b w) (hB : B ≤ 1000000) (i t : Int) :
    Calls Try.prog 18 #[pp b, .int .i64 i, .int .i64 t] w fun e w' => e = .returned (.int .i64 (repE c i t)) ∧ PT (B + 1) (repC c i t) b w' ∧ Fr (fun k => k = b) w w' := by
  have HA := has_any h i
  have VA := valid_any t
  have HP : Hid (PT (B + 1) c b w) := ⟨h.ok.wide (Nat.le_succ _), h.blk⟩
  have no : repE c i t ≠ 0 → repC c i t = c := fun e => by unfold repC; rw [if_neg e]
  cases hp : isP c i
  · have e : repE c i t = 1 := by unfold repE; rw [if_pos (by simp [hp])]
    rw [no (by rw [e]; decide), e]
    rw [hp] at HA
    clear h no e hp
    go_enter Try.func18, Try.ntmps18
    go_wp2_with (go_at_call 25; refine HA.mono ?_; rintro e w' ⟨rfl, rfl⟩)
    go_ret
    exact ⟨rfl, HP.out, Fr.refl _ _⟩
  rw [hp] at HA
  cases hv : okT t
  · have e : repE c i t = 1 := by unfold repE; rw [if_pos (by simp [hv])]
    rw [no (by rw [e]; decide), e]
    simp only [hv] at VA
    clear h no e hp hv
    go_enter Try.func18, Try.ntmps18
    go_wp2_with (first | (go_at_call 25; refine HA.mono ?_; rintro e w' ⟨rfl, rfl⟩) | (go_at_call 26; refine (VA _).mono ?_; rintro e w' ⟨rfl, rfl⟩))
    go_ret
    exact ⟨rfl, HP.out, Fr.refl _ _⟩
  simp only [hv] at VA
  have AT := allT_any h
  obtain ⟨k, rfl, hk⟩ := isP_yes hp
  have hk8 : k < 8 := by have := h.ok.n8; omega
  have hk8' : (k : Int) < 8 := by omega
  have g0 : ¬ ¬ (isP c k = true ∧ okT t = true) := fun g => g ⟨hp, hv⟩
  cases ha : (c.is && allB c.tu)
  · have e : repE c k t = 130 := by
      unfold repE
      rw [if_neg g0, if_pos]
      cases h1 : c.is
      · exact .inl rfl
      · rw [h1] at ha
        exact .inr (.inl (by simpa using ha))
    rw [no (by rw [e]; decide), e]
    rw [ha] at AT
    clear h no e hp hv g0 ha hk
    go_enter Try.func18, Try.ntmps18
    go_wp2_with (first | (go_at_call 25; refine HA.mono ?_; rintro e w' ⟨rfl, rfl⟩) | (go_at_call 26; refine (VA _).mono ?_; rintro e w' ⟨rfl, rfl⟩) | (go_at_call 30; refine AT.mono ?_; rintro e w1 ⟨rfl, h1⟩; have H1 : Hid (Below w.heap.size w w1) := h1; clear h1))
    go_ret
    exact ⟨rfl, HP.out.below H1.out, Fr.of_below H1.out⟩
  rw [ha] at AT
  obtain ⟨hi, ht⟩ : c.is = true ∧ allB c.tu = true := by simpa using ha
  have HPT : Hid (PT B c b w) := h
  have eP : pre c k = c.re.getD k false := by unfold pre; rw [hi]; rfl
  have cells : ∀ W, Below w.heap.size w W → W.cell? ⟨b, 1 + k * 2 + 1, none⟩ = some (.bool (c.re.getD k false)) ∧ W.frozen? ⟨b, 1 + k * 2 + 1, none⟩ = false ∧ W.cell? ⟨b, 17, none⟩ = some (.int .i64 c.old) ∧ W.cell? ⟨b, 18 + c.old.toNat, none⟩ = some (.int .i64 (on c c.old)) ∧ W.cell? ⟨b, 21, none⟩ = some (.int .i64 c.le) ∧ W.frozen? ⟨b, 21, none⟩ = false := fun W hW => by
    have h2 := h.below hW
    obtain ⟨le, hle, hb⟩ := h2.blk
    obtain rfl := hle hi
    refine ⟨?_, (hb.c _ (by omega)).2, ?_, (h2.onWay h.ok.od).1, hb.at (i := 21) (by omega) rfl, (hb.c 21 (by omega)).2⟩
    · rw [← eP]; exact hb.at (by omega) (pv_re c c.le hk8)
    · refine hb.at (i := 17) (by omega) ?_
      show Value.int .i64 (pk c) = _
      unfold pk
      rw [if_pos hi]
  cases hr : c.re.getD k false
  · have hod := h.ok.od
    have er : red c k = false := by unfold red; rw [Int.toNat_natCast]; exact hr
    have g1 : ¬ (c.is = false ∨ allB c.tu = false ∨ red c k = true) := by rw [hi, ht, er]; simp
    rw [hr] at cells
    by_cases hon : 0 < on c c.old
    · have e : repE c k t = 150 := by unfold repE; rw [if_neg g0, if_neg g1, if_pos hon]
      rw [no (by rw [e]; decide), e]
      generalize on c c.old = o at cells hon
      generalize c.old = q at cells hod
      have HC : Hid _ := cells
      rcases hod with rfl | rfl
      all_goals
        simp only [Int.toNat_zero, Int.toNat_one, Nat.add_zero, Nat.reduceAdd] at HC
        clear h no e hp hv g0 g1 ha hi ht hk hr er eP cells
        go_enter Try.func18, Try.ntmps18
        go_wp2_with (first | (go_at_call 25; refine HA.mono ?_; rintro e w' ⟨rfl, rfl⟩) | (go_at_call 26; refine (VA _).mono ?_; rintro e w' ⟨rfl, rfl⟩) | (go_at_call 30; refine AT.mono ?_; rintro e w1 ⟨rfl, h1⟩; have H1 : Hid (Below w.heap.size w w1) := h1; obtain ⟨x1, x2, x3, x4, x5, x6⟩ := Hid.out HC _ h1; clear h1))
        go_quiet (fail)
        go_wp2
        go_ret
        exact ⟨rfl, HP.out.below (Below.on H1.out ⟨rfl, rfl, rfl, Nat.le_refl _, fun _ _ => rfl⟩), Fr.of_below (Below.on H1.out ⟨rfl, rfl, rfl, Nat.le_refl _, fun _ _ => rfl⟩)⟩
    · have e : repE c k t = 0 := by unfold repE; rw [if_neg g0, if_neg g1, if_neg hon]
      have e2 : repC c k t = (let re' := c.re.set k true; let le' := min c.le t; if allB re' = true then { c with re := re', le := le', is := false, v := max c.v le', r := c.r + 1 } else { c with re := re', le := le' }) := by unfold repC; rw [if_pos e, Int.toNat_natCast]
      have ok := h.ok.rep k t
      rw [e2] at ok ⊢
      rw [e]
      dsimp only at ok ⊢
      obtain ⟨mn, hmn⟩ : ∃ mn, min c.le t = mn := ⟨_, rfl⟩
      obtain ⟨re', hre⟩ : ∃ re', c.re.set k true = re' := ⟨_, rfl⟩
      have HPW : Hid (∀ W, Below w.heap.size w W → PT B { c with re := re', le := mn } b ((W.setCell ⟨b, 1 + k * 2 + 1, none⟩ (.bool true)).setCell ⟨b, 21, none⟩ (.int .i64 mn))) := fun W hW => by
        rw [← hmn, ← hre]
        exact (h.below hW).told hi hk t
      rw [hmn, hre] at ok ⊢
      have AR : ∀ W, PT B { c with re := re', le := mn } b W → _ := fun W hW => allR_any hW hi
      have OV : allB re' = true → ∀ W, PT B { c with re := re', le := mn } b W → Calls Try.prog 33 #[pp b] W fun e w' => e = .returned (.tuple #[]) ∧ PT (B + 1) { c with re := re', le := mn, is := false, v := max c.v mn, r := c.r + 1 } b w' ∧ Fr (fun k => k = b) W w' := fun g W hW => by
        rw [if_pos g] at ok
        exact hW.over hB hi ht ok
      have hmn' : min c.le t = mn := hmn
      have hno : ¬ 0 < on c c.old := hon
      generalize on c c.old = o at cells hon hno
      obtain ⟨q, hq⟩ : ∃ q, c.old = q := ⟨_, rfl⟩
      rw [hq] at cells hod
      clear hq
      have HOV : Hid _ := OV
      have HC : Hid _ := cells
      obtain ⟨A, hA⟩ : ∃ A, allB re' = A := ⟨_, rfl⟩
      have HAR : Hid (∀ W, PT B { c with re := re', le := mn } b W → Calls Try.prog 30 #[pp b, .func (.func 32) #[] #[]] W fun e w' => e = .returned (.bool A) ∧ Below W.heap.size W w') := by
        rw [← hA]
        exact AR
      generalize c.le = le0 at HC hmn
      have HD : Hid (∀ (w1 : World) (n : Nat), Below w.heap.size w w1 → Below w.heap.size w (w1.drewN n)) := fun w1 n hb => Below.on hb ⟨rfl, rfl, rfl, Nat.le_refl _, fun _ _ => rfl⟩
      have hi0 : ¬ 0 < o := hno
      cases A
      · rw [if_neg (by rw [hA]; decide)]
        rcases hod with rfl | rfl
        all_goals
          simp only [Int.toNat_zero, Int.toNat_one, Nat.add_zero, Nat.reduceAdd] at HC
          clear h no e e2 hp hv g0 g1 ha hi ht hk hr er eP cells AR OV hA ok hre hmn' hon HOV
          go_enter Try.func18, Try.ntmps18
          go_wp2_with (first | (go_at_call 25; refine HA.mono ?_; rintro e w' ⟨rfl, rfl⟩) | (go_at_call 26; refine (VA _).mono ?_; rintro e w' ⟨rfl, rfl⟩) | (go_at_call 30; refine AT.mono ?_; rintro e w1 ⟨rfl, h1⟩; have H1 : Hid (Below w.heap.size w w1) := h1; obtain ⟨x1, x2, x3, x4, x5, x6⟩ := Hid.out HC _ h1; clear h1))
          go_quiet (fail)
          have H2 : Hid (∀ n, Below w.heap.size w (w1.drewN n)) := fun n => Hid.out HD _ _ (Hid.out H1)
          go_wp2_with (go_at_call 30; refine (Hid.out HAR _ (Hid.out HPW _ (Hid.out H2 _))).mono ?_; rintro e w3 ⟨rfl, h3⟩; have H3 : Hid _ := h3; clear h3)
          go_ret
          have hp3 := HPW.out _ (H2.out nq)
          exact ⟨rfl, ⟨(hp3.below H3.out).ok.wide (Nat.le_succ _), (hp3.below H3.out).blk⟩, ((fr_set (fr_set (Fr.of_below (H2.out _)) _ _) _ _).then (Fr.of_below H3.out))⟩
      · rw [if_pos hA]
        have HO2 : Hid _ := HOV.out hA
        rcases hod with rfl | rfl
        all_goals
          simp only [Int.toNat_zero, Int.toNat_one, Nat.add_zero, Nat.reduceAdd] at HC
          clear h no e e2 hp hv g0 g1 ha hi ht hk hr er eP cells AR OV hA ok hre hmn' hon HOV
          go_enter Try.func18, Try.ntmps18
          go_wp2_with (first | (go_at_call 25; refine HA.mono ?_; rintro e w' ⟨rfl, rfl⟩) | (go_at_call 26; refine (VA _).mono ?_; rintro e w' ⟨rfl, rfl⟩) | (go_at_call 30; refine AT.mono ?_; rintro e w1 ⟨rfl, h1⟩; have H1 : Hid (Below w.heap.size w w1) := h1; obtain ⟨x1, x2, x3, x4, x5, x6⟩ := Hid.out HC _ h1; clear h1))
          go_quiet (fail)
          have H2 : Hid (∀ n, Below w.heap.size w (w1.drewN n)) := fun n => Hid.out HD _ _ (Hid.out H1)
          go_wp2_with (first | (go_at_call 30; refine (Hid.out HAR _ (Hid.out HPW _ (Hid.out H2 _))).mono ?_; rintro e w3 ⟨rfl, h3⟩; have H3 : Hid _ := h3; have H4 : Hid _ := (Hid.out HPW _ (Hid.out H2 _)).below h3; clear h3) | (go_at_call 33; refine (Hid.out HO2 _ (Hid.out H4)).mono ?_; rintro e w4 ⟨rfl, h5, h6⟩; have H5 : Hid _ := h5; have H6 : Hid _ := h6; clear h5 h6))
          go_ret
          exact ⟨rfl, H5.out, ((fr_set (fr_set (Fr.of_below (H2.out _)) _ _) _ _).then (Fr.of_below H3.out)).then H6.out⟩
  · have e : repE c k t = 130 := by
      unfold repE
      rw [if_neg g0, if_pos (.inr (.inr (by unfold red; rw [Int.toNat_natCast]; exact hr)))]
    rw [no (by rw [e]; decide), e]
    rw [hr] at cells
    have HC : Hid _ := cells
    clear h no e hp hv g0 ha hi ht hk hr eP cells
    go_enter Try.func18, Try.ntmps18
    go_wp2_with (first | (go_at_call 25; refine HA.mono ?_; rintro e w' ⟨rfl, rfl⟩) | (go_at_call 26; refine (VA _).mono ?_; rintro e w' ⟨rfl, rfl⟩) | (go_at_call 30; refine AT.mono ?_; rintro e w1 ⟨rfl, h1⟩; have H1 : Hid (Below w.heap.size w w1) := h1; obtain ⟨x1, x2, x3, x4, x5, x6⟩ := Hid.out HC _ h1; clear h1))
    go_ret
    exact ⟨rfl, HP.out.below H1.out, Fr.of_below H1.out⟩
end Go.Proofs.Ytdfjmnckgcpmgaa
