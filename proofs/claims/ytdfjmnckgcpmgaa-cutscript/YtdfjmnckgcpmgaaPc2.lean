/- Proved: contracts of Sent and Report of the program's cut. -/
import Derived.Test.YtdfjmnckgcpmgaaPc1
namespace Go.Proofs.Ytdfjmnckgcpmgaa
open Go.RowKit Go.Shelf
open K
set_option linter.unusedVariables false

theorem PT.drew {B : Nat} {c : Cu} {b : Nat} {w : World} (h : PT B c b w) : PT B c b w.drew := h.keep (Fr.drew (Fr.refl (fun _ => False) _)) (fun g => g)
/-- The least becomes another one, in a round. -/
theorem PT.less {B : Nat} {c : Cu} {b : Nat} {w : World} (h : PT B c b w) (x : Int) : PT B { c with le := x } b (w.setCell ⟨b, 21, none⟩ (.int .i64 x)) := by
  obtain ⟨le, hle, hb⟩ := h.blk
  refine PT.of (hb.set 21 _) (h.ok.less x) rfl (fun i hi8 => ?_) (fun i hi8 => ?_) rfl rfl rfl rfl (le := x) rfl (fun _ => rfl) rfl rfl
  · rw [upV_out _ _ (by omega), pv_tu _ _ hi8]; rfl
  · rw [upV_out _ _ (by omega), pv_re _ _ hi8]; rfl
theorem add_ptu (c : Cu) (k d : Int) (i : Nat) : ptu (addOn c k d) i = ptu c i := by unfold addOn; split <;> rfl
theorem add_le (c : Cu) (k d : Int) : (addOn c k d).le = c.le ∧ (addOn c k d).is = c.is := by unfold addOn; split <;> exact ⟨rfl, rfl⟩
set_option maxRecDepth 100000 in
set_option maxHeartbeats 2000000 in
theorem sent_any {B : Nat} {c : Cu} {b : Nat} {w : World} (h : PT B c b w) (hB : B ≤ 1000000) (i t : Int) :
    Calls Try.prog 12 #[pp b, .int .i64 i, .int .i64 t] w fun e w' => e = .returned (.tuple #[.int .i64 (senK c i t), .int .i64 (senE c i t)]) ∧ PT (B + 1) (senC c i t) b w' ∧ Fr (fun k => k = b) w w' := by
  have HA := has_any h i
  have VA := valid_any t
  have HP : Hid (PT (B + 1) c b w) := ⟨h.ok.wide (Nat.le_succ _), h.blk⟩
  have no : senE c i t = 1 → senC c i t = c ∧ senK c i t = 0 := fun e => ⟨by unfold senC; rw [if_neg (by rw [e]; decide)], by unfold senK; rw [if_neg (by rw [e]; decide)]⟩
  cases hp : isP c i
  · have e : senE c i t = 1 := by unfold senE; rw [if_neg (by simp [hp])]
    rw [e, (no e).1, (no e).2]
    rw [hp] at HA
    clear h no e hp
    go_enter Try.func12, Try.ntmps12
    go_wp2_with (go_at_call 25; refine HA.mono ?_; rintro e w' ⟨rfl, rfl⟩)
    go_ret2
    exact ⟨rfl, HP.out, Fr.refl _ _⟩
  rw [hp] at HA
  cases hv : okT t
  · have e : senE c i t = 1 := by unfold senE; rw [if_neg (by simp [hv])]
    rw [e, (no e).1, (no e).2]
    simp only [hv] at VA
    clear h no e hp hv
    go_enter Try.func12, Try.ntmps12
    go_wp2_with (first | (go_at_call 25; refine HA.mono ?_; rintro e w' ⟨rfl, rfl⟩) | (go_at_call 26; refine (VA _).mono ?_; rintro e w' ⟨rfl, rfl⟩))
    go_ret2
    exact ⟨rfl, HP.out, Fr.refl _ _⟩
  simp only [hv] at VA
  have e : senE c i t = 0 := by unfold senE; rw [if_pos ⟨hp, hv⟩]
  have CO := colour_any h i
  obtain ⟨k, rfl, hk⟩ := isP_yes hp
  have hk8 : k < 8 := by have := h.ok.n8; omega
  have hk8' : (k : Int) < 8 := by omega
  have hq2 := h.ok.col2 hk
  have eK : senK c k t = c.co.getD k 0 := by unfold senK; rw [if_pos e]; simp [K.col]
  have eC : colE c k = c.co.getD k 0 := by unfold colE; rw [hp, if_pos rfl]; simp [K.col]
  have eS : senC c k t = (let d := addOn c (c.co.getD k 0) 1; if c.is = true ∧ tud c k = true then { d with le := min d.le t } else d) := by unfold senC; rw [if_pos e]; simp only [K.col, Int.toNat_natCast]
  have ok := h.ok.sen k t
  rw [eS] at ok ⊢
  rw [eK, e]
  rw [eC] at CO
  generalize c.co.getD k 0 = q at hq2 CO ok ⊢
  obtain ⟨b0, b1⟩ := h.ok.onB q
  have okA : OK (B + 1) (addOn c q 1) := h.ok.add (Nat.le_succ _) (fun _ => by have := h.ok.p0; have := h.ok.h0; omega) (fun _ => by have := h.ok.p1; have := h.ok.h1; omega)
  have hN := (h.add hq2 okA).drew
  obtain ⟨o1, o2⟩ := h.onWay hq2
  generalize on c q = o at b0 b1 hN o1
  have ho1 : o ≤ 1000000 := by omega
  obtain ⟨W1, hW1⟩ : ∃ W1, (w.setCell ⟨b, 18 + q.toNat, none⟩ (.int .i64 (o + 1))).drew = W1 := ⟨_, rfl⟩
  rw [hW1] at hN
  have HF : Hid (Fr (fun k => k = b) w W1) := by rw [← hW1]; exact (fr1 w b _ _).drew
  obtain ⟨le, hle, hb⟩ := hN.blk
  have c1 := hb.at (i := 1 + k * 2) (by omega) (pv_tu _ le hk8)
  rw [add_ptu] at c1
  have c21 := hb.at (i := 21) (by omega) (v := .int .i64 le) rfl
  have f21 := (hb.c 21 (by omega)).2
  have HN : Hid _ := hN
  cases ht : ptu c k
  · have g : ¬ (c.is = true ∧ tud c k = true) := by
      intro g
      unfold ptu at ht
      unfold tud at g
      rw [Int.toNat_natCast] at g
      rw [g.1, g.2] at ht
      cases ht
    dsimp only
    rw [if_neg g]
    rw [ht] at c1
    rcases hq2 with rfl | rfl
    all_goals
      simp only [Int.toNat_zero, Int.toNat_one, Nat.add_zero, Nat.reduceAdd] at o1 o2 hW1
      clear h no e hp hv b1 hB hk eK eC eS ok okA hN hb hle g ht
      go_enter Try.func12, Try.ntmps12
      go_wp2_with (first | (go_at_call 25; refine HA.mono ?_; rintro e w' ⟨rfl, rfl⟩) | (go_at_call 26; refine (VA _).mono ?_; rintro e w' ⟨rfl, rfl⟩) | (go_at_call 23; refine CO.mono ?_; rintro e w' ⟨rfl, rfl⟩))
      go_region
      go_wp2
      go_ret2
      exact ⟨rfl, HN.out, HF.out⟩
  · have g : c.is = true ∧ tud c k = true := by
      unfold ptu at ht
      unfold tud
      rw [Int.toNat_natCast]
      simpa using ht
    dsimp only
    rw [if_pos g]
    rw [ht] at c1
    have ele : le = c.le := (hle (by rw [(add_le c q 1).2]; exact g.1)).trans (add_le c q 1).1
    subst ele
    have HM : Hid (PT (B + 1) { addOn c q 1 with le := min (addOn c q 1).le t } b (W1.setCell ⟨b, 21, none⟩ (.int .i64 (min c.le t)))) := by
      have := hN.less (min c.le t)
      rw [(add_le c q 1).1]
      exact this
    generalize hmn : min c.le t = mn at HM
    generalize c.le = le0 at c21 hmn
    rcases hq2 with rfl | rfl
    all_goals
      simp only [Int.toNat_zero, Int.toNat_one, Nat.add_zero, Nat.reduceAdd] at o1 o2 hW1
      clear h no e hp hv b1 hB hk eK eC eS ok okA hN hb hle g ht
      go_enter Try.func12, Try.ntmps12
      go_wp2_with (first | (go_at_call 25; refine HA.mono ?_; rintro e w' ⟨rfl, rfl⟩) | (go_at_call 26; refine (VA _).mono ?_; rintro e w' ⟨rfl, rfl⟩) | (go_at_call 23; refine CO.mono ?_; rintro e w' ⟨rfl, rfl⟩))
      go_region
      go_wp2
      go_ret2
      exact ⟨rfl, HM.out, fr_set HF.out 21 _⟩
/-- Whether all have turned. -/
theorem allT_any {B : Nat} {c : Cu} {b : Nat} {w : World} (h : PT B c b w) :
    Calls Try.prog 30 #[pp b, .func (.func 31) #[] #[]] w fun e w' => e = .returned (.bool (c.is && allB c.tu)) ∧ Below w.heap.size w w' := by
  obtain ⟨le, hle, hb⟩ := h.blk
  have C := all_gen (fun x _ => x) (ptu c) (pre c) hb rfl h.ok.n8 (fun i hi => pv_tu c le hi) (fun i hi => pv_re c le hi) (enters_of Try.func31 (by kernel_rfl) rfl) turned_any
  have e : allN c.co.length (fun i => ptu c i) = (c.is && allB c.tu) := by
    cases hi : c.is
    · rw [allN_no (i := 0) (by have := h.ok.n1; omega) (by unfold ptu; rw [hi]; rfl)]; rfl
    · cases ha : allB c.tu
      · cases hh : allN c.co.length (fun i => ptu c i)
        · rfl
        · exfalso
          have : allB c.tu = true := allB_iff.2 (fun i hin => by
            have := allN_iff.1 hh i (by rw [← h.ok.lt]; exact hin)
            unfold ptu at this
            rw [hi] at this
            simpa using this)
          rw [ha] at this
          cases this
      · rw [allN_yes (fun i hin => by unfold ptu; rw [hi, allB_iff.1 ha i (by rw [h.ok.lt]; exact hin)]; rfl)]; rfl
  have e' : allN c.co.length (fun i => (fun x _ => x : Bool → Bool → Bool) (ptu c i) (pre c i)) = (c.is && allB c.tu) := e
  rw [e'] at C
  exact C
theorem allR_any {B : Nat} {c : Cu} {b : Nat} {w : World} (h : PT B c b w) (hi : c.is = true) :
    Calls Try.prog 30 #[pp b, .func (.func 32) #[] #[]] w fun e w' => e = .returned (.bool (allB c.re)) ∧ Below w.heap.size w w' := by
  obtain ⟨le, hle, hb⟩ := h.blk
  have C := all_gen (fun _ y => y) (ptu c) (pre c) hb rfl h.ok.n8 (fun i hi => pv_tu c le hi) (fun i hi => pv_re c le hi) (enters_of Try.func32 (by kernel_rfl) rfl) reported_any
  have e : allN c.co.length (fun i => pre c i) = allB c.re := by
    cases ha : allB c.re
    · cases hh : allN c.co.length (fun i => pre c i)
      · rfl
      · exfalso
        have : allB c.re = true := allB_iff.2 (fun i hin => by
          have := allN_iff.1 hh i (by rw [← h.ok.lr]; exact hin)
          unfold pre at this
          rw [hi] at this
          simpa using this)
        rw [ha] at this
        cases this
    · rw [allN_yes (fun i hin => by unfold pre; rw [hi, allB_iff.1 ha i (by rw [h.ok.lr]; exact hin)]; rfl)]
  have e' : allN c.co.length (fun i => (fun _ y => y : Bool → Bool → Bool) (ptu c i) (pre c i)) = allB c.re := e
  rw [e'] at C
  exact C
/-- One has reported. -/
theorem PT.told {B : Nat} {c : Cu} {b : Nat} {w : World} (h : PT B c b w) (hi : c.is = true) {k : Nat} (hk : k < c.co.length) (t : Int) : PT B { c with re := c.re.set k true, le := min c.le t } b ((w.setCell ⟨b, 1 + k * 2 + 1, none⟩ (.bool true)).setCell ⟨b, 21, none⟩ (.int .i64 (min c.le t))) := by
  obtain ⟨le, hle, hb⟩ := h.blk
  have hkr : k < c.re.length := by rw [h.ok.lr]; exact hk
  have h8 := h.ok.n8
  refine PT.of ((hb.set (1 + k * 2 + 1) _).set 21 _) { h.ok with lr := by show (c.re.set _ _).length = c.co.length; rw [List.length_set]; exact h.ok.lr } ?_ (fun i hi8 => ?_) (fun i hi8 => ?_) ?_ ?_ ?_ ?_ (le := min c.le t) ?_ (fun _ => rfl) ?_ ?_
  · rw [upV_out _ _ (by omega), upV_out _ _ (by omega)]; rfl
  · rw [upV_out _ _ (by omega), upV_out _ _ (by omega), pv_tu _ _ hi8]; rfl
  · show _ = Value.bool (c.is && (c.re.set k true).getD i false)
    rw [upV_out _ _ (by omega), hi, set_getD c.re false true k i hkr]
    by_cases g : i = k
    · subst g; rw [upV_at, if_pos rfl]; rfl
    · rw [upV_out _ _ (by omega), if_neg g, pv_re _ _ hi8]; unfold pre; rw [hi]
  · rw [upV_out _ _ (by omega), upV_out _ _ (by omega)]; rfl
  · rw [upV_out _ _ (by omega), upV_out _ _ (by omega)]; rfl
  · rw [upV_out _ _ (by omega), upV_out _ _ (by omega)]; rfl
  · rw [upV_out _ _ (by omega), upV_out _ _ (by omega)]; rfl
  · rw [upV_at]
  · rw [upV_out _ _ (by omega), upV_out _ _ (by omega)]; rfl
  · rw [upV_out _ _ (by omega), upV_out _ _ (by omega)]; rfl
/-- The round is over. -/
theorem PT.over {B : Nat} {c : Cu} {b : Nat} {w : World} (h : PT B c b w) (hB : B ≤ 1000000) (hi : c.is = true) (ht : allB c.tu = true) (ok : OK (B + 1) { c with is := false, v := max c.v c.le, r := c.r + 1 }) :
    Calls Try.prog 33 #[pp b] w fun e w' => e = .returned (.tuple #[]) ∧ PT (B + 1) { c with is := false, v := max c.v c.le, r := c.r + 1 } b w' ∧ Fr (fun k => k = b) w w' := by
  obtain ⟨le, hle, hb⟩ := h.blk
  obtain rfl := hle hi
  refine (end_any hb rfl rfl rfl rfl h.ok.pk2 h.ok.r0 (by have := h.ok.r1; omega)).mono fun e w' ⟨he, hB2, hF⟩ => ⟨he, ?_, hF⟩
  refine PT.of hB2 ok ?_ (fun i hi8 => ?_) (fun i hi8 => ?_) ?_ ?_ ?_ ?_ (le := c.le) ?_ (fun g => by cases g) ?_ ?_
  · unfold endF; rw [clr_out _ (by omega)]; rfl
  · unfold endF; rw [clr_in _ (by omega) (by omega)]; rfl
  · unfold endF; rw [clr_in _ (by omega) (by omega)]; rfl
  · unfold endF; rw [clr_out _ (by omega), upV_at]
    unfold pk
    rw [if_pos hi]
    show _ = Value.int .i64 (c.co.getD 0 0)
    rw [h.ok.allCo hi ht (by have := h.ok.n1; omega)]
  · unfold endF; rw [clr_out _ (by omega)]; rfl
  · unfold endF; rw [clr_out _ (by omega)]; rfl
  · unfold endF; rw [clr_out _ (by omega)]; rfl
  · unfold endF; rw [clr_out _ (by omega)]; rfl
  · unfold endF; rw [clr_out _ (by omega)]; rfl
  · unfold endF; rw [clr_out _ (by omega)]; rfl
end Go.Proofs.Ytdfjmnckgcpmgaa
