/- Proved: contracts of New, Begin, Got and Turn of the program's cut. -/
import Derived.Test.YtdfjmnckgcpmgaaPok
import Derived.Test.YtdfjmnckgcpmgaaPen
namespace Go.Proofs.Ytdfjmnckgcpmgaa
open Go.RowKit Go.Shelf
open K
set_option linter.unusedVariables false

set_option maxHeartbeats 1000000 in
theorem new_no (w : World) (n : Int) (h : ¬ (1 ≤ n ∧ n ≤ 8)) :
    Calls Try.prog 8 #[.int .i64 n] w fun e w' => e = .returned (.tuple #[.pointer none, .int .i64 1]) ∧ w = w' := by
  by_cases h1 : n < 1
  · go_enter Try.func8, Try.ntmps8
    go_wp2
    go_ret2
    exact ⟨rfl, rfl⟩
  · have h2 : 8 < n := by omega
    clear h
    go_enter Try.func8, Try.ntmps8
    go_wp2
    go_ret2
    exact ⟨rfl, rfl⟩
def newF (n : Int) (j : Nat) : Value := if j = 0 then .int .i64 n else if j < 17 then .bool false else if j = 20 then .bool false else .int .i64 0
abbrev newCells (n : Int) : Array Value := #[.int .i64 n, .bool false, .bool false, .bool false, .bool false, .bool false, .bool false, .bool false, .bool false, .bool false, .bool false, .bool false, .bool false, .bool false, .bool false, .bool false, .bool false, .int .i64 0, .int .i64 0, .int .i64 0, .bool false, .int .i64 0, .int .i64 0, .int .i64 0]
theorem newB (w : World) (o : Obj) : (w.alloc o).heap[w.heap.size]? = some o := (MapKept.heap_alloc w _).1
theorem cellB {W : World} {b : Nat} {cs : Array Value} {t : TypeId} {f : Nat × Nat} (h : W.heap[b]? = some (.cells cs t f)) (i : Nat) : W.cell? ⟨b, i, none⟩ = cs[i]? := by simp [World.cell?, h]
theorem frozB {W : World} {b : Nat} {cs : Array Value} {t : TypeId} (h : W.heap[b]? = some (.cells cs t (0, 0))) (i : Nat) : W.frozen? ⟨b, i, none⟩ = false := by simp [World.frozen?, h]
theorem newBlk (w : World) (n : Int) : Blk (w.alloc (.cells (newCells n) 63)) w.heap.size (newF n) := ⟨fun j hj => by
  refine ⟨?_, frozB (newB w _) j⟩
  have : j = 0 ∨ j = 1 ∨ j = 2 ∨ j = 3 ∨ j = 4 ∨ j = 5 ∨ j = 6 ∨ j = 7 ∨ j = 8 ∨ j = 9 ∨ j = 10 ∨ j = 11 ∨ j = 12 ∨ j = 13 ∨ j = 14 ∨ j = 15 ∨ j = 16 ∨ j = 17 ∨ j = 18 ∨ j = 19 ∨ j = 20 ∨ j = 21 ∨ j = 22 ∨ j = 23 := by omega
  rw [cellB (newB w _) j]
  rcases this with rfl | rfl | rfl | rfl | rfl | rfl | rfl | rfl | rfl | rfl | rfl | rfl | rfl | rfl | rfl | rfl | rfl | rfl | rfl | rfl | rfl | rfl | rfl | rfl <;> rfl⟩
theorem newPT (w : World) (n : Nat) (h1 : 1 ≤ n) (h8 : n ≤ 8) : PT 0 (new n) w.heap.size (w.alloc (.cells (newCells n) 63)) := by
  refine PT.of (newBlk w n) (OK.new n h1 h8) (by simp [newF, new]) (fun i hi => ?_) (fun i hi => ?_) ?_ rfl rfl rfl (le := 0) rfl (fun h => (by cases h)) rfl rfl
  · unfold newF; rw [if_neg (by omega), if_pos (by omega)]; rfl
  · unfold newF; rw [if_neg (by omega), if_pos (by omega)]; rfl
  · show Value.int .i64 0 = .int .i64 (pk (new n))
    unfold pk new
    simp [show (0 : Nat) < n by omega]
set_option maxHeartbeats 1000000 in
theorem new_ok (w : World) (n : Nat) (h1 : 1 ≤ n) (h8 : n ≤ 8) :
    Calls Try.prog 8 #[.int .i64 n] w fun e w' => e = .returned (.tuple #[pp w.heap.size, .int .i64 0]) ∧ PT 0 (new n) w.heap.size w' ∧ Below w.heap.size w w' := by
  have HP : Hid _ := newPT w n h1 h8
  have g1 : ¬ (n : Int) < 1 := by omega
  have g2 : ¬ (8 : Int) < n := by omega
  go_enter Try.func8, Try.ntmps8
  go_wp2
  go_ret2
  exact ⟨rfl, HP.out, al _ _⟩
theorem fr1 (w : World) (b i : Nat) (v : Value) : Fr (fun k => k = b) w (w.setCell ⟨b, i, none⟩ v) := fr_set (Fr.refl _ w) i v
set_option maxHeartbeats 1000000 in
theorem begin_any {B : Nat} {c : Cu} {b : Nat} {w : World} (h : PT B c b w) :
    Calls Try.prog 10 #[pp b] w fun e w' => e = .returned (.int .i64 (begE c)) ∧ PT B (begC c) b w' ∧ Fr (fun k => k = b) w w' := by
  obtain ⟨le, hle, hb⟩ := h.blk
  have c20 := hb.at (i := 20) (by omega) (v := .bool c.is) rfl
  have c21 := hb.at (i := 21) (by omega) (v := .int .i64 le) rfl
  have f20 := (hb.c 20 (by omega)).2
  have f21 := (hb.c 21 (by omega)).2
  cases hi : c.is
  · have e : begE c = 0 := by unfold begE; rw [if_neg (by simp [hi])]
    have HN : Hid (PT B (begC c) b ((w.setCell ⟨b, 20, none⟩ (.bool true)).setCell ⟨b, 21, none⟩ (.int .i64 1125899906842624))) := by
      have ok := h.ok.beg
      have eC : begC c = { c with is := true, old := K.col c 0, le := inf, tu := List.replicate c.co.length false, re := List.replicate c.co.length false } := by unfold begC; rw [if_neg (by simp [hi])]
      rw [eC] at ok ⊢
      refine PT.of ((hb.set 20 _).set 21 _) ok rfl (fun i hi8 => ?_) (fun i hi8 => ?_) ?_ rfl rfl rfl (le := 1125899906842624) rfl (fun _ => rfl) rfl rfl
      · rw [upV_out _ _ (by omega), upV_out _ _ (by omega), pv_tu _ _ hi8]
        unfold ptu
        rw [hi]
        simp only [rep_getD, Bool.and_false, Bool.false_and]
      · rw [upV_out _ _ (by omega), upV_out _ _ (by omega), pv_re _ _ hi8]
        unfold pre
        rw [hi]
        simp only [rep_getD, Bool.and_false, Bool.false_and]
      · show Value.int .i64 (pk c) = _
        unfold pk
        rw [hi]
        rfl
    rw [hi] at c20
    rw [e]
    clear h hb hle hi e
    go_enter Try.func10, Try.ntmps10
    go_wp2
    go_ret
    exact ⟨rfl, HN.out, fr_set (fr1 w b 20 _) 21 _⟩
  · have e : begE c = 130 := by unfold begE; rw [if_pos hi]
    have e2 : begC c = c := by unfold begC; rw [if_pos hi]
    have HN : Hid (PT B c b w) := h
    rw [hi] at c20
    rw [e, e2]
    clear h hb hle hi e e2
    go_enter Try.func10, Try.ntmps10
    go_wp2
    go_ret
    exact ⟨rfl, HN.out, Fr.refl _ _⟩
/-- One more, or one less, is on its way. -/
theorem PT.add {B B' : Nat} {c : Cu} {b : Nat} {w : World} (h : PT B c b w) {k d : Int} (hk : k = 0 ∨ k = 1) (ok : OK B' (addOn c k d)) : PT B' (addOn c k d) b (w.setCell ⟨b, 18 + k.toNat, none⟩ (.int .i64 (on c k + d))) := by
  obtain ⟨le, hle, hb⟩ := h.blk
  rcases hk with rfl | rfl
  · refine PT.of (hb.set 18 _) ok rfl (fun i hi8 => ?_) (fun i hi8 => ?_) rfl rfl rfl rfl (le := le) rfl hle rfl rfl
    · rw [upV_out _ _ (by omega), pv_tu _ _ hi8]; rfl
    · rw [upV_out _ _ (by omega), pv_re _ _ hi8]; rfl
  · refine PT.of (hb.set 19 _) ok rfl (fun i hi8 => ?_) (fun i hi8 => ?_) rfl rfl rfl rfl (le := le) rfl hle rfl rfl
    · rw [upV_out _ _ (by omega), pv_tu _ _ hi8]; rfl
    · rw [upV_out _ _ (by omega), pv_re _ _ hi8]; rfl
theorem PT.onWay {B : Nat} {c : Cu} {b : Nat} {w : World} (h : PT B c b w) {k : Int} (hk : k = 0 ∨ k = 1) : w.cell? ⟨b, 18 + k.toNat, none⟩ = some (.int .i64 (on c k)) ∧ w.frozen? ⟨b, 18 + k.toNat, none⟩ = false := by
  obtain ⟨le, hle, hb⟩ := h.blk
  rcases hk with rfl | rfl
  · exact hb.c 18 (by omega)
  · exact hb.c 19 (by omega)
theorem OK.onB {B : Nat} {c : Cu} (h : OK B c) (k : Int) : 0 ≤ on c k ∧ on c k ≤ B := by
  have := h.p0
  have := h.p1
  have := h.h0
  have := h.h1
  unfold on
  split <;> omega
set_option maxRecDepth 100000 in
set_option maxHeartbeats 2000000 in
theorem got_any {B : Nat} {c : Cu} {b : Nat} {w : World} (h : PT B c b w) (hB : B ≤ 1000000) (i k : Int) :
    Calls Try.prog 14 #[pp b, .int .i64 i, .int .i64 k] w fun e w' => e = .returned (.int .i64 (gotE c i k)) ∧ PT B (gotC c i k) b w' ∧ Fr (fun k => k = b) w w' := by
  have HA := has_any h i
  have IK := isk_any k
  have HP : Hid (PT B c b w) := h
  have no : gotE c i k = 1 → gotC c i k = c := fun e => by unfold gotC; rw [if_neg (by rw [e]; decide)]
  cases hp : isP c i
  · have e : gotE c i k = 1 := by unfold gotE; rw [if_neg (by simp [hp])]
    rw [e, no e]
    rw [hp] at HA
    clear h no e hp
    go_enter Try.func14, Try.ntmps14
    go_wp2_with (go_at_call 25; refine HA.mono ?_; rintro e w' ⟨rfl, rfl⟩)
    go_ret
    exact ⟨rfl, HP.out, Fr.refl _ _⟩
  rw [hp] at HA
  by_cases hk : k = 0 ∨ k = 1
  · have e1 : isK k = true := by unfold isK; simpa using hk
    simp only [e1] at IK
    obtain ⟨o1, o2⟩ := h.onWay hk
    obtain ⟨b0, b1⟩ := h.ok.onB k
    have hB' : on c k ≤ 1000000 := by omega
    by_cases hz : on c k = 0
    · have e : gotE c i k = 1 := by unfold gotE; rw [if_neg (by simp [hz])]
      rw [e, no e]
      rw [hz] at o1
      rcases hk with rfl | rfl
      all_goals
        simp only [Int.toNat_zero, Int.toNat_one, Nat.add_zero, Nat.reduceAdd] at o1 o2
        clear h no e hp hz e1 b0 b1 hB' hB
        go_enter Try.func14, Try.ntmps14
        go_wp2_with (first | (go_at_call 25; refine HA.mono ?_; rintro e w' ⟨rfl, rfl⟩) | (go_at_call 29; refine (IK _).mono ?_; rintro e w' ⟨rfl, rfl⟩))
        go_ret
        exact ⟨rfl, HP.out, Fr.refl _ _⟩
    · have e : gotE c i k = 0 := by unfold gotE; rw [if_pos ⟨hp, hk, hz⟩]
      have e2 : gotC c i k = addOn c k (-1) := by unfold gotC; rw [if_pos e]
      have ok := h.ok.got i k
      rw [e2] at ok
      have HN : Hid (PT B (addOn c k (-1)) b (w.setCell ⟨b, 18 + k.toNat, none⟩ (.int .i64 (on c k + -1)))) := h.add hk ok
      rw [e, e2]
      obtain ⟨q, hq⟩ : ∃ q, on c k = q := ⟨_, rfl⟩
      rw [hq] at o1 HN hz hB' b0
      have dz : (q == 0) = false := by simpa using hz
      rw [show q + -1 = q - 1 by omega] at HN
      rcases hk with rfl | rfl
      all_goals
        simp only [Int.toNat_zero, Int.toNat_one, Nat.add_zero, Nat.reduceAdd] at o1 o2 HN
        clear h no e e2 hp hz e1 b1 hB hq ok
        go_enter Try.func14, Try.ntmps14
        go_wp2_with (first | (go_at_call 25; refine HA.mono ?_; rintro e w' ⟨rfl, rfl⟩) | (go_at_call 29; refine (IK _).mono ?_; rintro e w' ⟨rfl, rfl⟩))
        go_region
        go_wp2
        go_ret
        exact ⟨rfl, HN.out.keep (Fr.drew (Fr.refl (fun _ => False) _)) (fun g => g), (fr1 w b _ _).drew⟩
  · have e1 : isK k = false := by unfold isK; simpa using hk
    simp only [e1] at IK
    have e : gotE c i k = 1 := by unfold gotE; rw [if_neg (fun g => hk g.2.1)]
    rw [e, no e]
    clear h no e hp e1 hk
    go_enter Try.func14, Try.ntmps14
    go_wp2_with (first | (go_at_call 25; refine HA.mono ?_; rintro e w' ⟨rfl, rfl⟩) | (go_at_call 29; refine (IK _).mono ?_; rintro e w' ⟨rfl, rfl⟩))
    go_ret
    exact ⟨rfl, HP.out, Fr.refl _ _⟩
set_option maxHeartbeats 2000000 in
theorem turn_any {B : Nat} {c : Cu} {b : Nat} {w : World} (h : PT B c b w) (i : Int) :
    Calls Try.prog 16 #[pp b, .int .i64 i] w fun e w' => e = .returned (.int .i64 (turE c i)) ∧ PT B (turC c i) b w' ∧ Fr (fun k => k = b) w w' := by
  have HA := has_any h i
  have HP : Hid (PT B c b w) := h
  obtain ⟨le, hle, hb⟩ := h.blk
  have c20 := hb.at (i := 20) (by omega) (v := .bool c.is) rfl
  cases hp : isP c i
  · obtain ⟨e, e2⟩ := turE_no hp
    rw [e, e2]
    rw [hp] at HA
    clear h hb hle e e2 hp
    go_enter Try.func16, Try.ntmps16
    go_wp2_with (go_at_call 25; refine HA.mono ?_; rintro e w' ⟨rfl, rfl⟩)
    go_ret
    exact ⟨rfl, HP.out, Fr.refl _ _⟩
  rw [hp] at HA
  obtain ⟨k, rfl, hk⟩ := isP_yes hp
  have hk8 : k < 8 := by have := h.ok.n8; omega
  have hk8' : (k : Int) < 8 := by omega
  have c1 := hb.at (i := 1 + k * 2) (by omega) (pv_tu c le hk8)
  have f1 := (hb.c (1 + k * 2) (by omega)).2
  have no : turE c k = 130 → turC c k = c := fun e => by unfold turC; rw [if_neg (by rw [e]; decide)]
  cases hi : c.is
  · have e : turE c k = 130 := by unfold turE; rw [if_neg (by simp [hp]), if_pos (.inl hi)]
    rw [e, no e]
    rw [hi] at c20
    clear h hb hle e no hp hi
    go_enter Try.func16, Try.ntmps16
    go_wp2_with (go_at_call 25; refine HA.mono ?_; rintro e w' ⟨rfl, rfl⟩)
    go_ret
    exact ⟨rfl, HP.out, Fr.refl _ _⟩
  have et : ptu c k = c.tu.getD k false := by unfold ptu; rw [hi]; rfl
  rw [et] at c1
  cases ht : c.tu.getD k false
  · have e : turE c k = 0 := by unfold turE; rw [if_neg (by simp [hp]), if_neg (by unfold tud; rw [hi, Int.toNat_natCast, ht]; simp)]
    have e2 : turC c k = { c with tu := c.tu.set k true, co := c.co.set k (1 - c.old) } := by unfold turC; rw [if_pos e, Int.toNat_natCast]
    have ok := h.ok.tur (k := k)
    have HN : Hid (PT B (turC c k) b (w.setCell ⟨b, 1 + k * 2, none⟩ (.bool true))) := by
      rw [e2] at ok ⊢
      have hkt : k < c.tu.length := by rw [h.ok.lt]; exact hk
      refine PT.of (hb.set (1 + k * 2) _) ok ?_ (fun i hi8 => ?_) (fun i hi8 => ?_) ?_ ?_ ?_ ?_ (le := le) ?_ hle ?_ ?_
      · rw [upV_out _ _ (by omega)]; show _ = Value.int .i64 ((c.co.set k (1 - c.old)).length : Int); rw [List.length_set]; rfl
      · show _ = Value.bool (c.is && (c.tu.set k true).getD i false)
        rw [hi, set_getD c.tu false true k i hkt]
        by_cases g : i = k
        · subst g; rw [upV_at, if_pos rfl]; rfl
        · rw [upV_out _ _ (by omega), if_neg g, pv_tu _ _ hi8]; unfold ptu; rw [hi]
      · rw [upV_out _ _ (by omega), pv_re _ _ hi8]; rfl
      · rw [upV_out _ _ (by omega)]; show Value.int .i64 (pk c) = _; unfold pk; rw [hi]; rfl
      · rw [upV_out _ _ (by omega)]; rfl
      · rw [upV_out _ _ (by omega)]; rfl
      · rw [upV_out _ _ (by omega)]; rfl
      · rw [upV_out _ _ (by omega)]; rfl
      · rw [upV_out _ _ (by omega)]; rfl
      · rw [upV_out _ _ (by omega)]; rfl
    rw [e]
    rw [ht] at c1
    rw [hi] at c20
    clear h hb hle e e2 no hp hi ok et ht hk
    go_enter Try.func16, Try.ntmps16
    go_wp2_with (go_at_call 25; refine HA.mono ?_; rintro e w' ⟨rfl, rfl⟩)
    go_ret
    exact ⟨rfl, HN.out, fr1 w b _ _⟩
  · have e : turE c k = 130 := by unfold turE; rw [if_neg (by simp [hp]), if_pos (.inr (by unfold tud; rw [Int.toNat_natCast]; exact ht))]
    rw [e, no e]
    rw [ht] at c1
    rw [hi] at c20
    clear h hb hle e no hp hi et ht hk
    go_enter Try.func16, Try.ntmps16
    go_wp2_with (go_at_call 25; refine HA.mono ?_; rintro e w' ⟨rfl, rfl⟩)
    go_ret
    exact ⟨rfl, HP.out, Fr.refl _ _⟩
end Go.Proofs.Ytdfjmnckgcpmgaa
