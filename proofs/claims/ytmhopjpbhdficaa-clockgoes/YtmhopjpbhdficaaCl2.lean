/- Proved: contracts of Tell and New. -/
import Derived.Test.YtmhopjpbhdficaaCl1
namespace Go.Proofs.Ytmhopjpbhdficaa
open Go.RowKit Go.Shelf
set_option linter.unusedVariables false

theorem lst_lo (a b : Int) : 0 ≤ lstI [a, b] := by
  have h1 := cnt_lo a
  have h2 := cnt_lo b
  simp [lstI]
  omega
theorem prm_lo (n me : Nat) (c : Int → Int) (first look : Int) : 0 ≤ prm n me c first look := cnt_lo _
theorem prm_hi (n me : Nat) (c : Int → Int) (first look : Int) : prm n me c first look ≤ 1125899906842624 := cnt_hi _
theorem tlT_up (n me : Nat) (c : Int → Int) (t first look : Int) : t ≤ tlT n me c t first look := by unfold tlT; split <;> omega
theorem tlT_lo {n me : Nat} {c : Int → Int} {t first look : Int} (h : 0 ≤ t) : 0 ≤ tlT n me c t first look := by have := tlT_up n me c t first look; omega
theorem tlT_hi {n me : Nat} {c : Int → Int} {t first look : Int} (h : t ≤ 1125899906842624) : tlT n me c t first look ≤ 1125899906842624 := by
  have := prm_hi n me c first look
  unfold tlT; split <;> omega
theorem rd_two {w : World} {q : Nat} {a b : Int} {T : TypeId} (h : w.heap[q]? = some (.cells #[.int .i64 a, .int .i64 b] T (0, 0))) : RdI w (some ⟨q, 0, none⟩) [a, b] := fun _ =>
  ⟨q, 0, rfl, (Array.getElem?_eq_some_iff.1 h).1, fun i hi => by
    rw [cellB h]
    match i, hi with
    | 0, _ => rfl
    | 1, _ => rfl⟩
theorem PC.say {n me : Nat} {c : Int → Int} {t : Int} {b mb : Nat} {W : World} (h : PC n me c t b mb W) {x : Int} (h0 : 0 ≤ x) (h1 : x ≤ 1125899906842624) : PC n me c x b mb (W.setCell ⟨b, 1, none⟩ (.int .i64 x)) := by
  obtain ⟨D, hD⟩ := h.map
  refine ⟨?_, ⟨D, hD.keep ((Fr.refl (fun k => k = b) W).setCell _ _ (Or.inl rfl)) h.ne⟩, h.ok, h0, h1, h.hn⟩
  rw [heap_setCell_same W b 1 _ _ _ h.blk]
  rfl

set_option maxRecDepth 100000 in
set_option maxHeartbeats 2000000 in
theorem tell_any {n me : Nat} {c : Int → Int} {t : Int} {b mb : Nat} {w : World} (h : PC n me c t b mb w) (first look : Int) :
    Calls Try.prog 12 #[.pointer (some ⟨b, 0, none⟩), .int .i64 first, .int .i64 look] w fun e w' => e = .returned (.tuple #[.int .i64 (tlT n me c t first look), .bool (tlB n me c t first look)]) ∧ PC n me c (tlT n me c t first look) b mb w' ∧ Fr (fun k => k = b) w w' := by
  have BD := bound_any h
  have HP : Hid (PC n me c t b mb w) := h
  obtain ⟨B, hB⟩ : ∃ B, bnd n me c = B := ⟨_, rfl⟩
  obtain ⟨p, hp⟩ : ∃ p, prm n me c first look = p := ⟨_, rfl⟩
  obtain ⟨q, hq⟩ : ∃ q, lstI [first, B] = q := ⟨_, rfl⟩
  have hp2 : vadd q look = p := by rw [← hp, ← hq, ← hB]; rfl
  have hp0 : 0 ≤ p := by rw [← hp]; exact prm_lo ..
  have hp1 : p ≤ 1125899906842624 := by rw [← hp]; exact prm_hi ..
  rw [hB] at BD
  have LS : ∀ W : World, Calls Try.prog 23 #[.slice (some ⟨W.heap.size, 0, none⟩) 2 2] (W.alloc (.cells #[.int .i64 first, .int .i64 B] 3)) fun e w' => e = .returned (.int .i64 q) ∧ (W.alloc (.cells #[.int .i64 first, .int .i64 B] 3)) = w' := fun W => by
    rw [← hq]
    exact least_any _ (some ⟨W.heap.size, 0, none⟩) 2 [first, B] (rd_two (MapKept.heap_alloc W _).1) (by simp)
  have AD : ∀ W : World, Calls Try.prog 22 #[.int .i64 q, .int .i64 look] W fun e w' => e = .returned (.int .i64 p) ∧ W = w' := fun W => by rw [← hp2]; exact add_any q look W
  unfold tlT tlB
  rw [hp]
  clear hp hp2 hq hB h
  by_cases hle : p ≤ t
  · have d : decide (t < p) = false := by simp; omega
    rw [if_pos hle, d]
    go_enter Try.func12, Try.ntmps12
    go_wp2_with (first | (go_at_call 16; refine BD.mono ?_; rintro e w1 ⟨rfl, b1⟩; have HB1 : Hid (Below w.heap.size w (w1.alloc (.cells #[.int .i64 first, .int .i64 B] 3))) := Below.on b1 (al w1 _); have c1 := (HP.out.below HB1.out).c1; clear b1) | (go_at_call 23; refine (LS _).mono ?_; rintro e w2 ⟨rfl, rfl⟩) | (go_at_call 22; refine (AD _).mono ?_; rintro e w3 ⟨rfl, rfl⟩))
    go_ret2
    exact ⟨rfl, HP.out.below HB1.out, Fr.of_below HB1.out⟩
  · have d : decide (t < p) = true := by simp; omega
    rw [if_neg hle, d]
    go_enter Try.func12, Try.ntmps12
    go_wp2_with (first | (go_at_call 16; refine BD.mono ?_; rintro e w1 ⟨rfl, b1⟩; have HB1 : Hid (Below w.heap.size w (w1.alloc (.cells #[.int .i64 first, .int .i64 B] 3))) := Below.on b1 (al w1 _); have c1 := (HP.out.below HB1.out).c1; have f1 := (HP.out.below HB1.out).froz 1; clear b1) | (go_at_call 23; refine (LS _).mono ?_; rintro e w2 ⟨rfl, rfl⟩) | (go_at_call 22; refine (AD _).mono ?_; rintro e w3 ⟨rfl, rfl⟩))
    go_ret2
    exact ⟨rfl, (HP.out.below HB1.out).say hp0 hp1, (Fr.of_below HB1.out).setCell _ _ (Or.inl rfl)⟩

/-! ### New -/
def noC : Int → Int := fun _ => 0
theorem noC_ok (n me : Nat) : okC n me noC := fun _ _ => by show okT 0 = true; decide
theorem no_up (j : Int) : upC noC j 0 = noC := by funext i; simp [upC, noC]
/-- The clocks of those below j, but for me. -/
def low (me j : Nat) (i : Int) : Bool := isCl j me i
theorem low_step {me j : Nat} (h : j ≠ me) : (fun i : Int => isCl j me i || i == (j : Int)) = isCl (j + 1) me := by
  funext i
  unfold isCl
  by_cases e : i = (j : Int)
  · subst e
    have : decide (0 ≤ (j : Int) ∧ (j : Int) < ((j + 1 : Nat) : Int) ∧ (j : Int) ≠ (me : Int)) = true := by simp; omega
    rw [this]; simp
  · have e2 : (i == (j : Int)) = false := by simpa using e
    rw [e2, Bool.or_false]
    apply decide_eq_decide.2
    omega
theorem low_me (me : Nat) : isCl me me = isCl (me + 1) me := by
  funext i
  unfold isCl
  apply decide_eq_decide.2
  omega
theorem low_none (me : Nat) : isCl 0 me = fun _ => false := by
  funext i
  unfold isCl
  simp
  omega
theorem run_makeHint (w : World) (k : Int) (h : 0 ≤ k) (h2 : k ≤ 8) : (Instr.makeMap 47 (some (.int .i64 k))).run Try.prog w = .ok (.map (some w.heap.size)) (w.alloc (.map #[] 0)) := by
  simp [Instr.makeMap, run_underlying Try.underlying47, asInt, asIntOf, Result.andThen]

set_option maxRecDepth 100000 in
set_option maxHeartbeats 2000000 in
theorem new_no (w : World) (n me : Int) (h : ¬ (1 ≤ n ∧ n ≤ 8 ∧ 0 ≤ me ∧ me < n)) :
    Calls Try.prog 8 #[.int .i64 n, .int .i64 me] w fun e w' => e = .returned (.tuple #[.pointer none, .int .i64 1]) ∧ w = w' := by
  by_cases h1 : n < 1
  · go_enter Try.func8, Try.ntmps8
    go_wp2
    go_ret2
    exact ⟨rfl, rfl⟩
  by_cases h2 : 8 < n
  · go_enter Try.func8, Try.ntmps8
    go_wp2
    go_ret2
    exact ⟨rfl, rfl⟩
  by_cases h3 : me < 0
  · go_enter Try.func8, Try.ntmps8
    go_wp2
    go_ret2
    exact ⟨rfl, rfl⟩
  have h4 : n ≤ me := by omega
  clear h
  go_enter Try.func8, Try.ntmps8
  go_wp2
  go_ret2
  exact ⟨rfl, rfl⟩

set_option maxRecDepth 100000 in
set_option maxHeartbeats 2000000 in
theorem new_ok (w : World) (n me : Nat) (h1 : 1 ≤ n) (h2 : n ≤ 8) (h3 : me < n) :
    Calls Try.prog 8 #[.int .i64 n, .int .i64 me] w fun e w' => e = .returned (.tuple #[.pointer (some ⟨w.heap.size + 1, 0, none⟩), .int .i64 0]) ∧ PC n me noC 0 (w.heap.size + 1) w.heap.size w' ∧ Below w.heap.size w w' := by
  have mk := run_makeHint w ((n : Int) - 1) (by omega) (by omega)
  have hn8 : (n : Int) ≤ 8 := by omega
  have hn1 : (1 : Int) ≤ n := by omega
  have hmn : (me : Int) < n := by omega
  go_enter Try.func8, Try.ntmps8
  go_wp2
  go_loopw [27] (fun s27 wr => ∃ j : Nat, s27 = .int .i64 j ∧ j ≤ n ∧ Hid (∃ D, MapC wr w.heap.size j (isCl j me) noC D) ∧ Hid (Below w.heap.size w wr) ∧ wr.heap.size = w.heap.size + 1) (fun s27 _ => n - (intOf s27).toNat)
  case atStart =>
    refine ⟨0, rfl, Nat.zero_le _, ⟨.map [], World.ownsMap_made _ _ _ _, fun i => ?_, fun i hi => ?_⟩, al w _, by simp⟩
    · rw [low_none]; rfl
    · rw [low_none] at hi; cases hi
  case round =>
    obtain ⟨j, rfl, hj, HM, HB, hsz⟩ := hrel
    by_cases hlt : j < n
    · have hlt' : (j : Int) < (n : Int) := by omega
      by_cases hm : j = me
      · have d : ((j : Int) != (me : Int)) = false := by simp [hm]
        have HM2 : Hid (∃ D, MapC wr w.heap.size (j + 1) (isCl (j + 1) me) noC D) := by
          obtain ⟨D, hD⟩ := HM.out
          refine ⟨D, hD.own.mono (by omega), ?_, ?_⟩
          · subst hm; rw [← low_me]; exact hD.has
          · subst hm; rw [← low_me]; exact hD.val
        clear hm
        go_wp2
        go_roundw
        case rel => exact ⟨j + 1, by go_num, by omega, HM2.out, HB.out, hsz⟩
        case measure => simp [intOf]; omega
      · have d : ((j : Int) != (me : Int)) = true := by simp; omega
        obtain ⟨D, hD⟩ := HM.out
        obtain ⟨W2, D2, hu, hm2, hf, hs2⟩ := hD.store (by omega) (j := j) (t := 0) (wf_of (by omega) (by omega)) (by decide)
        have HM2 : Hid (∃ D, MapC W2 w.heap.size (j + 1) (isCl (j + 1) me) noC D) := by
          rw [low_step hm, no_up] at hm2
          exact ⟨D2, hm2.own.mono (by split <;> omega), hm2.has, hm2.val⟩
        have HB2 : Hid (Below w.heap.size w W2) := HB.out.trans (hf.below HB.out.size (fun i e => by omega))
        clear hD hm2 hf
        go_wp2
        go_roundw
        case rel => exact ⟨j + 1, by go_num, by omega, HM2.out, HB2.out, hs2.trans hsz⟩
        case measure => simp [intOf]; omega
    · obtain rfl : j = n := by omega
      go_wp2
      go_ret2
      have hb := Below.on HB.out (al wr (.cells #[.map (some w.heap.size), .int .i64 0] 49))
      have h0 : (wr.alloc (.cells #[.map (some w.heap.size), .int .i64 0] 49)).heap[w.heap.size + 1]? = some (.cells #[.map (some w.heap.size), .int .i64 0] 49) := by rw [← hsz]; exact (MapKept.heap_alloc wr _).1
      obtain ⟨D, hD⟩ := HM.out
      refine ⟨?_, ⟨h0, ⟨D, (hD.own.alloc _).mono (by omega), hD.has, hD.val⟩, noC_ok _ _, by decide, by decide, h2⟩, hb⟩
      first | rfl | (rw [← hsz]; rfl)
end Go.Proofs.Ytmhopjpbhdficaa
