/- Proved: the document's clocks: how they lie in memory, and the contracts of At, Told, Hear, Bound, Tell. -/
import Derived.Test.YtmhopjpbhdficaaCl2
namespace Go.Proofs.Ytmhopjpbhdficaa
open Go.RowKit Go.Shelf
set_option linter.unusedVariables false

structure DC (n me : Nat) (c : Int → Int) (t : Int) (db rb : Nat) (W : World) : Prop where
  blk : W.heap[db]? = some (.cells #[.slice (some ⟨rb, 0, none⟩) n n, .int .i64 me, .int .i64 t] 51 (0, 0))
  row : ∀ j : Nat, j < n → j ≠ me → W.cell? ⟨rb, j, none⟩ = some (.int .i64 (c j)) ∧ W.frozen? ⟨rb, j, none⟩ = false
  rlt : rb < W.heap.size
  ne : rb ≠ db
  ok : okC n me c
  tl : 0 ≤ t
  th : t ≤ 1125899906842624
  hn : n ≤ 8
  hm : me < n
theorem DC.lt {n me : Nat} {c : Int → Int} {t : Int} {db rb : Nat} {W : World} (h : DC n me c t db rb W) : db < W.heap.size := (Array.getElem?_eq_some_iff.1 h.blk).1
theorem DC.c0 {n me : Nat} {c : Int → Int} {t : Int} {db rb : Nat} {W : World} (h : DC n me c t db rb W) : W.cell? ⟨db, 0, none⟩ = some (.slice (some ⟨rb, 0, none⟩) n n) := cellB h.blk 0
theorem DC.c1 {n me : Nat} {c : Int → Int} {t : Int} {db rb : Nat} {W : World} (h : DC n me c t db rb W) : W.cell? ⟨db, 1, none⟩ = some (.int .i64 me) := cellB h.blk 1
theorem DC.c2 {n me : Nat} {c : Int → Int} {t : Int} {db rb : Nat} {W : World} (h : DC n me c t db rb W) : W.cell? ⟨db, 2, none⟩ = some (.int .i64 t) := cellB h.blk 2
theorem DC.froz {n me : Nat} {c : Int → Int} {t : Int} {db rb : Nat} {W : World} (h : DC n me c t db rb W) (i : Nat) : W.frozen? ⟨db, i, none⟩ = false := by simp [World.frozen?, h.blk]
theorem DC.keep {S : Nat → Prop} {n me : Nat} {c : Int → Int} {t : Int} {db rb : Nat} {W W2 : World} (h : DC n me c t db rb W) (hf : Fr S W W2) (h1 : ¬ S db) (h2 : ¬ S rb) : DC n me c t db rb W2 :=
  ⟨(hf.block db h.lt h1).trans h.blk, fun j hj hm => ⟨(hf.cell (p := ⟨rb, j, none⟩) h.rlt h2).trans (h.row j hj hm).1, (hf.frozen (p := ⟨rb, j, none⟩) h.rlt h2).trans (h.row j hj hm).2⟩, Nat.lt_of_lt_of_le h.rlt hf.size, h.ne, h.ok, h.tl, h.th, h.hn, h.hm⟩
theorem DC.below {n me : Nat} {c : Int → Int} {t : Int} {db rb : Nat} {W W2 : World} (h : DC n me c t db rb W) (hb : Below W.heap.size W W2) : DC n me c t db rb W2 :=
  h.keep (Fr.of_below (S := fun _ => False) hb) (fun g => g) (fun g => g)
theorem DC.say {n me : Nat} {c : Int → Int} {t : Int} {db rb : Nat} {W : World} (h : DC n me c t db rb W) {x : Int} (h0 : 0 ≤ x) (h1 : x ≤ 1125899906842624) : DC n me c x db rb (W.setCell ⟨db, 2, none⟩ (.int .i64 x)) := by
  have hf : Fr (fun k => k = db) W (W.setCell ⟨db, 2, none⟩ (.int .i64 x)) := (Fr.refl _ W).setCell _ _ (Or.inl rfl)
  refine ⟨?_, fun j hj hm => ⟨(hf.cell (p := ⟨rb, j, none⟩) h.rlt h.ne).trans (h.row j hj hm).1, (hf.frozen (p := ⟨rb, j, none⟩) h.rlt h.ne).trans (h.row j hj hm).2⟩, Nat.lt_of_lt_of_le h.rlt hf.size, h.ne, h.ok, h0, h1, h.hn, h.hm⟩
  rw [heap_setCell_same W db 2 _ _ _ h.blk]
  rfl
theorem DC.hears {n me : Nat} {c : Int → Int} {t : Int} {db rb : Nat} {W : World} (h : DC n me c t db rb W) {k : Nat} {x : Int} (hk : k < n) (hkm : k ≠ me) (hx : okT x = true) : DC n me (upC c k x) t db rb (W.setCell ⟨rb, k, none⟩ (.int .i64 x)) := by
  have hf : Fr (fun k => k = rb) W (W.setCell ⟨rb, k, none⟩ (.int .i64 x)) := (Fr.refl _ W).setCell _ _ (Or.inl rfl)
  refine ⟨(hf.block db h.lt (fun e => h.ne e.symm)).trans h.blk, fun j hj hm => ?_, Nat.lt_of_lt_of_le h.rlt hf.size, h.ne, fun i hi => ?_, h.tl, h.th, h.hn, h.hm⟩
  · by_cases e : j = k
    · subst e
      refine ⟨?_, ?_⟩
      · rw [World.cell?_setCell_same' _ _ _ (by rw [(h.row j hj hm).1]; rfl), upC_at]
      · rw [World.frozen?_setCell]; exact (h.row j hj hm).2
    · refine ⟨?_, ?_⟩
      · rw [World.cell?_setCell_other _ _ _ _ (by intro g; exact e (by cases g; rfl)), upC_out _ _ (by omega)]
        exact (h.row j hj hm).1
      · rw [World.frozen?_setCell]; exact (h.row j hj hm).2
  · by_cases e : i = k
    · subst e; rw [upC_at]; exact hx
    · rw [upC_out _ _ e]; exact h.ok i hi

/-- Where a number stands: below, beyond, me, or a clock. -/
theorem four (n me : Nat) (j : Int) : (j < 0 ∧ isCl n me j = false) ∨ (0 ≤ j ∧ (n : Int) ≤ j ∧ isCl n me j = false) ∨ (0 ≤ j ∧ j < n ∧ j = me ∧ isCl n me j = false) ∨ ∃ k : Nat, j = k ∧ k < n ∧ k ≠ me ∧ isCl n me j = true := by
  by_cases h0 : j < 0
  · exact .inl ⟨h0, isCl_no.2 (by omega)⟩
  by_cases h1 : (n : Int) ≤ j
  · exact .inr (.inl ⟨by omega, h1, isCl_no.2 (by omega)⟩)
  by_cases h2 : j = me
  · exact .inr (.inr (.inl ⟨by omega, by omega, h2, isCl_no.2 (by omega)⟩))
  · obtain ⟨k, rfl⟩ := Int.eq_ofNat_of_zero_le (show 0 ≤ j by omega)
    exact .inr (.inr (.inr ⟨k, rfl, by omega, by omega, isCl_iff.2 ⟨by omega, by omega, h2⟩⟩))

set_option maxHeartbeats 1000000 in
theorem dat_any {n me : Nat} {c : Int → Int} {t : Int} {db rb : Nat} {w : World} (h : DC n me c t db rb w) (j : Int) :
    Calls Try.prog 15 #[.pointer (some ⟨db, 0, none⟩), .int .i64 j] w fun e w' => e = .returned (.int .i64 (atC n me c j)) ∧ w = w' := by
  have c0 := h.c0
  have c1 := h.c1
  unfold atC
  rcases four n me j with ⟨h0, hc⟩ | ⟨h0, h1, hc⟩ | ⟨h0, h1, h2, hc⟩ | ⟨k, rfl, hk, hkm, hc⟩
  · rw [hc, if_neg (by simp)]
    clear hc
    go_enter Try.func15, Try.ntmps15
    go_wp2
    go_ret
    exact ⟨rfl, rfl⟩
  · rw [hc, if_neg (by simp)]
    clear hc
    have hnn : ¬ j < 0 := by omega
    go_enter Try.func15, Try.ntmps15
    go_wp2
    go_ret
    exact ⟨rfl, rfl⟩
  · rw [hc, if_neg (by simp)]
    have hnn : ¬ j < 0 := by omega
    have hng : ¬ (n : Int) ≤ j := by omega
    have d : (j == (me : Int)) = true := by simpa using h2
    clear hc h2
    go_enter Try.func15, Try.ntmps15
    go_wp2
    go_ret
    exact ⟨rfl, rfl⟩
  · rw [hc, if_pos rfl]
    have x := (h.row k hk hkm).1
    have hng : ¬ (n : Int) ≤ (k : Int) := by omega
    have hlt : (k : Int) < (n : Int) := by omega
    have d : ((k : Int) == (me : Int)) = false := by simp; omega
    obtain ⟨y, hy⟩ : ∃ y, c k = y := ⟨_, rfl⟩
    rw [hy] at x ⊢
    clear hc hy hkm
    go_enter Try.func15, Try.ntmps15
    go_wp2
    go_ret
    exact ⟨rfl, rfl⟩
set_option maxHeartbeats 1000000 in
theorem dtold_any {n me : Nat} {c : Int → Int} {t : Int} {db rb : Nat} {w : World} (h : DC n me c t db rb w) :
    Calls Try.prog 19 #[.pointer (some ⟨db, 0, none⟩)] w fun e w' => e = .returned (.int .i64 t) ∧ w = w' := by
  have c2 := h.c2
  go_enter Try.func19, Try.ntmps19
  go_wp2
  go_ret
  exact ⟨rfl, rfl⟩
set_option maxHeartbeats 1000000 in
theorem dhear_any {n me : Nat} {c : Int → Int} {t : Int} {db rb : Nat} {w : World} (h : DC n me c t db rb w) (j x : Int) :
    Calls Try.prog 11 #[.pointer (some ⟨db, 0, none⟩), .int .i64 j, .int .i64 x] w fun e w' => e = .returned (.int .i64 (hrE n me c j x)) ∧ DC n me (hrC n me c j x) t db rb w' ∧ Fr (fun k => k = rb) w w' := by
  have c0 := h.c0
  have c1 := h.c1
  have HP : Hid (DC n me c t db rb w) := h
  have no : isCl n me j = false → hrE n me c j x = 1 ∧ hrC n me c j x = c := fun hc => by
    have e : hrE n me c j x = 1 := by unfold hrE; rw [if_neg (by simp [hc])]
    exact ⟨e, by unfold hrC; rw [if_neg (by rw [e]; decide)]⟩
  rcases four n me j with ⟨h0, hc⟩ | ⟨h0, h1, hc⟩ | ⟨h0, h1, h2, hc⟩ | ⟨k, rfl, hk, hkm, hc⟩
  · rw [(no hc).1, (no hc).2]
    clear hc no h
    go_enter Try.func11, Try.ntmps11
    go_wp2
    go_ret
    exact ⟨rfl, HP.out, Fr.refl _ _⟩
  · rw [(no hc).1, (no hc).2]
    clear hc no h
    have hnn : ¬ j < 0 := by omega
    go_enter Try.func11, Try.ntmps11
    go_wp2
    go_ret
    exact ⟨rfl, HP.out, Fr.refl _ _⟩
  · rw [(no hc).1, (no hc).2]
    have hnn : ¬ j < 0 := by omega
    have hng : ¬ (n : Int) ≤ j := by omega
    have d : (j == (me : Int)) = true := by simpa using h2
    clear hc h2 no h
    go_enter Try.func11, Try.ntmps11
    go_wp2
    go_ret
    exact ⟨rfl, HP.out, Fr.refl _ _⟩
  · obtain ⟨cx, fx⟩ := h.row k hk hkm
    have hng : ¬ (n : Int) ≤ (k : Int) := by omega
    have hlt : (k : Int) < (n : Int) := by omega
    have d : ((k : Int) == (me : Int)) = false := by simp; omega
    have V := refvalid_any x
    cases hv : okT x
    · have e : hrE n me c k x = 1 := by unfold hrE; rw [if_neg (by simp [hv])]
      have e2 : hrC n me c k x = c := by unfold hrC; rw [if_neg (by rw [e]; decide)]
      rw [e, e2]
      simp only [hv] at V
      clear e e2 no hc hkm h
      go_enter Try.func11, Try.ntmps11
      go_wp2_with (go_at_call 21; refine (V _).mono ?_; rintro e w' ⟨rfl, rfl⟩)
      go_ret
      exact ⟨rfl, HP.out, Fr.refl _ _⟩
    · simp only [hv] at V
      obtain ⟨y, hy⟩ : ∃ y, c k = y := ⟨_, rfl⟩
      rw [hy] at cx
      by_cases hxy : x < y
      · have e : hrE n me c k x = 110 := by unfold hrE; rw [if_pos ⟨hc, hv⟩, hy, if_pos hxy]
        have e2 : hrC n me c k x = c := by unfold hrC; rw [if_neg (by rw [e]; decide)]
        rw [e, e2]
        clear e e2 no hc hkm h hy
        go_enter Try.func11, Try.ntmps11
        go_wp2_with (go_at_call 21; refine (V _).mono ?_; rintro e w' ⟨rfl, rfl⟩)
        go_ret
        exact ⟨rfl, HP.out, Fr.refl _ _⟩
      · have e : hrE n me c k x = 0 := by unfold hrE; rw [if_pos ⟨hc, hv⟩, hy, if_neg hxy]
        have e2 : hrC n me c k x = upC c k x := by unfold hrC; rw [if_pos e]
        have HQ : Hid _ := h.hears hk hkm hv
        rw [e, e2]
        clear e e2 no hc hkm h hy
        go_enter Try.func11, Try.ntmps11
        go_wp2_with (go_at_call 21; refine (V _).mono ?_; rintro e w' ⟨rfl, rfl⟩)
        go_ret
        exact ⟨rfl, HQ.out, (Fr.refl _ _).setCell _ _ (Or.inl rfl)⟩
set_option maxHeartbeats 1000000 in
theorem dbound_any {n me : Nat} {c : Int → Int} {t : Int} {db rb : Nat} {w : World} (h : DC n me c t db rb w) :
    Calls Try.prog 17 #[.pointer (some ⟨db, 0, none⟩)] w fun e w' => e = .returned (.int .i64 (bnd n me c)) ∧ w = w' := by
  have c0 := h.c0
  have c1 := h.c1
  have hn8 := h.hn
  have HP : Hid (DC n me c t db rb w) := h
  clear h
  go_enter Try.func17, Try.ntmps17
  go_wp2
  go_loop [3, 4] (fun s3 s4 => ∃ k : Nat, k ≤ n ∧ s4 = .int .i64 k ∧ s3 = .int .i64 (bndK me c k)) (fun _ s4 => n - (intOf s4).toNat)
  case atStart => exact ⟨0, Nat.zero_le _, rfl, rfl⟩
  case round =>
    obtain ⟨k, hk, rfl, rfl⟩ := hrel
    by_cases hlt : k < n
    · have hlt' : (k : Int) < (n : Int) := by omega
      obtain ⟨m, hm⟩ : ∃ m, bndK me c k = m := ⟨_, rfl⟩
      by_cases hkm : k = me
      · have d : ((k : Int) != (me : Int)) = false := by simp [hkm]
        have e : bndK me c (k + 1) = m := by unfold bndK; rw [if_pos hkm]; exact hm
        rw [hm]
        clear hkm hm
        go_wp2
        go_round
        case rel => exact ⟨k + 1, by omega, by go_num, by rw [e]⟩
        case measure => simp [intOf]; omega
      · have d : ((k : Int) != (me : Int)) = true := by simp; omega
        have x := (HP.out.row k hlt hkm).1
        obtain ⟨y, hy⟩ : ∃ y, c k = y := ⟨_, rfl⟩
        rw [hy] at x
        have e : bndK me c (k + 1) = min m y := by unfold bndK; rw [if_neg hkm, hm, hy]
        rw [hm]
        clear hkm hm hy
        go_wp2
        go_round
        case rel => exact ⟨k + 1, by omega, by go_num, by rw [e]⟩
        case measure => simp [intOf]; omega
    · obtain rfl : k = n := by omega
      go_wp2
      go_ret
      exact ⟨rfl, rfl⟩
set_option maxRecDepth 100000 in
set_option maxHeartbeats 2000000 in
theorem dtell_any {n me : Nat} {c : Int → Int} {t : Int} {db rb : Nat} {w : World} (h : DC n me c t db rb w) (first look : Int) :
    Calls Try.prog 13 #[.pointer (some ⟨db, 0, none⟩), .int .i64 first, .int .i64 look] w fun e w' => e = .returned (.tuple #[.int .i64 (tlT n me c t first look), .bool (tlB n me c t first look)]) ∧ DC n me c (tlT n me c t first look) db rb w' ∧ Fr (fun k => k = db) w w' := by
  have BD := dbound_any h
  have HP : Hid (DC n me c t db rb w) := h
  obtain ⟨B, hB⟩ : ∃ B, bnd n me c = B := ⟨_, rfl⟩
  obtain ⟨p, hp⟩ : ∃ p, prm n me c first look = p := ⟨_, rfl⟩
  obtain ⟨q, hq⟩ : ∃ q, lstI [first, B] = q := ⟨_, rfl⟩
  have hp2 : vadd q look = p := by rw [← hp, ← hq, ← hB]; rfl
  have hp0 : 0 ≤ p := by rw [← hp]; exact prm_lo ..
  have hp1 : p ≤ 1125899906842624 := by rw [← hp]; exact prm_hi ..
  rw [hB] at BD
  have LS : ∀ W : World, Calls Try.prog 25 #[.slice (some ⟨W.heap.size, 0, none⟩) 2 2] (W.alloc (.cells #[.int .i64 first, .int .i64 B] 3)) fun e w' => e = .returned (.int .i64 q) ∧ (W.alloc (.cells #[.int .i64 first, .int .i64 B] 3)) = w' := fun W => by
    rw [← hq]
    exact refleast_any _ (some ⟨W.heap.size, 0, none⟩) 2 [first, B] (rd_two (MapKept.heap_alloc W _).1) (by simp)
  have AD : ∀ W : World, Calls Try.prog 24 #[.int .i64 q, .int .i64 look] W fun e w' => e = .returned (.int .i64 p) ∧ W = w' := fun W => by rw [← hp2]; exact refadd_any q look W
  have HB1 : Hid (Below w.heap.size w (w.alloc (.cells #[.int .i64 first, .int .i64 B] 3))) := al w _
  have c2 := (HP.out.below HB1.out).c2
  have f2 := (HP.out.below HB1.out).froz 2
  unfold tlT tlB
  rw [hp]
  clear hp hp2 hq hB h
  by_cases hle : p ≤ t
  · have d : decide (t < p) = false := by simp; omega
    rw [if_pos hle, d]
    go_enter Try.func13, Try.ntmps13
    go_wp2_with (first | (go_at_call 17; refine BD.mono ?_; rintro e w1 ⟨rfl, rfl⟩) | (go_at_call 25; refine (LS _).mono ?_; rintro e w2 ⟨rfl, rfl⟩) | (go_at_call 24; refine (AD _).mono ?_; rintro e w3 ⟨rfl, rfl⟩))
    go_ret2
    exact ⟨rfl, HP.out.below HB1.out, Fr.of_below HB1.out⟩
  · have d : decide (t < p) = true := by simp; omega
    rw [if_neg hle, d]
    go_enter Try.func13, Try.ntmps13
    go_wp2_with (first | (go_at_call 17; refine BD.mono ?_; rintro e w1 ⟨rfl, rfl⟩) | (go_at_call 25; refine (LS _).mono ?_; rintro e w2 ⟨rfl, rfl⟩) | (go_at_call 24; refine (AD _).mono ?_; rintro e w3 ⟨rfl, rfl⟩))
    go_ret2
    exact ⟨rfl, (HP.out.below HB1.out).say hp0 hp1, (Fr.of_below HB1.out).setCell _ _ (Or.inl rfl)⟩
end Go.Proofs.Ytmhopjpbhdficaa
