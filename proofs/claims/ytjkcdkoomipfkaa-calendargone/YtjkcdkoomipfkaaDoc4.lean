/- Proved: contracts of the document's calendar: New, Push, Days, and the calls of the queue in it. -/
import Derived.Test.YtjkcdkoomipfkaaLawC
namespace Go.Proofs.Ytjkcdkoomipfkaa
open Go.RowKit Go.Sort Go.Lib
set_option linter.unusedVariables false

def IsD (w : World) (G : Nat → Prop) (db rb room day : Nat) (t : List M) : Prop :=
  ∃ G0, w.cell? ⟨db, 0, none⟩ = some (.pointer (some ⟨rb, 0, none⟩)) ∧ w.cell? ⟨db, 1, none⟩ = some (.int .i64 day) ∧ IsR w G0 rb room t ∧ ¬ G0 db ∧ (∀ m ∈ t, vt m.1.1 = true) ∧ 1 ≤ day ∧ day ≤ 1048576 ∧ G = fun k => k = db ∨ G0 k
def PD (db rb room day : Nat) (t : List M) : World → (Nat → Prop) → Prop := fun w G => IsD w G db rb room day t
theorem thD (db rb room day : Nat) (t : List M) : Th (PD db rb room day t) where
  lt := by
    rintro w F ⟨G0, c0, c1, hr, hn, hv, d1, d2, rfl⟩ k (rfl | hk)
    · exact cell_lt c0
    · exact hr.lt k hk
  keep := by
    rintro S w w' F ⟨G0, c0, c1, hr, hn, hv, d1, d2, rfl⟩ hf hd
    exact ⟨G0, (hf.cell (p := ⟨db, 0, none⟩) (cell_lt c0) (hd db (.inl rfl))).trans c0, (hf.cell (p := ⟨db, 1, none⟩) (cell_lt c1) (hd db (.inl rfl))).trans c1, hr.keep hf (fun k hk => hd k (.inr hk)), hn, hv, d1, d2, rfl⟩
/-- What the queue in it does is what it does. -/
theorem PD.of_queue {W W2 : World} {F : Nat → Prop} {db rb room day : Nat} {t t2 : List M} (h : PD db rb room day t W F) (hv : ∀ m ∈ t2, vt m.1.1 = true) :
    ∃ G0, IsR W G0 rb room t ∧ ∀ G2, IsR W2 G2 rb room t2 → Step G0 G2 W W2 → ∃ F2, PD db rb room day t2 W2 F2 ∧ Step F F2 W W2 := by
  obtain ⟨G0, c0, c1, hr, hn, hv0, d1, d2, rfl⟩ := h
  refine ⟨G0, hr, fun G2 h2 hs => ⟨_, ⟨G2, (hs.1.cell (p := ⟨db, 0, none⟩) (cell_lt c0) hn).trans c0, (hs.1.cell (p := ⟨db, 1, none⟩) (cell_lt c1) hn).trans c1, h2, ?_, hv, d1, d2, rfl⟩, hs.1.wide (fun k hk => .inr hk), ?_⟩⟩
  · intro e
    rcases hs.2 db e with g | g
    · exact hn g
    · have := cell_lt c0; omega
  · rintro k (rfl | hk)
    · exact .inl (.inl rfl)
    · rcases hs.2 k hk with g | g
      · exact .inl (.inr g)
      · exact .inr g
theorem PD.q {W : World} {F : Nat → Prop} {db rb room day : Nat} {t : List M} (h : PD db rb room day t W F) : ∃ G0, IsR W G0 rb room t := by
  obtain ⟨G0, c0, c1, hr, _⟩ := h
  exact ⟨G0, hr⟩
theorem PD.c0 {W : World} {F : Nat → Prop} {db rb room day : Nat} {t : List M} (h : PD db rb room day t W F) : W.cell? ⟨db, 0, none⟩ = some (.pointer (some ⟨rb, 0, none⟩)) := by
  obtain ⟨G0, c0, c1, hr, _⟩ := h
  exact c0
theorem PD.vt {W : World} {F : Nat → Prop} {db rb room day : Nat} {t : List M} (h : PD db rb room day t W F) : ∀ m ∈ t, vt m.1.1 = true := by
  obtain ⟨G0, c0, c1, hr, hn, hv, _⟩ := h
  exact hv

theorem dpop {W : World} {F : Nat → Prop} {db rb room day : Nat} {t : List M} (h : PD db rb room day t W F) : Calls Try.prog 16 #[.pointer (some ⟨rb, 0, none⟩)] W fun e w' => e = .returned (.tuple #[mv (t.headD zeroM), .bool (!t.isEmpty)]) ∧ ∃ F2, PD db rb room day t.tail w' F2 ∧ Step F F2 W w' := by
  obtain ⟨G0, c0, c1, hr, hn, hv, d1, d2, rfl⟩ := h
  refine (rpop_any hr).mono fun e w' ⟨he, G2, h2, hs⟩ => ⟨he, ?_⟩
  obtain ⟨G', hr', hx⟩ := PD.of_queue (W2 := w') (t2 := t.tail) ⟨G0, c0, c1, hr, hn, hv, d1, d2, rfl⟩ (fun m hm => hv m (List.mem_of_mem_tail hm))
  exact ⟨_, ⟨G2, (hs.1.cell (p := ⟨db, 0, none⟩) (cell_lt c0) hn).trans c0, (hs.1.cell (p := ⟨db, 1, none⟩) (cell_lt c1) hn).trans c1, h2, fun e => (hs.2 db e).elim hn (fun g => by have := cell_lt c0; omega), fun m hm => hv m (List.mem_of_mem_tail hm), d1, d2, rfl⟩, hs.1.wide (fun k hk => .inr hk), fun k hk => hk.elim (fun e => .inl (.inl e)) (fun g => (hs.2 k g).imp .inr id)⟩
theorem dremove {W : World} {F : Nat → Prop} {db rb room day : Nat} {t : List M} (h : PD db rb room day t W F) (k : K) : Calls Try.prog 18 #[.pointer (some ⟨rb, 0, none⟩), kv k] W fun e w' => e = .returned (.tuple #[mv (fnd t k), .bool (hasK t k)]) ∧ ∃ F2, PD db rb room day (del t k) w' F2 ∧ Step F F2 W w' := by
  obtain ⟨G0, c0, c1, hr, hn, hv, d1, d2, rfl⟩ := h
  exact (rremove_any hr k.1 k.2.1 k.2.2).mono fun e w' ⟨he, G2, h2, hs⟩ => ⟨he, _, ⟨G2, (hs.1.cell (p := ⟨db, 0, none⟩) (cell_lt c0) hn).trans c0, (hs.1.cell (p := ⟨db, 1, none⟩) (cell_lt c1) hn).trans c1, h2, fun e => (hs.2 db e).elim hn (fun g => by have := cell_lt c0; omega), fun m hm => hv m (List.mem_filter.1 hm).1, d1, d2, rfl⟩, hs.1.wide (fun k hk => .inr hk), fun k hk => hk.elim (fun e => .inl (.inl e)) (fun g => (hs.2 k g).imp .inr id)⟩
theorem dfirst {W : World} {F : Nat → Prop} {db rb room day : Nat} {t : List M} (h : PD db rb room day t W F) : Calls Try.prog 14 #[.pointer (some ⟨rb, 0, none⟩)] W fun e w' => e = .returned (.tuple #[mv (t.headD zeroM), .bool (!t.isEmpty)]) ∧ Below W.heap.size W w' := by
  obtain ⟨G0, hr⟩ := h.q
  exact rfirst_any hr
theorem dlen {W : World} {F : Nat → Prop} {db rb room day : Nat} {t : List M} (h : PD db rb room day t W F) : Calls Try.prog 24 #[.pointer (some ⟨rb, 0, none⟩)] W fun e w' => e = .returned (.int .i64 t.length) ∧ w' = W := by
  obtain ⟨G0, hr⟩ := h.q
  exact rlen_any hr
theorem dlist {W : World} {F : Nat → Prop} {db rb room day : Nat} {t : List M} (h : PD db rb room day t W F) : Calls Try.prog 26 #[.pointer (some ⟨rb, 0, none⟩)] W fun e w' => ∃ a cap, e = .returned (.slice a t.length cap) ∧ Own w' (.slice a t.length cap) t ∧ Below W.heap.size W w' := by
  obtain ⟨G0, hr⟩ := h.q
  refine (rlist_any hr).mono fun e w' ⟨v, he, ho, _, hb⟩ => ?_
  obtain ⟨a, cap, rfl, _⟩ := ho.rd
  exact ⟨a, cap, he, ho, hb⟩
theorem dbelow {W : World} {F : Nat → Prop} {db rb room day : Nat} {t : List M} (h : PD db rb room day t W F) (x : Int) : Calls Try.prog 21 #[.pointer (some ⟨rb, 0, none⟩), .int .i64 x] W fun e w' => ∃ a cap, e = .returned (.slice a (low t x).length cap) ∧ Own w' (.slice a (low t x).length cap) (low t x) ∧ Below W.heap.size W w' := by
  obtain ⟨G0, hr⟩ := h.q
  refine (rbelow_any hr x).mono fun e w' ⟨v, he, ho, _, hb⟩ => ?_
  obtain ⟨a, cap, rfl, _⟩ := ho.rd
  exact ⟨a, cap, he, ho, hb⟩

theorem clampD_int2 (d : Int) : (clampD d : Int) = max 1 (min d 1048576) := by unfold clampD; omega
set_option maxHeartbeats 1000000 in
theorem dnew (r d : Int) (w : World) (hr : i64 r) (hd : i64 d) : Calls Try.prog 9 #[.int .i64 r, .int .i64 d] w fun e w' => ∃ db rb F, e = .returned (.pointer (some ⟨db, 0, none⟩)) ∧ PD db rb (clampR r) (clampD d) [] w' F ∧ (∀ k, F k → w.heap.size ≤ k) ∧ Below w.heap.size w w' := by
  have N := rnew_any r w hr
  have hc2 := clampD_int2 d
  have hcd := clampD_le d
  unfold i64 at hr hd
  go_enter Try.func9, Try.ntmps9
  go_wp2_with fail
  refine N.mono ?_
  rintro e w1 ⟨rb, G, rfl, hR, hG, b1⟩
  clear N
  go_wp2
  go_ret
  have hb : Below w1.heap.size w1 (w1.alloc (.cells #[.pointer (some ⟨rb, 0, none⟩), .int .i64 (max 1 (min d 1048576))] 41)) := (Below.refl _ _).alloc (Nat.le_refl _) _
  refine ⟨w1.heap.size, rb, _, rfl, ⟨G, ?_, ?_, hR.below hb, fun e => by have := hR.lt _ e; omega, by simp, hcd.1, hcd.2, rfl⟩, ?_, b1.trans (hb.mono b1.size)⟩
  · rw [World.cell?_alloc_new]; rfl
  · rw [hc2, World.cell?_alloc_new]; rfl
  · rintro k (rfl | hk)
    · exact b1.size
    · exact hG k hk

set_option maxRecDepth 100000 in
set_option maxHeartbeats 1000000 in
theorem dpush {W : World} {F : Nat → Prop} {db rb room day : Nat} {t : List M} (h : PD db rb room day t W F) (m : M) : Calls Try.prog 12 #[.pointer (some ⟨db, 0, none⟩), mv m] W fun e w' => e = .returned (.int .i64 (cpushC t room m)) ∧ ∃ F2, PD db rb room day (cpushS t room m) w' F2 ∧ Step F F2 W w' := by
  have mixed : Try.prog.follows .mixedOrders = true := by kernel_rfl
  have h00 := h
  obtain ⟨G0, c0, c1, hr, hn, hv, d1, d2, rfl⟩ := h
  obtain ⟨w1, hw1⟩ : ∃ w1, w1 = W.alloc (.cells #[.int .i64 m.1.1, .int .i64 m.1.2.1, .int .i64 m.1.2.2, .int .i64 m.2.1, .int .i64 m.2.2.1, .int .i64 m.2.2.2] 32) := ⟨_, rfl⟩
  have b1 : Below W.heap.size W w1 := by rw [hw1]; exact (Below.refl _ W).alloc (Nat.le_refl _) _
  have n0 : BoxM w1 W.heap.size m := by rw [hw1]; exact BoxM.made W m
  have V := rvalid_any m.1.1 w1
  have HW : Hid _ := hw1
  have h1 := (thD db rb room day t).below h00 b1
  obtain ⟨y0, y1, y2, y3, y4, y5⟩ := n0.cells
  have z0 := h1.c0
  unfold cpushC cpushS pushC pushS
  cases hvt : Ytjkcdkoomipfkaa.vt m.1.1
  · rw [hvt] at V
    simp only [Bool.false_eq_true, if_false]
    have HE : Aside (∃ F2, PD db rb room day t w1 F2 ∧ Step (fun k => k = db ∨ G0 k) F2 W w1) := ⟨_, h1, Fr.of_below b1, fun k hk => .inl hk⟩
    clear hw1 h00 h1 n0 hvt b1 hr hv
    go_enter Try.func12, Try.ntmps12
    go_wp2_with fail
    rw [← HW.out]
    refine V.mono ?_
    rintro e w2 ⟨rfl, rfl⟩
    go_wp2
    go_ret
    exact ⟨rfl, HE.out⟩
  · rw [hvt] at V
    simp only [if_true]
    have hr1 := hr.below (b1.drew)
    have R := rpush_any hr1 m
    have hvv : ∀ x ∈ (if hasK t m.1 = true then t else if room ≤ t.length then t else ins t m), Ytjkcdkoomipfkaa.vt x.1.1 = true := by
      intro x hx
      split at hx
      · exact hv x hx
      · split at hx
        · exact hv x hx
        · rcases ins_mem.1 hx with g | rfl
          · exact hv x g
          · exact hvt
    have E : ∀ W2 G2, IsR W2 G2 rb room (if hasK t m.1 = true then t else if room ≤ t.length then t else ins t m) → Step G0 G2 w1.drew W2 → ∃ F2, PD db rb room day (if hasK t m.1 = true then t else if room ≤ t.length then t else ins t m) W2 F2 ∧ Step (fun k => k = db ∨ G0 k) F2 W W2 := by
      intro W2 G2 h2 hs
      have f := (Fr.of_below (S := G0) b1).drew.trans hs.1 (fun _ _ g => g)
      refine ⟨_, ⟨G2, (f.cell (p := ⟨db, 0, none⟩) (cell_lt c0) hn).trans c0, (f.cell (p := ⟨db, 1, none⟩) (cell_lt c1) hn).trans c1, h2, ?_, hvv, d1, d2, rfl⟩, f.wide (fun k hk => .inr hk), ?_⟩
      · intro e
        rcases hs.2 db e with g | g
        · exact hn g
        · have := cell_lt c0
          have := b1.size
          have e2 : w1.drew.heap.size = w1.heap.size := rfl
          omega
      · rintro k (rfl | hk)
        · exact .inl (.inl rfl)
        · rcases hs.2 k hk with g | g
          · exact .inl (.inr g)
          · exact .inr (Nat.le_trans b1.size g)
    obtain ⟨CC, hCC⟩ : ∃ CC : Int, (if hasK t m.1 = true then 3 else if room ≤ t.length then 2 else 0) = CC := ⟨_, rfl⟩
    obtain ⟨SS, hSS⟩ : ∃ SS : List M, (if hasK t m.1 = true then t else if room ≤ t.length then t else ins t m) = SS := ⟨_, rfl⟩
    rw [hCC, hSS] at R
    rw [hSS] at E
    rw [hCC, hSS]
    have HE : Aside _ := E
    dsimp only [mv] at R
    clear hw1 h00 h1 n0 hvt b1 hr hv hr1 hvv E hCC hSS c0 c1 hn
    go_enter Try.func12, Try.ntmps12
    go_wp2_with fail
    rw [← HW.out]
    refine V.mono ?_
    rintro e w2 ⟨rfl, rfl⟩
    go_wp2_with fail
    go_region_with (first | (go_at_call 38; refine R.mono ?_; rintro e wR ⟨rfl, G2, hR2, sR2⟩))
    all_goals
      have EE : Aside _ := HE.out wR G2 hR2 sR2
      clear R hR2 sR2 HE
      go_wp2
      go_ret
      exact ⟨rfl, EE.out⟩

def cntF (day : Nat) (t : List M) (k : Nat) : Nat → Value := fun i => .int .i64 ((pg day i (t.take k)).length : Int)
theorem cnt_snoc (day : Nat) (t : List M) (k i : Nat) (h : k < t.length) : (pg day i (t.take (k + 1))).length = (pg day i (t.take k)).length + if pgN day (nth t k).1.1 = i then 1 else 0 := by
  rw [List.take_succ_eq_append_getElem h, nth_get t k h]
  unfold pg
  rw [List.filter_append, List.length_append]
  by_cases e : pgN day (t[k]).1.1 = i <;> simp [e]

set_option maxRecDepth 100000 in
set_option maxHeartbeats 2000000 in
theorem ddays {w : World} {F : Nat → Prop} {db rb room day : Nat} {t : List M} (h : PD db rb room day t w F) : Calls Try.prog 22 #[.pointer (some ⟨db, 0, none⟩)] w fun e w' => e = .returned (.slice (some ⟨w.heap.size, 0, none⟩) 8 8) ∧ w'.rowIs w.heap.size 3 8 (dayF day t 8) ∧ Below w.heap.size w w' := by
  have mixed : Try.prog.follows .mixedOrders = true := by kernel_rfl
  obtain ⟨w0, hw0⟩ : ∃ w0, w0 = w.alloc (.cells (madeCells #[.int .i64 0] 8) 3) := ⟨_, rfl⟩
  have hmk : (Instr.makeSlice 27 (.int .i64 8) (.int .i64 8)).run Try.prog w = .ok (.slice (some ⟨w.heap.size, 0, none⟩) 8 8) w0 := by
    rw [hw0]
    exact run_make_row' 27 3 (.int .i64 0) 8 Try.underlying27 info3 rfl .i64 .i64 8 (by omega) (by omega) w
  have b0 : Below w.heap.size w w0 := by rw [hw0]; exact (Below.refl _ _).alloc (Nat.le_refl _) _
  have r0 : w0.rowIs w.heap.size 3 8 (cntF day t 0) := by
    rw [hw0]
    refine (World.rowIs_made w (.int .i64 0) 8 3).congr ?_
    intro i hi
    simp [cntF, pg]
  obtain ⟨G0, c0, c1, ⟨v, q0, q1, _, ho, _, _, hrm, hlen, _⟩, hn, hv, d1, d2, rfl⟩ := h
  have l0 := cell_lt c0
  have l1 := cell_lt q0
  obtain ⟨a, cap, rfl, hjunk⟩ := ho.rd
  clear hjunk hw0
  have HV : Aside _ := hv
  have hne : ((day : Int) == 0) = false := by simp; omega
  have hne2 : ¬ ((day : Int) = 0) := by omega
  go_enter Try.func22, Try.ntmps22
  go_wp2_with fail
  go_loopw [4] (fun s4 wr => ∃ k : Nat, k ≤ t.length ∧ s4 = .int .i64 k ∧ wr.rowIs w.heap.size 3 8 (cntF day t k) ∧ Below w.heap.size w wr) (fun s4 _ => t.length - (intOf s4).toNat)
  case atStart => exact ⟨0, Nat.zero_le _, rfl, r0, b0⟩
  case round =>
    obtain ⟨k, hk, rfl, hrow, hb⟩ := hrel
    have e0 := (hb.cell (p := ⟨db, 0, none⟩) l0).trans c0
    have e1 := (hb.cell (p := ⟨db, 1, none⟩) l0).trans c1
    have e2 := (hb.cell (p := ⟨rb, 1, none⟩) l1).trans q1
    by_cases hkl : k < t.length
    · have hk' : (k : Int) < (t.length : Int) := by omega
      have hr := ho.keep (S := fun _ => False) (Fr.of_below hb) (fun _ _ g => g)
      obtain ⟨g, cap', hv', hg⟩ := own_nonempty hr hkl
      obtain ⟨rfl, rfl⟩ : a = some ⟨g, 0, none⟩ ∧ cap = cap' := by simpa using hv'
      obtain ⟨x, hx⟩ : ∃ x, nth t k = x := ⟨_, rfl⟩
      obtain ⟨x0, _, _, _, _, _⟩ := own_cell hr (x := x) hkl (by rw [← nth_get]; exact hx)
      have hvx : Ytjkcdkoomipfkaa.vt x.1.1 = true := by rw [← hx]; exact HV.out _ (nth_mem hkl)
      have hx1 : 0 ≤ x.1.1 ∧ x.1.1 ≤ 1125899906842624 := by
        unfold Ytjkcdkoomipfkaa.vt at hvx
        simp only [decide_eq_true_eq] at hvx
        omega
      have hmod := pgN_int day x.1.1 hx1.1
      obtain ⟨p, hp⟩ : ∃ p, pgN day x.1.1 = p := ⟨_, rfl⟩
      have hp8 : p < 8 := by rw [← hp]; exact pgN_lt _ _
      rw [hp] at hmod
      have hp8' : (p : Int) < 8 := by omega
      have hS := fun i => cnt_snoc day t k i hkl
      rw [hx, hp] at hS
      have HS : Aside _ := hS
      have hcell : ∀ n, (wr.drewN n).cell? ⟨w.heap.size, p, none⟩ = some (.int .i64 ((pg day p (t.take k)).length : Int)) := fun n => hrow.cell hp8
      have hfz : ∀ n, (wr.drewN n).frozen? ⟨w.heap.size, p, none⟩ = false := fun n => hrow.frozen p
      have hcl : (pg day p (t.take k)).length ≤ 1000 := by
        have := pg_len_le day p (t.take k)
        rw [List.length_take] at this
        omega
      obtain ⟨cn, hcn⟩ : ∃ cn, (pg day p (t.take k)).length = cn := ⟨_, rfl⟩
      rw [hcn] at hcell hcl
      have HCN : Aside _ := hcn
      have hrow' : Aside _ := hrow
      clear hx hp hS hcn hr hv' hvx hrow
      go_wp2_with fail
      go_quiet (fail)
      have u1 := hcell nq
      have u2 := hfz nq
      go_wp2
      go_roundw
      case rel =>
        refine ⟨k + 1, by omega, by go_num, ?_, ?_⟩
        · refine (World.rowIs.set (w := wr.drewN nq) hrow'.out p _).congr ?_
          intro i hi
          unfold cntF
          rw [HS.out i]
          by_cases e : i = p
          · subst e
            rw [if_pos rfl, if_pos rfl, HCN.out]
            go_num
          · rw [if_neg e, if_neg (Ne.symm e)]
            simp
        · exact (below_drewN hb nq).setCell (Nat.le_refl _) _
      case measure => simp [intOf]; omega
    · obtain rfl : k = t.length := by omega
      go_wp2
      go_ret
      refine ⟨rfl, hrow.congr ?_, hb⟩
      intro i hi
      unfold cntF dayF
      rw [List.take_length, if_pos hi]
end Go.Proofs.Ytjkcdkoomipfkaa
