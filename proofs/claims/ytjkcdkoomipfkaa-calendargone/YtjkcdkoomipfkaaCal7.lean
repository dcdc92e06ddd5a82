/- Proved: the contract of a calendar's Push. -/
import Derived.Test.YtjkcdkoomipfkaaCal5
namespace Go.Proofs.Ytjkcdkoomipfkaa
open Go.RowKit Go.Sort Go.Lib
set_option linter.unusedVariables false

def pushC (s : List M) (room : Nat) (m : M) : Int := if hasK s m.1 = true then 3 else if room ≤ s.length then 2 else 0
def pushS (s : List M) (room : Nat) (m : M) : List M := if hasK s m.1 = true then s else if room ≤ s.length then s else ins s m
def cpushC (s : List M) (room : Nat) (m : M) : Int := if vt m.1.1 = true then pushC s room m else 1
def cpushS (s : List M) (room : Nat) (m : M) : List M := if vt m.1.1 = true then pushS s room m else s

theorem Box1.of_boxM {W : World} {B : Nat} {m : M} (h : W.heap[B]? = some (.cells #[.int .i64 m.1.1, .int .i64 m.1.2.1, .int .i64 m.1.2.2, .int .i64 m.2.1, .int .i64 m.2.2.1, .int .i64 m.2.2.2] 32 (0, 0))) : Box1 W B m := h

set_option maxRecDepth 100000 in
set_option maxHeartbeats 2000000 in
theorem cpush_any {w : World} {qb room day : Nat} {vs : Nat → Value} {s : List M} (h : IsC w qb room day vs s) (m : M) :
    Calls Try.prog 11 #[.pointer (some ⟨qb, 0, none⟩), mv m] w fun e w' => e = .returned (.int .i64 (cpushC s room m)) ∧ ∃ vs', IsC w' qb room day vs' (cpushS s room m) ∧ Step (FC qb vs) (FC qb vs') w w' := by
  have mixed : Try.prog.follows .mixedOrders = true := by kernel_rfl
  have hlt := h.lt
  have hrm := h.rm
  have hlen := h.len
  have hql : qb < w.heap.size := hlt qb (.inl rfl)
  obtain ⟨w1, hw1⟩ : ∃ w1, w1 = w.alloc (.cells #[.int .i64 m.1.1, .int .i64 m.1.2.1, .int .i64 m.1.2.2, .int .i64 m.2.1, .int .i64 m.2.2.1, .int .i64 m.2.2.2] 32) := ⟨_, rfl⟩
  have b1 : Below w.heap.size w w1 := by rw [hw1]; exact (Below.refl _ w).alloc (Nat.le_refl _) _
  have n0 : BoxM w1 w.heap.size m := by rw [hw1]; exact BoxM.made w m
  have s1 : w1.heap.size = w.heap.size + 1 := by rw [hw1]; simp
  have V := valid_any m.1.1 w1
  have HW : Hid _ := hw1
  have h1 := h.below b1
  obtain ⟨y0, y1, y2, y3, y4, y5⟩ := n0.cells
  unfold cpushC cpushS pushC pushS
  cases hv : vt m.1.1
  · rw [hv] at V
    simp only [Bool.false_eq_true, if_false]
    have HE : Aside (IsC w1 qb room day vs s ∧ Step (FC qb vs) (FC qb vs) w w1) := ⟨h1, Fr.of_below b1, fun k hk => .inl hk⟩
    clear hw1 h h1 n0 hv b1
    go_enter Try.func11, Try.ntmps11
    go_wp2_with fail
    rw [← HW.out]
    refine V.mono ?_
    rintro e w2 ⟨rfl, rfl⟩
    go_wp2
    go_ret
    exact ⟨rfl, _, HE.out⟩
  · rw [hv] at V
    have FI := cfind_any h1 m.1 hv
    obtain ⟨p, hp⟩ : ∃ p, pgN day m.1.1 = p := ⟨_, rfl⟩
    obtain ⟨i, hi⟩ : ∃ i, pos (pg day p s) m.1 = i := ⟨_, rfl⟩
    rw [hp, hi] at FI
    simp only [if_true]
    cases hh : hasK s m.1
    · rw [hh] at FI
      simp only [Bool.false_eq_true, if_false]
      have hp8 : p < 8 := by rw [← hp]; exact pgN_lt _ _
      have ps := h.srt.pg day p
      have hhp : hasK (pg day p s) m.1 = false := by rw [← hp, hasK_pg]; exact hh
      have hil : i ≤ (pg day p s).length := by rw [← hi]; exact pos_le _ _
      have hins := pos_ins ps m hhp
      rw [hi] at hins
      have hpl := pg_len_le day p s
      by_cases hfull : room ≤ s.length
      · rw [if_pos hfull, if_pos hfull]
        clear hw1 hv hh hp hi hins hhp
        dsimp only [kv] at FI
        go_enter Try.func11, Try.ntmps11
        go_wp2_with fail
        rw [← HW.out]
        refine V.mono ?_
        rintro e w2 ⟨rfl, rfl⟩
        go_wp2_with fail
        refine FI.mono ?_
        rintro e w3 ⟨rfl, b3⟩
        have h3 := h1.below b3
        have LL := fun n => clen_any (h3.keep (S := fun _ => False) ((Fr.refl _ w3).drewN n) (fun _ _ g => g))
        have r3 := h3.c0
        have hfull' : (room : Int) ≤ (s.length : Int) := by omega
        have HE : ∀ n, Aside (IsC (w3.drewN n) qb room day vs s ∧ Step (FC qb vs) (FC qb vs) w (w3.drewN n)) := fun n => ⟨h3.keep (S := fun _ => False) ((Fr.refl _ w3).drewN n) (fun _ _ g => g), (Fr.of_below (b1.trans (b3.mono b1.size))).drewN n, fun k hk => .inl hk⟩
        have HE' : Aside _ := HE
        clear HE h h1 h3 n0 b1 b3 FI V ps
        go_wp2_with fail
        go_quiet ((go_at_call 23; exact Calls.quiet_of_same (LL _)))
        go_wp2
        go_ret
        exact ⟨rfl, _, (HE'.out _).out⟩
      · rw [if_neg hfull, if_neg hfull]
        have hpg := fun j => pg_ins h.srt day j m
        have T := fun (w0 W : World) (v : Value) (h0 : IsC w0 qb room day vs s) (ho : Own W v (ins (pg day p s) m)) (hf : Fr (fun k => (vs p).ownBlock = some k) w0 W) (hloc : ∀ k, v.ownBlock = some k → (vs p).ownBlock = some k ∨ w0.heap.size ≤ k) =>
          h0.turn (s' := ins s m) hp8 (by rw [hpg, if_pos hp]; exact ho) hf hloc (fun j hj e => by rw [hpg, if_neg (by rw [hp]; exact Ne.symm e)]) (h.srt.ins (fun c => by rw [← hasK_iff, hh] at c; cases c)) (fun x hx => by rcases ins_mem.1 hx with g | rfl; exact h.wf x g; exact hv) (by rw [ins_len]; omega)
        have HT : Aside _ := T
        clear hw1 hv hh hp hi hhp T hpg
        have HI : Hid _ := hins
        clear hins
        dsimp only [kv] at FI
        obtain ⟨a, cap, hvp, hj⟩ := (h1.own p hp8).rd
        clear hj
        have HV : Hid _ := hvp
        go_enter Try.func11, Try.ntmps11
        go_wp2_with fail
        rw [← HW.out]
        refine V.mono ?_
        rintro e w2 ⟨rfl, rfl⟩
        go_wp2_with fail
        refine FI.mono ?_
        rintro e w3 ⟨rfl, b3⟩
        have h3 := h1.below b3
        have LL := fun n => clen_any (h3.keep (S := fun _ => False) ((Fr.refl _ w3).drewN n) (fun _ _ g => g))
        have r3 := h3.c0
        have hfull' : (s.length : Int) < (room : Int) := by omega
        clear FI V
        go_wp2_with fail
        go_quiet ((go_at_call 23; exact Calls.quiet_of_same (LL _)))
        go_wp2_with fail
        obtain ⟨w4, hw4⟩ : ∃ w4, w3.drewN nq = w4 := ⟨_, rfl⟩
        have b4 : Below w3.heap.size w3 w4 := by rw [← hw4]; exact below_drewN (Below.refl _ _) nq
        rw [hw4]
        have h4 := h3.below b4
        have n4 := (n0.below b3).below b4
        have b14 : Below w.heap.size w w4 := (b1.trans (b3.mono b1.size)).trans (b4.mono (b1.trans (b3.mono b1.size)).size)
        clear hw4 LL r3 h1 h3 b3 b4 y0 y1 y2 y3 y4 y5
        obtain ⟨y0, y1, y2, y3, y4, y5⟩ := n4.cells
        have cp := h4.cp p hp8
        rw [HV.out] at cp
        have hq4 : qb < w4.heap.size := h4.lt qb (.inl rfl)
        have hq5 : ¬ (qb = w4.heap.size) := by omega
        have hw5 : w.heap.size < w4.heap.size := by have := cell_lt y0; omega
        obtain ⟨wB, hwB⟩ : ∃ wB, wB = (w4.alloc (.cells #[.int .i64 m.1.1, .int .i64 m.1.2.1, .int .i64 m.1.2.2, .int .i64 m.2.1, .int .i64 m.2.2.1, .int .i64 m.2.2.2] 32)).drew := ⟨_, rfl⟩
        have bB : Below w4.heap.size w4 wB := by rw [hwB]; exact ((Below.refl _ w4).alloc (Nat.le_refl _) _).drew
        have hB := h4.below bB
        have x1 : Box1 wB w4.heap.size m := Box1.of_boxM (by rw [hwB]; exact heap_alloc_new w4 _)
        have I := sins_any (hB.own p hp8) (by omega) hil x1 (fun e => by have := h4.lt _ (.inr ⟨p, hp8, e⟩); omega)
        rw [HI.out, HV.out] at I
        have HTB := HT.out wB
        rw [HV.out] at HTB
        have HT2 : Aside _ := HTB
        have qB : qb < wB.heap.size := hB.lt qb (.inl rfl)
        have nqp := h4.nq p hp8
        rw [HV.out] at nqp
        have cB := hB.cp p hp8
        have zB := hB.fz (2 + p)
        have HBB : Aside _ := hB
        have hp' : (p : Int) < 8 := by omega
        have bF : Aside (Below w.heap.size w wB) := b14.trans (bB.mono b14.size)
        have HWB : Hid _ := hwB
        clear hB h4 HT HTB n4 n0 h b1 ps b14 bB x1 hwB
        go_region_with (first | (go_at_call 36; rw [← HWB.out]; refine I.mono ?_; rintro e wI ⟨v', rfl, oI, fI, lI⟩; obtain ⟨a', cap', rfl, hjj⟩ := oI.rd; clear hjj; have cI := (fI.cell (p := ⟨qb, 2 + p, none⟩) qB nqp).trans cB; have zI := (fI.frozen (p := ⟨qb, 2 + p, none⟩) qB nqp).trans zB))
        all_goals
          have TT := HT2.out wI _ HBB.out oI fI lI
          have EE : Aside (∃ vs', IsC (wI.setCell ⟨qb, 2 + p, none⟩ (.slice a' (ins (pg day p s) m).length cap')) qb room day vs' (ins s m) ∧ Step (FC qb vs) (FC qb vs') w (wI.setCell ⟨qb, 2 + p, none⟩ (.slice a' (ins (pg day p s) m).length cap'))) :=
            ⟨_, TT.1, (Fr.of_below bF.out).trans TT.2.1 (fun _ _ g => g), fun k hk => (TT.2.2 k hk).imp id (fun g => Nat.le_trans bF.out.size g)⟩
          clear TT HT2 HBB oI fI lI I
          go_wp2
          go_ret
          exact ⟨rfl, EE.out⟩
    · rw [hh] at FI
      simp only [if_true]
      clear hw1 hv hh hp hi
      dsimp only [kv] at FI
      go_enter Try.func11, Try.ntmps11
      go_wp2_with fail
      rw [← HW.out]
      refine V.mono ?_
      rintro e w2 ⟨rfl, rfl⟩
      go_wp2_with fail
      refine FI.mono ?_
      rintro e w3 ⟨rfl, b3⟩
      have HE : Aside (IsC w3 qb room day vs s ∧ Step (FC qb vs) (FC qb vs) w w3) := ⟨h1.below b3, Fr.of_below (b1.trans (b3.mono b1.size)), fun k hk => .inl hk⟩
      clear h h1 n0 b1 b3 FI V
      go_wp2
      go_ret
      exact ⟨rfl, _, HE.out⟩
end Go.Proofs.Ytjkcdkoomipfkaa
