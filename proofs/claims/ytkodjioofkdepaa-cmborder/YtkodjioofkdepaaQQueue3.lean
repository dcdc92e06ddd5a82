/- Proved: contracts of a Queue's Push and Remove. -/
import Derived.Test.YtkodjioofkdepaaQQueue2
namespace Go.Proofs.Ytkodjioofkdepaa.Q
open Go.RowKit Go.Sort
set_option linter.unusedVariables false
set_option maxRecDepth 100000

set_option maxRecDepth 10000 in
theorem MapIs.look {W : World} {mb : Nat} {d : List M} (h : MapIs W mb d) {k : K} (hk : kwf k) :
    ∃ c : Int, (∀ n, (Instr.lookup 94 (.map (some mb)) (kv k) true).run Try.prog (W.drewN n) = .ok (.tuple #[.int .i64 c, .bool (decide (k ∈ d.map Prod.fst))]) (W.drewN n)) ∧ (k ∈ d.map Prod.fst → ∃ i, i < d.length ∧ c = i ∧ (nth d i).1 = k) := by
  obtain ⟨D, hown, hhas, hat⟩ := h
  have hb : Maps.has D (klP Try.prog k) = decide (k ∈ d.map Prod.fst) := by
    cases e : Maps.has D (klP Try.prog k)
    · symm; rw [decide_eq_false_iff_not]; intro g; rw [(hhas k hk).2 g] at e; cases e
    · symm; rw [decide_eq_true_iff]; exact (hhas k hk).1 e
  have one : ∀ n, ∃ c : Int, (Instr.lookup 94 (.map (some mb)) (kv k) true).run Try.prog (W.drewN n) = .ok (.tuple #[.int .i64 c, .bool (decide (k ∈ d.map Prod.fst))]) (W.drewN n) ∧ D.atKey (klP Try.prog k) (num 0) = num c := fun n => by
    obtain ⟨v, ps, hrun, hv⟩ := World.ownsMap.look_ok (w := W.drewN n) (H := Unit) hown keyed28 Try.underlying94 (zero3 _) (plainElem_int (H := Unit) Try.underlying3 (a := 0) (by decide)) (kl_some hk)
    obtain ⟨c, rfl, hc, _⟩ := plainElem_int_inv Try.underlying3 hv
    rw [hb] at hrun
    exact ⟨c, hrun, congrArg Prod.fst hc⟩
  obtain ⟨c, h1, h2⟩ := one 0
  refine ⟨c, fun n => ?_, fun g => ?_⟩
  · obtain ⟨c', h3, h4⟩ := one n
    rw [h2] at h4
    have : c = c' := by simpa using h4
    rw [this]; exact h3
  · obtain ⟨m, hm, rfl⟩ := List.mem_map.1 g
    obtain ⟨i, hi, e⟩ := List.getElem_of_mem hm
    have h3 := hat i hi
    rw [e, h2] at h3
    exact ⟨i, hi, by simpa using h3, by rw [nth_get d i hi, e]⟩

set_option maxRecDepth 100000 in
set_option maxHeartbeats 1000000 in
theorem qpush_any {w : World} {F : Nat → Prop} {qb room : Nat} {s : List M} (h : IsQ w F qb room s) (m : M) (hm : mwf m) :
    Calls Try.prog 40 #[.pointer (some ⟨qb, 0, none⟩), mv m] w fun e w' => e = .returned (.int .i64 (if hasK s m.1 = true then 3 else if room ≤ s.length then 2 else 0)) ∧ ∃ F2, IsQ w' F2 qb room (if hasK s m.1 = true then s else if room ≤ s.length then s else ins s m) ∧ Step F F2 w w' := by
  have mixed : Try.prog.follows .mixedOrders = true := by kernel_rfl
  have h00 := h
  obtain ⟨pb, mb, v, d, c0, c1, hp, ho, hpm, hs, hq, hr, hl, rfl⟩ := h
  obtain ⟨W0, hW0⟩ : ∃ W0, W0 = w.alloc (.cells #[.int .i64 m.1.1, .int .i64 m.1.2.1, .int .i64 m.1.2.2, .int .i64 m.2.1, .int .i64 m.2.2.1, .int .i64 m.2.2.2] 36) := ⟨_, rfl⟩
  have hb0 : Below w.heap.size w W0 := by rw [hW0]; exact (Below.refl _ _).alloc (Nat.le_refl _) _
  have hp0 := hp.below hb0
  have c0' := (hb0.cell (p := ⟨qb, 0, none⟩) (cell_lt c0)).trans c0
  have c1' := (hb0.cell (p := ⟨qb, 1, none⟩) (cell_lt c1)).trans c1
  have p1' := hp0.c1
  have xc : ∀ j, j < 6 → W0.cell? ⟨w.heap.size, j, none⟩ = (enc m)[j]? := fun j hj => by
    rw [hW0]
    simp only [World.cell?, heap_alloc_new]
    simp [enc]
  obtain ⟨c, look, _⟩ := hp0.map.look hm.1
  have hdec : decide (m.1 ∈ d.map Prod.fst) = hasK s m.1 := by
    have := hasK_perm hpm m.1
    cases e : hasK s m.1
    · rw [decide_eq_false_iff_not, this, e]; simp
    · rw [decide_eq_true_iff, this, e]
  rw [hdec] at look
  have x0 : W0.cell? ⟨w.heap.size, 0, none⟩ = some (.int .i64 m.1.1) := xc 0 (by omega)
  have x1 : W0.cell? ⟨w.heap.size, 1, none⟩ = some (.int .i64 m.1.2.1) := xc 1 (by omega)
  have x2 : W0.cell? ⟨w.heap.size, 2, none⟩ = some (.int .i64 m.1.2.2) := xc 2 (by omega)
  have x3 : W0.cell? ⟨w.heap.size, 3, none⟩ = some (.int .i64 m.2.1) := xc 3 (by omega)
  have x4 : W0.cell? ⟨w.heap.size, 4, none⟩ = some (.int .i64 m.2.2.1) := xc 4 (by omega)
  have x5 : W0.cell? ⟨w.heap.size, 5, none⟩ = some (.int .i64 m.2.2.2) := xc 5 (by omega)
  have HW : Hid (W0 = w.alloc (.cells #[.int .i64 m.1.1, .int .i64 m.1.2.1, .int .i64 m.1.2.2, .int .i64 m.2.1, .int .i64 m.2.2.1, .int .i64 m.2.2.2] 36)) := hW0
  clear hW0 hdec xc
  cases hk : hasK s m.1
  · -- it is new
    rw [hk] at look
    simp only [Bool.false_eq_true, if_false]
    by_cases hfull : room ≤ s.length
    · simp only [hfull, if_true]
      have R : ∀ n, IsQ (W0.drewN n) (fun k => k = qb ∨ FP pb mb v k) qb room s ∧ Step (fun k => k = qb ∨ FP pb mb v k) (fun k => k = qb ∨ FP pb mb v k) w (W0.drewN n) := fun n => ⟨h00.below ⟨hb0.os, hb0.tape, hb0.output, hb0.size, hb0.block⟩, Fr.of_below ⟨hb0.os, hb0.tape, hb0.output, hb0.size, hb0.block⟩, fun k hk => .inl hk⟩
      have L : ∀ W : World, Below w.heap.size w W → ∀ n, Calls Try.prog 41 #[.pointer (some ⟨qb, 0, none⟩)] (W.drewN n) fun e w' => e = .returned (.int .i64 s.length) ∧ w' = W.drewN n := fun W hW n => qlen_any (h00.below ⟨hW.os, hW.tape, hW.output, hW.size, hW.block⟩)
      have RA : Aside (∀ W : World, Below w.heap.size w W → IsQ W (fun k => k = qb ∨ FP pb mb v k) qb room s ∧ Step (fun k => k = qb ∨ FP pb mb v k) (fun k => k = qb ∨ FP pb mb v k) w W) := fun W hW => ⟨h00.below hW, Fr.of_below hW, fun k hk => .inl hk⟩
      have hf : (room : Int) ≤ (s.length : Int) := by omega
      clear R h00 hp hp0 ho hpm hs x3 x4 x5 hk
      go_enter Try.func40, Try.ntmps40
      go_wp2_with fail
      rw [← HW.out]
      go_quiet (fail)
      go_wp2_with fail
      generalize hwq : World.drewN _ _ = wq
      have hbq : Below w.heap.size w wq := by rw [← hwq]; exact ⟨hb0.os, hb0.tape, hb0.output, hb0.size, hb0.block⟩
      have q0 : wq.cell? ⟨qb, 0, none⟩ = some (.int .i64 room) := by rw [← hwq]; exact c0'
      have LL := L wq hbq
      clear L hwq
      go_quiet ((go_at_call 41; exact Calls.quiet_of_same (LL _)))
      go_wp2_with fail
      go_ret
      exact ⟨rfl, _, RA.out _ ⟨hbq.os, hbq.tape, hbq.output, hbq.size, hbq.block⟩⟩
    · simp only [hfull, if_false]
      have R : ∀ n, IsQ (W0.drewN n) (fun k => k = qb ∨ FP pb mb v k) qb room s := fun n => h00.below ⟨hb0.os, hb0.tape, hb0.output, hb0.size, hb0.block⟩
      have L : ∀ W : World, Below w.heap.size w W → ∀ n, Calls Try.prog 41 #[.pointer (some ⟨qb, 0, none⟩)] (W.drewN n) fun e w' => e = .returned (.int .i64 s.length) ∧ w' = W.drewN n := fun W hW n => qlen_any (h00.below ⟨hW.os, hW.tape, hW.output, hW.size, hW.block⟩)
      have hf : ¬ (room : Int) ≤ (s.length : Int) := by omega
      have hnew : m.1 ∉ d.map Prod.fst := fun e => by rw [(hasK_perm hpm m.1).1 e] at hk; cases hk
      have hsI := hs.ins (fun e => by rw [(hasK_iff s m.1).2 e] at hk; cases hk)
      have hlen : d.length < 64 := by rw [hpm.length_eq]; omega
      have H : ∀ W : World, Below w.heap.size w W → Calls Try.prog 61 #[.iface 93 (.pointer (some ⟨pb, 0, none⟩)), .iface 36 (mv m)] W fun e w' => e = .returned (.tuple #[]) ∧ ∃ F2, IsQ w' F2 qb room (ins s m) ∧ Step (fun k => k = qb ∨ FP pb mb v k) F2 w w' := fun W hW => by
        refine (hpush_any (hp.below hW) ho m hm hnew hlen).mono ?_
        rintro e w2 ⟨rfl, v', d', ha, hpd⟩
        obtain ⟨R1, R2⟩ := IsQ.after hW ((hW.cell (p := ⟨qb, 0, none⟩) (cell_lt c0)).trans c0) ((hW.cell (p := ⟨qb, 1, none⟩) (cell_lt c1)).trans c1) (cell_lt c0) hq ha ((hpd.trans (hpm.append_right [m])).trans (ins_perm s m).symm) hsI hr (by rw [ins_len]; omega)
        exact ⟨rfl, _, R1, R2⟩
      have hbN : ∀ n, Below w.heap.size w (W0.drewN n) := fun n => ⟨hb0.os, hb0.tape, hb0.output, hb0.size, hb0.block⟩
      have HA : Aside _ := H
      clear H R h00 hp hp0 ho hpm hs hk hnew hsI
      obtain ⟨⟨a1, a2, a3⟩, a4, a5, a6⟩ := m
      dsimp only at x0 x1 x2 x3 x4 x5
      go_enter Try.func40, Try.ntmps40
      go_wp2_with fail
      rw [← HW.out]
      go_quiet (fail)
      go_wp2_with fail
      generalize hwp : World.drewN _ _ = wp
      have hbp : Below w.heap.size w wp := by rw [← hwp]; exact ⟨hb0.os, hb0.tape, hb0.output, hb0.size, hb0.block⟩
      have p0 : wp.cell? ⟨qb, 0, none⟩ = some (.int .i64 room) := by rw [← hwp]; exact c0'
      have LL := L wp hbp
      clear L
      go_quiet ((go_at_call 41; exact Calls.quiet_of_same (LL _)))
      go_wp2_with fail
      subst hwp
      generalize hwq : World.drewN _ _ = wq
      have hbq : Below w.heap.size w wq := by rw [← hwq]; exact ⟨hb0.os, hb0.tape, hb0.output, hb0.size, hb0.block⟩
      have q1 : wq.cell? ⟨qb, 1, none⟩ = some (.pointer (some ⟨pb, 0, none⟩)) := by rw [← hwq]; exact c1'
      have y0 : wq.cell? ⟨w.heap.size, 0, none⟩ = some (.int .i64 a1) := by rw [← hwq]; exact x0
      have y1 : wq.cell? ⟨w.heap.size, 1, none⟩ = some (.int .i64 a2) := by rw [← hwq]; exact x1
      have y2 : wq.cell? ⟨w.heap.size, 2, none⟩ = some (.int .i64 a3) := by rw [← hwq]; exact x2
      have y3 : wq.cell? ⟨w.heap.size, 3, none⟩ = some (.int .i64 a4) := by rw [← hwq]; exact x3
      have y4 : wq.cell? ⟨w.heap.size, 4, none⟩ = some (.int .i64 a5) := by rw [← hwq]; exact x4
      have y5 : wq.cell? ⟨w.heap.size, 5, none⟩ = some (.int .i64 a6) := by rw [← hwq]; exact x5
      have HH := HA.out wq.drew hbq.drew
      clear hwq x0 x1 x2 x3 x4 x5 LL look c0' c1' p1' p0
      go_region_with (go_at_call 61; refine HH.mono ?_; rintro e w' ⟨rfl, hR⟩)
      all_goals (go_wp2_with fail; go_ret; exact ⟨rfl, hR⟩)
  · rw [hk] at look
    simp only [if_true]
    have R : ∀ n, IsQ (W0.drewN n) (fun k => k = qb ∨ FP pb mb v k) qb room s ∧ Step (fun k => k = qb ∨ FP pb mb v k) (fun k => k = qb ∨ FP pb mb v k) w (W0.drewN n) := fun n => ⟨h00.below ⟨hb0.os, hb0.tape, hb0.output, hb0.size, hb0.block⟩, Fr.of_below ⟨hb0.os, hb0.tape, hb0.output, hb0.size, hb0.block⟩, fun k hk => .inl hk⟩
    have RA : Aside _ := R
    clear R h00 hp hp0 ho hpm hs x3 x4 x5 hk
    go_enter Try.func40, Try.ntmps40
    go_wp2_with fail
    rw [← HW.out]
    go_quiet (fail)
    go_wp2_with fail
    go_ret
    exact ⟨rfl, _, RA.out _⟩

end Go.Proofs.Ytkodjioofkdepaa.Q
