/- Proved: contracts of a calendar's First and Remove. -/
import Derived.Test.YtjkcdkoomipfkaaCal5
namespace Go.Proofs.Ytjkcdkoomipfkaa
open Go.RowKit Go.Sort Go.Lib
set_option linter.unusedVariables false

set_option maxRecDepth 100000 in
set_option maxHeartbeats 1000000 in
theorem cfirst_any {w : World} {qb room day : Nat} {vs : Nat → Value} {s : List M} (h : IsC w qb room day vs s) :
    Calls Try.prog 13 #[.pointer (some ⟨qb, 0, none⟩)] w fun e w' => e = .returned (.tuple #[mv (s.headD zeroM), .bool (!s.isEmpty)]) ∧ Below w.heap.size w w' := by
  have hlt := h.lt
  obtain ⟨w1, hw1⟩ : ∃ w1, w1 = w.alloc (.cells #[.int .i64 0, .int .i64 0, .int .i64 0, .int .i64 0, .int .i64 0, .int .i64 0] 32) := ⟨_, rfl⟩
  have b1 : Below w.heap.size w w1 := by rw [hw1]; exact (Below.refl _ w).alloc (Nat.le_refl _) _
  have n0 : BoxM w1 w.heap.size zeroM := by rw [hw1]; exact BoxM.made w zeroM
  have s1 : w1.heap.size = w.heap.size + 1 := by rw [hw1]; simp
  have FP := firstPage_any (h.below b1)
  have HW : Hid _ := hw1
  clear hw1
  go_enter Try.func13, Try.ntmps13
  go_wp2_with fail
  rw [← HW.out]
  refine FP.mono ?_
  rintro e w2 ⟨f, rfl, hB, b2⟩
  have h2 := (h.below b1).below b2
  have m0 := n0.below b2
  have b12 : Below w.heap.size w w2 := b1.trans (b2.mono b1.size)
  have l2 := b2.size
  have E := fun a1 a2 a3 a4 a5 a6 => b12.trans ((fr6 w2 w.heap.size a1 a2 a3 a4 a5 a6).below b12.size (fun i e => by omega))
  have HE : Aside _ := E
  obtain ⟨z0, z1, z2, z3, z4, z5⟩ := m0.cells
  have zz := m0.2
  dsimp only [zeroM] at z0 z1 z2 z3 z4 z5
  rcases best_end h.srt hB with ⟨rfl, rfl⟩ | ⟨x, r, rfl, rfl⟩
  · clear E h h2 m0 n0 FP b1 b2 b12 hB
    go_wp2_with fail
    refine bodyPost_ret (v := .tuple #[mv zeroM, .bool false]) (by simp [results, Try.results13, go_sem, z0, z1, z2, z3, z4, z5]) rfl ⟨rfl, HE.out _ _ _ _ _ _⟩
  · obtain ⟨p, hp⟩ : ∃ p, pgN day x.1.1 = p := ⟨_, rfl⟩
    have hp8 : p < 8 := by rw [← hp]; exact pgN_lt _ _
    have hl : 0 < (pg day p (x :: r)).length := by rw [← hp, pg_first]; simp
    have hx : nth (pg day p (x :: r)) 0 = x := by rw [← hp, pg_first]; rfl
    have cp := h2.cp p hp8
    have op := h2.own p hp8
    obtain ⟨g, cap, hv, hg⟩ := own_nonempty op hl
    rw [hv] at cp op
    obtain ⟨x0, x1, x2, x3, x4, x5⟩ := own_cell op hl (x := x) (by rw [← nth_get]; exact hx)
    simp only [Nat.zero_mul, Nat.zero_add] at x0 x1 x2 x3 x4 x5
    rw [hp]
    have hp0 : ¬ ((p : Int) = -1) := by omega
    have hp1 : ((p : Int) == -1) = false := by simp
    have hp2 : (p : Int) < 8 := by omega
    have hl2 : (0 : Int) < ((pg day p (x :: r)).length : Int) := by omega
    have hgB : g ≠ w.heap.size := fun e => by have := hlt g (.inr ⟨p, hp8, by rw [hv, ]; rfl⟩); omega
    generalize (pg day p (x :: r)).length = n at cp hl hl2
    obtain ⟨⟨a1, a2, a3⟩, a4, a5, a6⟩ := x
    dsimp only at x0 x1 x2 x3 x4 x5
    clear E h h2 m0 n0 FP b1 b2 b12 hB op hv hx hp
    go_wp2_with fail
    refine bodyPost_ret (v := .tuple #[mv ((a1, a2, a3), a4, a5, a6), .bool true]) (by simp [results, Try.results13, go_sem, z0, z1, z2, z3, z4, z5]) rfl ⟨rfl, HE.out _ _ _ _ _ _⟩

theorem hasK_vt {s : List M} {k : K} (h : ∀ m ∈ s, vt m.1.1 = true) (hk : vt k.1 = false) : hasK s k = false := by
  simp only [hasK, List.any_eq_false, decide_eq_true_eq]
  intro x hx e
  have := h x hx
  rw [e, hk] at this
  cases this

set_option maxRecDepth 100000 in
set_option maxHeartbeats 1000000 in
theorem cremove_any {w : World} {qb room day : Nat} {vs : Nat → Value} {s : List M} (h : IsC w qb room day vs s) (k : K) :
    Calls Try.prog 17 #[.pointer (some ⟨qb, 0, none⟩), kv k] w fun e w' => e = .returned (.tuple #[mv (fnd s k), .bool (hasK s k)]) ∧ ∃ vs', IsC w' qb room day vs' (del s k) ∧ Step (FC qb vs) (FC qb vs') w w' := by
  have hlt := h.lt
  obtain ⟨w1, hw1⟩ : ∃ w1, w1 = (w.alloc (.cells #[.int .i64 k.1, .int .i64 k.2.1, .int .i64 k.2.2] 30)).alloc (.cells #[.int .i64 0, .int .i64 0, .int .i64 0, .int .i64 0, .int .i64 0, .int .i64 0] 32) := ⟨_, rfl⟩
  have b1 : Below w.heap.size w w1 := by rw [hw1]; exact ((Below.refl _ w).alloc (Nat.le_refl _) _).alloc (by simp) _
  have n0 : BoxM w1 (w.heap.size + 1) zeroM := by
    rw [hw1]
    have := BoxM.made (w.alloc (.cells #[.int .i64 k.1, .int .i64 k.2.1, .int .i64 k.2.2] 30)) zeroM
    rw [World.size_alloc] at this
    exact this
  have s1 : w1.heap.size = w.heap.size + 2 := by rw [hw1]; simp
  have c0 : w1.cell? ⟨w.heap.size, 0, none⟩ = some (.int .i64 k.1) := by rw [hw1]; go_simp
  have c1 : w1.cell? ⟨w.heap.size, 1, none⟩ = some (.int .i64 k.2.1) := by rw [hw1]; go_simp
  have c2 : w1.cell? ⟨w.heap.size, 2, none⟩ = some (.int .i64 k.2.2) := by rw [hw1]; go_simp
  have V := valid_any k.1 w1
  have HW : Hid _ := hw1
  have h1 := h.below b1
  obtain ⟨z0, z1, z2, z3, z4, z5⟩ := n0.cells
  have zz := n0.2
  dsimp only [zeroM] at z0 z1 z2 z3 z4 z5
  have hkk : k = (k.1, k.2.1, k.2.2) := rfl
  cases hv : vt k.1
  · rw [hv] at V
    have hh := hasK_vt h.wf hv
    rw [hh, fnd_none hh, del_none hh]
    have E := IsC.six_end b1 (Nat.le_succ _) (by omega) hlt h1 ⟨Fr.refl _ _, fun k hk => .inl hk⟩
    have HE : Aside _ := E
    clear hw1 E h h1 n0 b1 hv hh hkk
    obtain ⟨k1, k2, k3⟩ := k
    go_enter Try.func17, Try.ntmps17
    go_wp2_with fail
    rw [← HW.out]
    refine V.mono ?_
    rintro e w2 ⟨rfl, rfl⟩
    go_wp2_with fail
    refine bodyPost_ret (v := .tuple #[mv zeroM, .bool false]) (by simp [results, Try.results17, go_sem, z0, z1, z2, z3, z4, z5]) rfl ⟨rfl, _, HE.out _ _ _ _ _ _⟩
  · rw [hv] at V
    have FI := cfind_any h1 k hv
    obtain ⟨p, hp⟩ : ∃ p, pgN day k.1 = p := ⟨_, rfl⟩
    obtain ⟨i, hi⟩ : ∃ i, pos (pg day p s) k = i := ⟨_, rfl⟩
    rw [hp, hi] at FI
    cases hh : hasK s k
    · rw [hh] at FI
      rw [fnd_none hh, del_none hh]
      clear hw1 hv hh hp hi
      obtain ⟨k1, k2, k3⟩ := k
      dsimp only [kv] at FI
      go_enter Try.func17, Try.ntmps17
      go_wp2_with fail
      rw [← HW.out]
      refine V.mono ?_
      rintro e w2 ⟨rfl, rfl⟩
      go_wp2_with fail
      refine FI.mono ?_
      rintro e w3 ⟨rfl, b3⟩
      have E := IsC.six_end (b1.trans (b3.mono b1.size)) (Nat.le_succ _) (by have := b3.size; omega) hlt (h1.below b3) ⟨Fr.refl _ _, fun k hk => .inl hk⟩
      have HE : Aside _ := E
      have m3 := n0.below b3
      clear z0 z1 z2 z3 z4 z5 zz
      obtain ⟨z0, z1, z2, z3, z4, z5⟩ := m3.cells
      have zz := m3.2
      dsimp only [zeroM] at z0 z1 z2 z3 z4 z5
      clear E m3 b3 FI V h h1 n0 c0 c1 c2 b1
      go_wp2_with fail
      refine bodyPost_ret (v := .tuple #[mv zeroM, .bool false]) (by simp [results, Try.results17, go_sem, z0, z1, z2, z3, z4, z5]) rfl ⟨rfl, _, HE.out _ _ _ _ _ _⟩
    · rw [hh] at FI
      have hp8 : p < 8 := by rw [← hp]; exact pgN_lt _ _
      have hhp : hasK (pg day p s) k = true := by rw [← hp, hasK_pg]; exact hh
      have ps := h.srt.pg day p
      have hil : i < (pg day p s).length := by rw [← hi]; exact ((pos_has ps k).2 hhp).1
      obtain ⟨d1, d2⟩ := pos_del ps k hhp
      rw [hi] at d1 d2
      have hfn : fnd (pg day p s) k = fnd s k := by rw [← hp]; exact fnd_pg s day k
      have T := fun (W : World) (hW : IsC W qb room day vs s) => take_any hW hp8 hil (del s k) (by rw [pg_del, d1]) (fun j hj e => by rw [pg_del]; exact pg_del_other (by rw [hp]; exact Ne.symm e)) (h.srt.del k) (fun m hm => (List.mem_filter.1 hm).1) (List.length_filter_le _ _)
      rw [d2, hfn] at T
      obtain ⟨y, hy⟩ : ∃ y, fnd s k = y := ⟨_, rfl⟩
      rw [hy] at T ⊢
      have HT : Aside _ := T
      clear hw1 hv hh hp hi T d1 d2 hfn hy hhp hil
      obtain ⟨k1, k2, k3⟩ := k
      dsimp only [kv] at FI
      obtain ⟨⟨a1, a2, a3⟩, a4, a5, a6⟩ := y
      go_enter Try.func17, Try.ntmps17
      go_wp2_with fail
      rw [← HW.out]
      refine V.mono ?_
      rintro e w2 ⟨rfl, rfl⟩
      go_wp2_with fail
      refine FI.mono ?_
      rintro e w3 ⟨rfl, b3⟩
      have TT := HT.out w3 (h1.below b3)
      dsimp only [mv] at TT
      go_wp2_with fail
      refine TT.mono ?_
      rintro e w4 ⟨rfl, vs', i4, s4⟩
      have E := IsC.six_end (b1.trans (b3.mono b1.size)) (Nat.le_succ _) (by have := b3.size; omega) hlt i4 s4
      have HE : Aside _ := E
      have m4 := (n0.below b3).keep s4.1 (fun g => by have := hlt _ g; omega)
      clear z0 z1 z2 z3 z4 z5 zz
      obtain ⟨z0, z1, z2, z3, z4, z5⟩ := m4.cells
      have zz := m4.2
      dsimp only [zeroM] at z0 z1 z2 z3 z4 z5
      clear E m4 b3 FI V h h1 n0 c0 c1 c2 b1 i4 s4 TT HT
      go_wp2_with fail
      refine bodyPost_ret (v := .tuple #[mv ((a1, a2, a3), a4, a5, a6), .bool true]) (by simp [results, Try.results17, go_sem, z0, z1, z2, z3, z4, z5]) rfl ⟨rfl, _, HE.out _ _ _ _ _ _⟩
end Go.Proofs.Ytjkcdkoomipfkaa
