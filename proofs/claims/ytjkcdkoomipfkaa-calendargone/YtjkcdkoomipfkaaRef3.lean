/- Proved: contracts of the document's queue: New, Len, First, Push. -/
import Derived.Test.YtjkcdkoomipfkaaRef2
namespace Go.Proofs.Ytjkcdkoomipfkaa
open Go.RowKit Go.Sort
set_option linter.unusedVariables false

/-- The document's queue at block rb. -/
def IsR (w : World) (G : Nat → Prop) (rb room : Nat) (s : List M) : Prop :=
  ∃ v, w.cell? ⟨rb, 0, none⟩ = some (.int .i64 room) ∧ w.cell? ⟨rb, 1, none⟩ = some v ∧ w.frozen? ⟨rb, 1, none⟩ = false ∧ Own w v s ∧ Srt s ∧ v.ownBlock ≠ some rb ∧ room ≤ 64 ∧ s.length ≤ room ∧ G = fun k => k = rb ∨ v.ownBlock = some k
theorem IsR.lt {w : World} {G : Nat → Prop} {rb room : Nat} {s : List M} (h : IsR w G rb room s) : ∀ k, G k → k < w.heap.size := by
  obtain ⟨v, c0, c1, f1, ho, hs, hn, hr, hl, rfl⟩ := h
  rintro k (rfl | hk)
  · exact cell_lt c0
  · exact ho.lt hk
theorem IsR.keep {S G : Nat → Prop} {w w' : World} {rb room : Nat} {s : List M} (h : IsR w G rb room s) (hf : Fr S w w') (hd : ∀ k, G k → ¬ S k) : IsR w' G rb room s := by
  obtain ⟨v, c0, c1, f1, ho, hs, hn, hr, hl, rfl⟩ := h
  exact ⟨v, (hf.cell (p := ⟨rb, 0, none⟩) (cell_lt c0) (hd rb (.inl rfl))).trans c0, (hf.cell (p := ⟨rb, 1, none⟩) (cell_lt c1) (hd rb (.inl rfl))).trans c1, (hf.frozen (p := ⟨rb, 1, none⟩) (cell_lt c1) (hd rb (.inl rfl))).trans f1, ho.keep hf (fun k hk => hd k (.inr hk)), hs, hn, hr, hl, rfl⟩
theorem IsR.below {G : Nat → Prop} {w w' : World} {rb room : Nat} {s : List M} (h : IsR w G rb room s) (hb : Below w.heap.size w w') : IsR w' G rb room s :=
  h.keep (Fr.of_below (S := fun _ => False) hb) (fun _ _ g => g)
/-- Another slice is put into the queue. -/
theorem IsR.put {w0 w : World} {rb room : Nat} {v v' : Value} {s' : List M} (hb : Below w0.heap.size w0 w) (hrb : rb < w0.heap.size) (c0 : w.cell? ⟨rb, 0, none⟩ = some (.int .i64 room)) (c1 : w.cell? ⟨rb, 1, none⟩ = some v) (f1 : w.frozen? ⟨rb, 1, none⟩ = false)
    (ho : Own w v' s') (hblk : ∀ k, v'.ownBlock = some k → w0.heap.size ≤ k) (hs : Srt s') (hr : room ≤ 64) (hl : s'.length ≤ room) :
    IsR (w.setCell ⟨rb, 1, none⟩ v') (fun k => k = rb ∨ v'.ownBlock = some k) rb room s' ∧ Step (fun k => k = rb ∨ v.ownBlock = some k) (fun k => k = rb ∨ v'.ownBlock = some k) w0 (w.setCell ⟨rb, 1, none⟩ v') := by
  have f3 : Fr (fun k => k = rb) w (w.setCell ⟨rb, 1, none⟩ v') := (Fr.refl _ _).setCell _ _ (.inl rfl)
  refine ⟨⟨v', ?_, World.cell?_setCell_same _ _ _ c1, ?_, ho.keep f3 (fun k hk e => by have := hblk k hk; omega), hs, fun e => by have := hblk _ e; omega, hr, hl, rfl⟩, ?_, ?_⟩
  · rw [World.cell?_setCell_other _ _ _ _ (by simp)]; exact c0
  · rw [World.frozen?_setCell]; exact f1
  · exact (Fr.of_below hb).trans (f3.wide (fun k hk => .inl hk)) (fun _ _ g => g)
  · rintro k (rfl | hk)
    · exact .inl (.inl rfl)
    · exact .inr (hblk k hk)

set_option maxHeartbeats 400000 in
theorem rnew_any (r : Int) (w : World) (hr : i64 r) :
    Calls Try.prog 33 #[.int .i64 r] w fun e w' => ∃ rb G, e = .returned (.pointer (some ⟨rb, 0, none⟩)) ∧ IsR w' G rb (clampR r) [] ∧ (∀ k, G k → w.heap.size ≤ k) ∧ Below w.heap.size w w' := by
  have hc : (clampR r : Int) = max 0 (min r 64) := by unfold clampR; omega
  have hcl := clampR_le r
  unfold i64 at hr
  go_enter Try.func33, Try.ntmps33
  go_wp2
  go_ret
  refine ⟨w.heap.size, _, rfl, ⟨.slice none 0 0, ?_, ?_, ?_, World.ownsRow_nil _ _ _ _, List.Pairwise.nil, by simp [Value.ownBlock], hcl, by simp, rfl⟩, ?_, ?_⟩
  · rw [hc, World.cell?_alloc_new]; rfl
  · rw [World.cell?_alloc_new]; rfl
  · unfold World.frozen?
    rw [heap_alloc_new]
    simp
  · rintro k (rfl | g)
    · omega
    · simp [Value.ownBlock] at g
  · exact (Below.refl _ w).alloc (Nat.le_refl _) _

set_option maxHeartbeats 400000 in
theorem rlen_any {w : World} {G : Nat → Prop} {rb room : Nat} {s : List M} (h : IsR w G rb room s) :
    Calls Try.prog 24 #[.pointer (some ⟨rb, 0, none⟩)] w fun e w' => e = .returned (.int .i64 s.length) ∧ w' = w := by
  obtain ⟨v, c0, c1, f1, ho, hs, hn, hr, hl, rfl⟩ := h
  obtain ⟨a, cap, rfl, _⟩ := ho.rd
  clear ho hs
  go_enter Try.func24, Try.ntmps24
  go_wp2
  go_ret
  exact ⟨rfl, rfl⟩

set_option maxHeartbeats 1000000 in
theorem rfirst_any {w : World} {G : Nat → Prop} {rb room : Nat} {s : List M} (h : IsR w G rb room s) :
    Calls Try.prog 14 #[.pointer (some ⟨rb, 0, none⟩)] w fun e w' => e = .returned (.tuple #[mv (s.headD zeroM), .bool (!s.isEmpty)]) ∧ Below w.heap.size w w' := by
  obtain ⟨v, c0, c1, f1, ho, hs, hn, hr, hl, rfl⟩ := h
  have hrb := cell_lt c1
  cases s with
  | nil =>
    obtain ⟨a, cap, rfl, _⟩ := ho.rd
    clear ho hs
    simp only [List.length_nil] at c1
    go_enter Try.func14, Try.ntmps14
    go_wp2
    exact bodyPost_ret (v := .tuple #[mv zeroM, .bool false]) (by simp [results, Try.results14, go_sem]) rfl ⟨rfl, (Below.refl _ _).alloc (Nat.le_refl _) _⟩
  | cons x r =>
    obtain ⟨g, cap, rfl, hg⟩ := own_nonempty ho (i := 0) (by simp)
    obtain ⟨x0, x1, x2, x3, x4, x5⟩ := own_cell ho (i := 0) (x := x) (by simp) (by simp)
    have g0 : ¬ ((r.length : Int) + 1 = 0) := by omega
    have g1 : (((r.length : Int) + 1) == 0) = false := by simpa using g0
    have g2 : (0 : Int) < ((r.length + 1 : Nat) : Int) := by omega
    simp only [Nat.zero_mul, Nat.zero_add] at x0 x1 x2 x3 x4 x5
    simp only [List.length_cons] at c1 hl
    clear ho hs
    obtain ⟨⟨a1, a2, a3⟩, a4, a5, a6⟩ := x
    dsimp only at x0 x1 x2 x3 x4 x5
    go_enter Try.func14, Try.ntmps14
    go_wp2
    exact bodyPost_ret (v := .tuple #[mv ((a1, a2, a3), a4, a5, a6), .bool true]) (by simp [results, Try.results14, go_sem]) rfl ⟨rfl, (Below.refl _ _).alloc (Nat.le_refl _) _⟩

set_option maxRecDepth 100000 in
set_option maxHeartbeats 1000000 in
theorem rpush_any {w : World} {G : Nat → Prop} {rb room : Nat} {s : List M} (h : IsR w G rb room s) (m : M) :
    Calls Try.prog 38 #[.pointer (some ⟨rb, 0, none⟩), mv m] w fun e w' => e = .returned (.int .i64 (if hasK s m.1 = true then 3 else if room ≤ s.length then 2 else 0)) ∧ ∃ G2, IsR w' G2 rb room (if hasK s m.1 = true then s else if room ≤ s.length then s else ins s m) ∧ Step G G2 w w' := by
  have mixed : Try.prog.follows .mixedOrders = true := by kernel_rfl
  have h00 := h
  obtain ⟨v, c0, c1, f1, ho, hs, hn, hr, hl, rfl⟩ := h
  have hrb := cell_lt c1
  obtain ⟨W0, hW0⟩ : ∃ W0, W0 = w.alloc (.cells #[.int .i64 m.1.1, .int .i64 m.1.2.1, .int .i64 m.1.2.2, .int .i64 m.2.1, .int .i64 m.2.2.1, .int .i64 m.2.2.2] 32) := ⟨_, rfl⟩
  have hb0 : Below w.heap.size w W0 := by rw [hW0]; exact (Below.refl _ _).alloc (Nat.le_refl _) _
  have s0 : W0.heap.size = w.heap.size + 1 := by rw [hW0]; simp
  have xc : ∀ j, j < 6 → W0.cell? ⟨w.heap.size, j, none⟩ = (enc m)[j]? := fun j hj => by
    rw [hW0]
    simp only [World.cell?, heap_alloc_new]
    simp [enc]
  have x0 : W0.cell? ⟨w.heap.size, 0, none⟩ = some (.int .i64 m.1.1) := xc 0 (by omega)
  have x1 : W0.cell? ⟨w.heap.size, 1, none⟩ = some (.int .i64 m.1.2.1) := xc 1 (by omega)
  have x2 : W0.cell? ⟨w.heap.size, 2, none⟩ = some (.int .i64 m.1.2.2) := xc 2 (by omega)
  have ho0 : Own W0 v s := ho.keep (S := fun _ => False) (Fr.of_below hb0) (fun _ _ g => g)
  have FI := find_any ((hb0.cell (p := ⟨rb, 1, none⟩) hrb).trans c1) ho0 (by omega) m.1.1 m.1.2.1 m.1.2.2
  have HW : Hid _ := hW0
  have CF : ∀ W : World, Below w.heap.size w W → W.cell? ⟨rb, 0, none⟩ = some (.int .i64 room) ∧ W.cell? ⟨rb, 1, none⟩ = some v ∧ W.frozen? ⟨rb, 1, none⟩ = false ∧ Own W v s := fun W hW =>
    ⟨(hW.cell (p := ⟨rb, 0, none⟩) hrb).trans c0, (hW.cell (p := ⟨rb, 1, none⟩) hrb).trans c1, (hW.frozen (p := ⟨rb, 1, none⟩) hrb).trans f1, ho.keep (S := fun _ => False) (Fr.of_below hW) (fun _ _ g => g)⟩
  have MF : ∀ W : World, Below W0.heap.size W0 W → ∀ j, j < 6 → W.cell? ⟨w.heap.size, j, none⟩ = (enc m)[j]? := fun W hW j hj => (hW.cell (p := ⟨w.heap.size, j, none⟩) (by rw [s0]; exact Nat.lt_succ_self _)).trans (xc j hj)
  clear hW0 xc
  cases hk : hasK s m.1
  · have hsI := hs.ins (fun e => by rw [(hasK_iff s m.1).2 e] at hk; cases hk)
    have hk' : hasK s (m.1.1, m.1.2.1, m.1.2.2) = false := hk
    simp only [Bool.false_eq_true, if_false]
    by_cases hfull : room ≤ s.length
    · simp only [hfull, if_true]
      have hf : (room : Int) ≤ (s.length : Int) := by omega
      have RA : Aside (∀ W : World, Below w.heap.size w W → IsR W (fun k => k = rb ∨ v.ownBlock = some k) rb room s ∧ Step (fun k => k = rb ∨ v.ownBlock = some k) (fun k => k = rb ∨ v.ownBlock = some k) w W) := fun W hW => ⟨h00.below hW, Fr.of_below hW, fun k hk => .inl hk⟩
      obtain ⟨a, cap, rfl, _⟩ := ho.rd
      clear h00 ho ho0 hs hsI hk
      go_enter Try.func38, Try.ntmps38
      go_wp2_with fail
      rw [← HW.out]
      go_wp2_with fail
      refine FI.mono ?_
      rintro e w1 ⟨r, rfl, _, hr1, hb1⟩
      have hr1' := hr1 hk'
      subst hr1'
      have hb1' : Below w.heap.size w w1 := hb0.trans (hb1.mono (by omega))
      obtain ⟨d0, d1, d2, _⟩ := CF w1 hb1'
      clear hr1 hk' FI
      go_wp2_with fail
      go_quiet (fail)
      go_wp2_with fail
      go_ret
      exact ⟨rfl, _, RA.out _ (below_drewN hb1' _)⟩
    · simp only [hfull, if_false]
      have hf : ¬ (room : Int) ≤ (s.length : Int) := by omega
      have IA : Aside (∀ W : World, Below w.heap.size w W → Calls Try.prog 60 #[v, mv m] W fun e w' => ∃ a' cap', e = .returned (.slice a' (s.length + 1) cap') ∧ (w'.cell? ⟨rb, 1, none⟩ = some v ∧ w'.frozen? ⟨rb, 1, none⟩ = false) ∧ (∃ G2, IsR (w'.setCell ⟨rb, 1, none⟩ (.slice a' (s.length + 1) cap')) G2 rb room (ins s m) ∧ Step (fun k => k = rb ∨ v.ownBlock = some k) G2 w (w'.setCell ⟨rb, 1, none⟩ (.slice a' (s.length + 1) cap')))) := fun W hW => by
        refine (insert_any (CF W hW).2.2.2 (by omega) m).mono ?_
        rintro e w' ⟨v', rfl, ho', hblk', hb'⟩
        obtain ⟨a', cap', rfl, _⟩ := ho'.rd
        rw [ins_len] at ho' hblk' ⊢
        have hbb : Below w.heap.size w w' := hW.trans (hb'.mono hW.size)
        obtain ⟨d0, d1, d2, _⟩ := CF w' hbb
        refine ⟨a', cap', rfl, ⟨d1, d2⟩, _, IsR.put hbb hrb d0 d1 d2 ho' (fun k hk => Nat.le_trans hW.size (hblk' k hk)) hsI hr (by rw [ins_len]; omega)⟩
      obtain ⟨a, cap, rfl, _⟩ := ho.rd
      clear h00 ho ho0 hs hsI hk
      obtain ⟨⟨a1, a2, a3⟩, a4, a5, a6⟩ := m
      dsimp only at x0 x1 x2 FI hk'
      dsimp only [mv] at IA
      go_enter Try.func38, Try.ntmps38
      go_wp2_with fail
      rw [← HW.out]
      go_wp2_with fail
      refine FI.mono ?_
      rintro e w1 ⟨r, rfl, _, hr1, hb1⟩
      have hr1' := hr1 hk'
      subst hr1'
      have hb1' : Below w.heap.size w w1 := hb0.trans (hb1.mono (by omega))
      obtain ⟨d0, d1, d2, _⟩ := CF w1 hb1'
      clear hr1 hk' FI
      go_wp2_with fail
      go_quiet (fail)
      go_wp2_with fail
      generalize hwq : World.drewN _ _ = wq
      have hbq : Below w.heap.size w wq := by rw [← hwq]; exact below_drewN hb1' _
      have hbq0 : Below W0.heap.size W0 wq := by rw [← hwq]; exact below_drewN hb1 _
      obtain ⟨e0, e1, e2, _⟩ := CF wq hbq
      have y := MF wq hbq0
      have y0 : wq.cell? ⟨w.heap.size, 0, none⟩ = some (.int .i64 a1) := y 0 (by omega)
      have y1 : wq.cell? ⟨w.heap.size, 1, none⟩ = some (.int .i64 a2) := y 1 (by omega)
      have y2 : wq.cell? ⟨w.heap.size, 2, none⟩ = some (.int .i64 a3) := y 2 (by omega)
      have y3 : wq.cell? ⟨w.heap.size, 3, none⟩ = some (.int .i64 a4) := y 3 (by omega)
      have y4 : wq.cell? ⟨w.heap.size, 4, none⟩ = some (.int .i64 a5) := y 4 (by omega)
      have y5 : wq.cell? ⟨w.heap.size, 5, none⟩ = some (.int .i64 a6) := y 5 (by omega)
      have HH := IA.out wq.drew hbq.drew
      clear hwq x0 x1 x2 y d0 d1 d2 CF MF
      go_region_with (go_at_call 60; refine HH.mono ?_; rintro e w' ⟨a', cap', rfl, ⟨f1, f2⟩, hR⟩)
      all_goals (go_wp2_with fail; go_ret; exact ⟨rfl, hR⟩)
  · simp only [if_true]
    have RA : Aside (∀ W : World, Below w.heap.size w W → IsR W (fun k => k = rb ∨ v.ownBlock = some k) rb room s ∧ Step (fun k => k = rb ∨ v.ownBlock = some k) (fun k => k = rb ∨ v.ownBlock = some k) w W) := fun W hW => ⟨h00.below hW, Fr.of_below hW, fun k hk => .inl hk⟩
    have hk' : hasK s (m.1.1, m.1.2.1, m.1.2.2) = true := hk
    clear h00 ho ho0 hs hk
    go_enter Try.func38, Try.ntmps38
    go_wp2_with fail
    rw [← HW.out]
    go_wp2_with fail
    refine FI.mono ?_
    rintro e w1 ⟨r, rfl, hr1, _, hb1⟩
    obtain ⟨i, _, hr1', _⟩ := hr1 hk'
    subst hr1'
    clear hr1 hk' FI
    have hb1' : Below w.heap.size w w1 := hb0.trans (hb1.mono (by omega))
    go_wp2_with fail
    go_ret
    exact ⟨rfl, _, RA.out _ hb1'⟩
end Go.Proofs.Ytjkcdkoomipfkaa
