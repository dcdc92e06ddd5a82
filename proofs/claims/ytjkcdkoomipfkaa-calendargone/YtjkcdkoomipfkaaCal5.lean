/- Proved: contracts of a calendar's New, First, Pop and Remove. -/
import Derived.Test.YtjkcdkoomipfkaaCal4
namespace Go.Proofs.Ytjkcdkoomipfkaa
open Go.RowKit Go.Sort Go.Lib
set_option linter.unusedVariables false

def clampD (d : Int) : Nat := (min (max d 1) 1048576).toNat
theorem clampD_int (d : Int) : (clampD d : Int) = min (max d 1) 1048576 := by unfold clampD; omega
theorem clampD_le (d : Int) : 1 ≤ clampD d ∧ clampD d ≤ 1048576 := by unfold clampD; omega

set_option maxHeartbeats 1000000 in
theorem cnew_any (r d : Int) (w : World) (hr : i64 r) (hd : i64 d) :
    Calls Try.prog 8 #[.int .i64 r, .int .i64 d] w fun e w' => ∃ qb vs, e = .returned (.pointer (some ⟨qb, 0, none⟩)) ∧ IsC w' qb (clampR r) (clampD d) vs [] ∧ (∀ k, FC qb vs k → w.heap.size ≤ k) ∧ Below w.heap.size w w' := by
  have hc := clampR_int r
  have hc2 := clampD_int d
  have hcl := clampR_le r
  have hcd := clampD_le d
  unfold i64 at hr hd
  go_enter Try.func8, Try.ntmps8
  go_wp2
  go_ret
  refine ⟨w.heap.size, fun _ => .slice none 0 0, rfl, { c0 := ?_, c1 := ?_, cp := ?_, fz := ?_, own := ?_, dj := ?_, nq := ?_, srt := List.Pairwise.nil, wf := by simp, rm := hcl, len := Nat.zero_le _, d1 := hcd.1, d2 := hcd.2 }, ?_, (Below.refl _ _).alloc (Nat.le_refl _) _⟩
  · rw [hc, World.cell?_alloc_new]; rfl
  · rw [hc2, World.cell?_alloc_new]; rfl
  · intro i hi
    rw [World.cell?_alloc_new]
    match i, hi with
    | 0, _ => rfl
    | 1, _ => rfl
    | 2, _ => rfl
    | 3, _ => rfl
    | 4, _ => rfl
    | 5, _ => rfl
    | 6, _ => rfl
    | 7, _ => rfl
  · intro j
    unfold World.frozen?
    rw [heap_alloc_new]
    simp
  · exact fun i hi => World.ownsRow_nil _ _ _ _
  · intro i j g hi hj hij hg
    simp [Value.ownBlock] at hg
  · intro i hi
    simp [Value.ownBlock]
  · rintro k (rfl | ⟨i, hi, hk⟩)
    · exact Nat.le_refl _
    · simp [Value.ownBlock] at hk

theorem IsC.six_end {w w1 w3 : World} {qb room day B : Nat} {vs vs' : Nat → Value} {s' : List M} (hb : Below w.heap.size w w1) (hB : w.heap.size ≤ B) (hB1 : B < w1.heap.size) (hlt : ∀ k, FC qb vs k → k < w.heap.size) (h3 : IsC w3 qb room day vs' s') (hs : Step (FC qb vs) (FC qb vs') w1 w3) (b1 b2 b3 b4 b5 b6 : Value) :
    IsC (six w3 B b1 b2 b3 b4 b5 b6) qb room day vs' s' ∧ Step (FC qb vs) (FC qb vs') w (six w3 B b1 b2 b3 b4 b5 b6) := by
  refine ⟨h3.keep (fr6 w3 B b1 b2 b3 b4 b5 b6) (fun k hk e => ?_), ?_, fun k hk => ?_⟩
  · rcases hs.2 k hk with g | g
    · have := hlt k g; omega
    · omega
  · exact ((Fr.of_below hb).trans hs.1 (fun _ _ g => g)).trans (fr6 w3 B b1 b2 b3 b4 b5 b6) (fun k hk e => by omega)
  · rcases hs.2 k hk with g | g
    · exact .inl g
    · exact .inr (Nat.le_trans hb.size g)
theorem headD_cons (x : M) (r : List M) (z : M) : (x :: r).headD z = x := rfl
theorem pop_pages {day : Nat} {x : M} {r : List M} : (pg day (pgN day x.1.1) r = (pg day (pgN day x.1.1) (x :: r)).take 0 ++ (pg day (pgN day x.1.1) (x :: r)).drop (0 + 1)) ∧ ∀ j, j < 8 → j ≠ pgN day x.1.1 → pg day j r = pg day j (x :: r) := by
  refine ⟨by rw [pg_first]; simp, fun j _ hj => (pg_tail (Ne.symm hj)).symm⟩

set_option maxRecDepth 100000 in
set_option maxHeartbeats 1000000 in
theorem cpop_any {w : World} {qb room day : Nat} {vs : Nat → Value} {s : List M} (h : IsC w qb room day vs s) :
    Calls Try.prog 15 #[.pointer (some ⟨qb, 0, none⟩)] w fun e w' => e = .returned (.tuple #[mv (s.headD zeroM), .bool (!s.isEmpty)]) ∧ ∃ vs', IsC w' qb room day vs' s.tail ∧ Step (FC qb vs) (FC qb vs') w w' := by
  have hlt := h.lt
  obtain ⟨w1, hw1⟩ : ∃ w1, w1 = w.alloc (.cells #[.int .i64 0, .int .i64 0, .int .i64 0, .int .i64 0, .int .i64 0, .int .i64 0] 32) := ⟨_, rfl⟩
  have b1 : Below w.heap.size w w1 := by rw [hw1]; exact (Below.refl _ w).alloc (Nat.le_refl _) _
  have n0 : BoxM w1 w.heap.size zeroM := by rw [hw1]; exact BoxM.made w zeroM
  have s1 : w1.heap.size = w.heap.size + 1 := by rw [hw1]; simp
  have FP := firstPage_any (h.below b1)
  have HW : Hid _ := hw1
  clear hw1
  go_enter Try.func15, Try.ntmps15
  go_wp2_with fail
  rw [← HW.out]
  refine FP.mono ?_
  rintro e w2 ⟨f, rfl, hB, b2⟩
  have h2 := (h.below b1).below b2
  have m0 := n0.below b2
  have b12 : Below w.heap.size w w2 := b1.trans (b2.mono b1.size)
  have l2 := b2.size
  rcases best_end h.srt hB with ⟨rfl, rfl⟩ | ⟨x, r, rfl, rfl⟩
  · have E := IsC.six_end b12 (Nat.le_refl _) (by omega) hlt h2 ⟨Fr.refl _ _, fun k hk => .inl hk⟩
    have HE : Aside _ := E
    obtain ⟨z0, z1, z2, z3, z4, z5⟩ := m0.cells
    have zz := m0.2
    dsimp only [zeroM] at z0 z1 z2 z3 z4 z5
    clear E h h2 m0 n0 FP b1 b2 b12 hB
    go_wp2_with fail
    refine bodyPost_ret (v := .tuple #[mv zeroM, .bool false]) (by simp [results, Try.results15, go_sem, z0, z1, z2, z3, z4, z5]) rfl ⟨rfl, _, HE.out _ _ _ _ _ _⟩
  · obtain ⟨p, hp⟩ : ∃ p, pgN day x.1.1 = p := ⟨_, rfl⟩
    have hp8 : p < 8 := by rw [← hp]; exact pgN_lt _ _
    have hl : 0 < (pg day p (x :: r)).length := by rw [← hp, pg_first]; simp
    have hx : nth (pg day p (x :: r)) 0 = x := by rw [← hp, pg_first]; rfl
    have T := take_any h2 hp8 hl r (by rw [← hp]; exact pop_pages.1) (fun j hj e => pop_pages.2 j hj (by rw [hp]; exact e)) (srt_cons h.srt).2 (fun m hm => List.mem_cons_of_mem _ hm) (by simp)
    rw [hx] at T
    rw [hp]
    have hp0 : ¬ ((p : Int) = -1) := by omega
    have hp1 : ((p : Int) == -1) = false := by simp
    obtain ⟨⟨a1, a2, a3⟩, a4, a5, a6⟩ := x
    dsimp only [mv] at T
    clear h2 hB FP hl hx hp
    go_wp2_with fail
    refine T.mono ?_
    rintro e w3 ⟨rfl, vs', i3, s3⟩
    have m3 := m0.keep s3.1 (fun g => by have := hlt _ g; omega)
    have E := IsC.six_end b12 (Nat.le_refl _) (by omega) hlt i3 s3
    have HE : Aside _ := E
    obtain ⟨z0, z1, z2, z3, z4, z5⟩ := m3.cells
    have zz := m3.2
    dsimp only [zeroM] at z0 z1 z2 z3 z4 z5
    clear E h m0 m3 n0 b1 b2 b12 T i3 s3
    go_wp2_with fail
    refine bodyPost_ret (v := .tuple #[mv ((a1, a2, a3), a4, a5, a6), .bool true]) (by simp [results, Try.results15, go_sem, z0, z1, z2, z3, z4, z5]) rfl ⟨rfl, _, HE.out _ _ _ _ _ _⟩
end Go.Proofs.Ytjkcdkoomipfkaa
