/- Proved: contracts of prio's New and of a Queue's Len, First and Pop. -/
import Derived.Test.YtkodjioofkdepaaQHeap2
import Derived.Test.YtkodjioofkdepaaQSpec
namespace Go.Proofs.Ytkodjioofkdepaa.Q
open Go.RowKit Go.Sort
set_option linter.unusedVariables false
set_option maxRecDepth 100000

/-- The queue at block qb, with room for so many messages; it has the messages s, in the order of their keys; what belongs to it lies in the blocks of F. -/
def IsQ (w : World) (F : Nat → Prop) (qb room : Nat) (s : List M) : Prop :=
  ∃ pb mb v d, w.cell? ⟨qb, 0, none⟩ = some (.int .i64 room) ∧ w.cell? ⟨qb, 1, none⟩ = some (.pointer (some ⟨pb, 0, none⟩)) ∧ IsP w pb mb v d ∧ OK d d.length ∧ d.Perm s ∧ Srt s ∧ ¬ FP pb mb v qb ∧ room ≤ 64 ∧ s.length ≤ room ∧ F = fun k => k = qb ∨ FP pb mb v k

theorem IsQ.lt {w : World} {F : Nat → Prop} {qb room : Nat} {s : List M} (h : IsQ w F qb room s) : ∀ k, F k → k < w.heap.size := by
  obtain ⟨pb, mb, v, d, c0, c1, hp, ho, hpm, hs, hq, hr, hl, rfl⟩ := h
  rintro k (rfl | hk)
  · exact cell_lt c0
  · exact hp.lt k hk
theorem IsQ.keep {S F : Nat → Prop} {w w' : World} {qb room : Nat} {s : List M} (h : IsQ w F qb room s) (hf : Fr S w w') (hd : ∀ k, F k → ¬ S k) : IsQ w' F qb room s := by
  obtain ⟨pb, mb, v, d, c0, c1, hp, ho, hpm, hs, hq, hr, hl, rfl⟩ := h
  exact ⟨pb, mb, v, d, (hf.cell (p := ⟨qb, 0, none⟩) (cell_lt c0) (hd qb (.inl rfl))).trans c0, (hf.cell (p := ⟨qb, 1, none⟩) (cell_lt c1) (hd qb (.inl rfl))).trans c1, hp.keep hf (fun k hk => hd k (.inr hk)), ho, hpm, hs, hq, hr, hl, rfl⟩
theorem IsQ.below {F : Nat → Prop} {w w' : World} {qb room : Nat} {s : List M} (h : IsQ w F qb room s) (hb : Below w.heap.size w w') : IsQ w' F qb room s :=
  h.keep (Fr.of_below (S := fun _ => False) hb) (fun _ _ g => g)
theorem IsQ.srt {w : World} {F : Nat → Prop} {qb room : Nat} {s : List M} (h : IsQ w F qb room s) : Srt s ∧ room ≤ 64 ∧ s.length ≤ room ∧ ∀ m ∈ s, mwf m := by
  obtain ⟨pb, mb, v, d, c0, c1, hp, ho, hpm, hs, hq, hr, hl, rfl⟩ := h
  exact ⟨hs, hr, hl, fun m hm => hp.wf m (hpm.mem_iff.2 hm)⟩
/-- What has become of a world in which one thing, in the blocks of F, was worked on: it lies in the blocks of F2 now. -/
def Step (F F2 : Nat → Prop) (w w' : World) : Prop := Fr F w w' ∧ ∀ k, F2 k → F k ∨ w.heap.size ≤ k

def clampR (r : Int) : Nat := (min (max r 0) 64).toNat
theorem clampR_le (r : Int) : clampR r ≤ 64 := by unfold clampR; omega
theorem clampR_int (r : Int) : (clampR r : Int) = min (max r 0) 64 := by unfold clampR; omega

set_option maxHeartbeats 400000 in
theorem new_any (r : Int) (w : World) (hr : i64 r) :
    Calls Try.prog 17 #[.int .i64 r] w fun e w' => ∃ qb F, e = .returned (.pointer (some ⟨qb, 0, none⟩)) ∧ IsQ w' F qb (clampR r) [] ∧ (∀ k, F k → w.heap.size ≤ k) ∧ Below w.heap.size w w' := by
  have hc := clampR_int r
  have hmm := @run_makeMap Try.prog
  have hcl := clampR_le r
  unfold i64 at hr
  go_enter Try.func17, Try.ntmps17
  go_wp2
  go_ret
  refine ⟨w.heap.size + 2, _, rfl, ⟨w.heap.size + 1, w.heap.size, .slice none 0 0, [], ?_, ?_, ⟨?_, ?_, ?_, ?_, ?_, by omega, by simp [Value.ownBlock], by simp [Value.ownBlock], by simp, by simp, by simp⟩, ?_, List.Perm.refl _, List.Pairwise.nil, ?_, hcl, by simp, rfl⟩, ?_, ?_⟩
  · rw [hc]
    have e : w.heap.size + 2 = ((w.alloc (.map #[] 0)).alloc (.cells #[.slice none 0 0, .map (some w.heap.size)] 96)).heap.size := by simp
    rw [e, World.cell?_alloc_new]; rfl
  · have e : w.heap.size + 2 = ((w.alloc (.map #[] 0)).alloc (.cells #[.slice none 0 0, .map (some w.heap.size)] 96)).heap.size := by simp
    rw [e, World.cell?_alloc_new]; rfl
  · have e : w.heap.size + 1 = (w.alloc (.map #[] 0)).heap.size := by simp
    rw [World.cell?_alloc_lt _ _ _ (by simp), e, World.cell?_alloc_new]; rfl
  · have e : w.heap.size + 1 = (w.alloc (.map #[] 0)).heap.size := by simp
    rw [World.cell?_alloc_lt _ _ _ (by simp), e, World.cell?_alloc_new]; rfl
  · have e : w.heap.size + 1 = (w.alloc (.map #[] 0)).heap.size := by simp
    unfold World.frozen?
    rw [Below.heap_alloc _ _ _ (by simp), e, heap_alloc_new]
    simp
  · exact World.ownsRow_nil _ _ _ _
  · exact (MapIs.made w).keep (S := fun _ => False) (((Fr.refl _ _).alloc _).alloc _) (fun g => g)
  · intro c c0 cn; simp at cn
  · rintro (g | g | g)
    · omega
    · omega
    · simp [Value.ownBlock] at g
  · rintro k (rfl | rfl | rfl | g)
    · omega
    · omega
    · omega
    · simp [Value.ownBlock] at g
  · exact (((Below.refl _ w).alloc (Nat.le_refl _) _).alloc (by simp) _).alloc (by simp; omega) _

set_option maxHeartbeats 400000 in
theorem qlen_any {w : World} {F : Nat → Prop} {qb room : Nat} {s : List M} (h : IsQ w F qb room s) :
    Calls Try.prog 41 #[.pointer (some ⟨qb, 0, none⟩)] w fun e w' => e = .returned (.int .i64 s.length) ∧ w' = w := by
  obtain ⟨pb, mb, v, d, c0, c1, hp, ho, hpm, hs, hq, hr, hl, rfl⟩ := h
  have L := plen_any hp
  rw [hpm.length_eq] at L
  clear hp ho hpm hs
  go_enter Try.func41, Try.ntmps41
  go_wp2_with (go_at_call 62; refine L.mono ?_; rintro e w' ⟨rfl, rfl⟩)
  go_ret
  exact ⟨rfl, rfl⟩

set_option maxHeartbeats 1000000 in
theorem first_any {w : World} {F : Nat → Prop} {qb room : Nat} {s : List M} (h : IsQ w F qb room s) :
    Calls Try.prog 27 #[.pointer (some ⟨qb, 0, none⟩)] w fun e w' => e = .returned (.tuple #[mv (s.headD zeroM), .bool (!s.isEmpty)]) ∧ Below w.heap.size w w' := by
  have L := qlen_any h
  obtain ⟨pb, mb, v, d, c0, c1, hp, ho, hpm, hs, hq, hr, hl, rfl⟩ := h
  have hB : w.heap.size ≤ w.heap.size := Nat.le_refl _
  have L' : ∀ o : Obj, Calls Try.prog 41 #[.pointer (some ⟨qb, 0, none⟩)] (w.alloc o) fun e w' => e = .returned (.int .i64 s.length) ∧ w' = w.alloc o := fun o =>
    qlen_any (IsQ.keep (S := fun _ => False) ⟨pb, mb, v, d, c0, c1, hp, ho, hpm, hs, hq, hr, hl, rfl⟩ ((Fr.refl _ w).alloc o) (fun _ _ g => g))
  cases s with
  | nil =>
    simp only [List.length_nil] at L'
    clear hp ho hpm hs
    go_enter Try.func27, Try.ntmps27
    go_wp2_with (go_at_call 41; refine (L' _).mono ?_; rintro e w' ⟨rfl, rfl⟩)
    exact bodyPost_ret (v := .tuple #[mv zeroM, .bool false]) (by simp [results, Try.results27, go_sem]) rfl ⟨rfl, (Below.refl _ _).alloc (Nat.le_refl _) _⟩
  | cons x r =>
    have hx := heap_first hpm ho hs
    have hd : d.length = r.length + 1 := by rw [hpm.length_eq]; simp
    obtain ⟨g, cap, rfl, hg⟩ := own_nonempty hp.own (i := 0) (by omega)
    obtain ⟨x0, x1, x2, x3, x4, x5⟩ := own_cell hp.own (i := 0) (x := x) (by omega) (by rw [← nth_get]; exact hx)
    have h0 := hp.c0
    have hpl := cell_lt h0
    have hql := cell_lt c0
    have hlen := hp.len
    rw [hd] at h0 hlen
    simp only [List.length_cons] at L'
    have g0 : ¬ ((r.length : Int) + 1 = 0) := by omega
    have g1 : (((r.length : Int) + 1) == 0) = false := by simpa using g0
    have g2 : (0 : Int) < ((r.length + 1 : Nat) : Int) := by omega
    simp only [Nat.zero_mul, Nat.zero_add] at x0 x1 x2 x3 x4 x5
    clear hp ho hpm hs hx L
    obtain ⟨⟨a1, a2, a3⟩, a4, a5, a6⟩ := x
    dsimp only at x0 x1 x2 x3 x4 x5
    go_enter Try.func27, Try.ntmps27
    go_wp2_with (go_at_call 41; refine (L' _).mono ?_; rintro e w' ⟨rfl, rfl⟩)
    exact bodyPost_ret (v := .tuple #[mv ((a1, a2, a3), a4, a5, a6), .bool true]) (by simp [results, Try.results27, go_sem]) rfl ⟨rfl, (Below.refl _ _).alloc (Nat.le_refl _) _⟩
end Go.Proofs.Ytkodjioofkdepaa.Q
