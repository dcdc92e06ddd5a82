/- Joined: the texts that follow, each with its own sentence. -/
import Derived.Test.YtiaopafkfadmkaaGreatZQb
import Derived.Test.YtiaopafkfadmkaaGreatZQa
set_option linter.unusedVariables false
set_option maxRecDepth 100000
namespace Go.Proofs.YtiaopafkfadmkaaGreat.Q
open Go.RowKit Go.Sort
def IsQ (w : World) (F : Nat → Prop) (qb room : Nat) (s : List M) : Prop :=
 ∃ pb mb v d, w.cell? ⟨qb, 0, none⟩ = some (.int .i64 room) ∧ w.cell? ⟨qb, 1, none⟩ = some (.pointer (some ⟨pb, 0, none⟩)) ∧ IsP w pb mb v d ∧ OK d d.length ∧ d.Perm s ∧ Srt s ∧ ¬ FP pb mb v qb ∧ room ≤ 64 ∧ s.length ≤ room ∧ F = fun k => k = qb ∨ FP pb mb v k
theorem IsQ.lt {w : World} {F : Nat → Prop} {qb room : Nat} {s : List M} (h : IsQ w F qb room s) : ∀ k, F k → k < w.heap.size := by
 obtain ⟨pb, mb, v, d, c0, c1, hp, ho, hpm, hs, hq, hr, hl, rfl⟩ := h
 rintro k (rfl | hk)
 ·exact cell_lt c0
 ·exact hp.lt k hk
theorem IsQ.keep {S F : Nat → Prop} {w w' : World} {qb room : Nat} {s : List M} (h : IsQ w F qb room s) (hf : Fr S w w') (hd : ∀ k, F k → ¬ S k) : IsQ w' F qb room s := by
 obtain ⟨pb, mb, v, d, c0, c1, hp, ho, hpm, hs, hq, hr, hl, rfl⟩ := h
 exact ⟨pb, mb, v, d, (hf.cell (p := ⟨qb, 0, none⟩) (cell_lt c0) (hd qb (.inl rfl))).trans c0, (hf.cell (p := ⟨qb, 1, none⟩) (cell_lt c1) (hd qb (.inl rfl))).trans c1, hp.keep hf (fun k hk => hd k (.inr hk)), ho, hpm, hs, hq, hr, hl, rfl⟩
theorem IsQ.below {F : Nat → Prop} {w w' : World} {qb room : Nat} {s : List M} (h : IsQ w F qb room s) (hb : Below w.heap.size w w') : IsQ w' F qb room s :=
 h.keep (Fr.of_below (S := fun _ => False) hb) (fun _ _ g => g)
def Step (F F2 : Nat → Prop) (w w' : World) : Prop := Fr F w w' ∧ ∀ k, F2 k → F k ∨ w.heap.size ≤ k
def clampR (r : Int) : Nat := (min (max r 0) 64).toNat
theorem clampR_le (r : Int) : clampR r ≤ 64 := by unfold clampR; omega
theorem clampR_int (r : Int) : (clampR r : Int) = min (max r 0) 64 := by unfold clampR; omega
set_option maxHeartbeats 400000 in
theorem new_any (r : Int) (w : World) (hr : i64 r) :
  Calls Tryz.prog 43 #[.int .i64 r] w fun e w' => ∃ qb F, e = .returned (.pointer (some ⟨qb, 0, none⟩)) ∧ IsQ w' F qb (clampR r) [] ∧ (∀ k, F k → w.heap.size ≤ k) ∧ Below w.heap.size w w' := by
 have hc := clampR_int r
 have hmm := @run_makeMap Tryz.prog
 have hcl := clampR_le r
 unfold i64 at hr
 go_enter Tryz.func43, Tryz.ntmps43
 go_wp2
 go_ret
 refine ⟨w.heap.size + 2, _, rfl, ⟨w.heap.size + 1, w.heap.size, .slice none 0 0, [], ?_, ?_, ⟨?_, ?_, ?_, ?_, ?_, by omega, by simp [Value.ownBlock], by simp [Value.ownBlock], by simp, by simp, by simp⟩, ?_, List.Perm.refl _, List.Pairwise.nil, ?_, hcl, by simp, rfl⟩, ?_, ?_⟩
 ·rw [hc]
  have e : w.heap.size + 2 = ((w.alloc (.map #[] 0)).alloc (.cells #[.slice none 0 0, .map (some w.heap.size)] 163)).heap.size := by simp
  rw [e, World.cell?_alloc_new]; rfl
 ·have e : w.heap.size + 2 = ((w.alloc (.map #[] 0)).alloc (.cells #[.slice none 0 0, .map (some w.heap.size)] 163)).heap.size := by simp
  rw [e, World.cell?_alloc_new]; rfl
 ·have e : w.heap.size + 1 = (w.alloc (.map #[] 0)).heap.size := by simp
  rw [World.cell?_alloc_lt _ _ _ (by simp), e, World.cell?_alloc_new]; rfl
 ·have e : w.heap.size + 1 = (w.alloc (.map #[] 0)).heap.size := by simp
  rw [World.cell?_alloc_lt _ _ _ (by simp), e, World.cell?_alloc_new]; rfl
 ·have e : w.heap.size + 1 = (w.alloc (.map #[] 0)).heap.size := by simp
  unfold World.frozen?
  rw [Below.heap_alloc _ _ _ (by simp), e, heap_alloc_new]
  simp
 ·exact World.ownsRow_nil _ _ _ _
 ·exact (MapIs.made w).keep (S := fun _ => False) (((Fr.refl _ _).alloc _).alloc _) (fun g => g)
 ·intro c c0 cn; simp at cn
 ·rintro (g | g | g)
  ·omega
  ·omega
  ·simp [Value.ownBlock] at g
 ·rintro k (rfl | rfl | rfl | g)
  ·omega
  ·omega
  ·omega
  ·simp [Value.ownBlock] at g
 ·exact (((Below.refl _ w).alloc (Nat.le_refl _) _).alloc (by simp) _).alloc (by simp; omega) _
set_option maxHeartbeats 400000 in
theorem qlen_any {w : World} {F : Nat → Prop} {qb room : Nat} {s : List M} (h : IsQ w F qb room s) :
  Calls Tryz.prog 109 #[.pointer (some ⟨qb, 0, none⟩)] w fun e w' => e = .returned (.int .i64 s.length) ∧ w' = w := by
 obtain ⟨pb, mb, v, d, c0, c1, hp, ho, hpm, hs, hq, hr, hl, rfl⟩ := h
 have L := plen_any hp
 rw [hpm.length_eq] at L
 clear hp ho hpm hs
 go_enter Tryz.func109, Tryz.ntmps109
 go_wp2_with (go_at_call 153; refine L.mono ?_; rintro e w' ⟨rfl, rfl⟩)
 go_ret
 exact ⟨rfl, rfl⟩
set_option maxHeartbeats 1000000 in
theorem first_any {w : World} {F : Nat → Prop} {qb room : Nat} {s : List M} (h : IsQ w F qb room s) :
  Calls Tryz.prog 59 #[.pointer (some ⟨qb, 0, none⟩)] w fun e w' => e = .returned (.tuple #[mv (s.headD zeroM), .bool (!s.isEmpty)]) ∧ Below w.heap.size w w' := by
 have L := qlen_any h
 obtain ⟨pb, mb, v, d, c0, c1, hp, ho, hpm, hs, hq, hr, hl, rfl⟩ := h
 have hB : w.heap.size ≤ w.heap.size := Nat.le_refl _
 have L' : ∀ o : Obj, Calls Tryz.prog 109 #[.pointer (some ⟨qb, 0, none⟩)] (w.alloc o) fun e w' => e = .returned (.int .i64 s.length) ∧ w' = w.alloc o := fun o =>
  qlen_any (IsQ.keep (S := fun _ => False) ⟨pb, mb, v, d, c0, c1, hp, ho, hpm, hs, hq, hr, hl, rfl⟩ ((Fr.refl _ w).alloc o) (fun _ _ g => g))
 cases s with
 | nil =>
  simp only [List.length_nil] at L'
  clear hp ho hpm hs
  go_enter Tryz.func59, Tryz.ntmps59
  go_wp2_with (go_at_call 109; refine (L' _).mono ?_; rintro e w' ⟨rfl, rfl⟩)
  exact bodyPost_ret (v := .tuple #[mv zeroM, .bool false]) (by simp [results, Tryz.results59, go_sem]) rfl ⟨rfl, (Below.refl _ _).alloc (Nat.le_refl _) _⟩
 | cons x r =>
  have hx := heap_first hpm ho hs
  have hd : d.length = r.length + 1 := by rw [hpm.length_eq]; simp
  obtain ⟨g, cap, rfl, hg⟩ := own_nonempty hp.own (i := 0) (by omega)
  obtain ⟨x0, x1, x2, x3, x4, x5⟩ := own_cell hp.own (i := 0) (x := x) (by omega) (by rw [← nth_get]; exact hx)
  have h0 := hp.c0
  have hpl := cell_lt h0
  have hql := cell_lt c0
  have hlen := hp.len
  rw [hd] at h0 hlen
  simp only [List.length_cons] at L'
  have g0 : ¬ ((r.length : Int) + 1 = 0) := by omega
  have g1 : (((r.length : Int) + 1) == 0) = false := by simpa using g0
  have g2 : (0 : Int) < ((r.length + 1 : Nat) : Int) := by omega
  simp only [Nat.zero_mul, Nat.zero_add] at x0 x1 x2 x3 x4 x5
  clear hp ho hpm hs hx L
  obtain ⟨⟨a1, a2, a3⟩, a4, a5, a6⟩ := x
  dsimp only at x0 x1 x2 x3 x4 x5
  go_enter Tryz.func59, Tryz.ntmps59
  go_wp2_with (go_at_call 109; refine (L' _).mono ?_; rintro e w' ⟨rfl, rfl⟩)
  exact bodyPost_ret (v := .tuple #[mv ((a1, a2, a3), a4, a5, a6), .bool true]) (by simp [results, Tryz.results59, go_sem]) rfl ⟨rfl, (Below.refl _ _).alloc (Nat.le_refl _) _⟩
end Go.Proofs.YtiaopafkfadmkaaGreat.Q
namespace Go.Proofs.YtiaopafkfadmkaaGreat.Q
open Go.RowKit Go.Sort
abbrev zobj : Obj := .cells #[.int .i64 0, .int .i64 0, .int .i64 0, .int .i64 0, .int .i64 0, .int .i64 0] 39
abbrev six (W : World) (B : Nat) (a1 a2 a3 a4 a5 a6 : Value) : World := ((((((W.setCell ⟨B, 0, none⟩ a1).setCell ⟨B, 1, none⟩ a2).setCell ⟨B, 2, none⟩ a3).setCell ⟨B, 3, none⟩ a4).setCell ⟨B, 4, none⟩ a5).setCell ⟨B, 5, none⟩ a6)
theorem fr6 (W : World) (B : Nat) (a1 a2 a3 a4 a5 a6 : Value) : Fr (fun k => k = B) W (six W B a1 a2 a3 a4 a5 a6) :=
 ((((((Fr.refl (fun k => k = B) W).setCell _ _ (.inl rfl)).setCell _ _ (.inl rfl)).setCell _ _ (.inl rfl)).setCell _ _ (.inl rfl)).setCell _ _ (.inl rfl)).setCell _ _ (.inl rfl)
theorem zcell (w : World) (j : Nat) (hj : j < 6) : (w.alloc zobj).cell? ⟨w.heap.size, j, none⟩ = some (.int .i64 0) := by
 rw [World.cell?_alloc_new]
 match j, hj with
 | 0, _ => rfl
 | 1, _ => rfl
 | 2, _ => rfl
 | 3, _ => rfl
 | 4, _ => rfl
 | 5, _ => rfl
theorem zfrozen (w : World) (j : Nat) : (w.alloc zobj).frozen? ⟨w.heap.size, j, none⟩ = false := by
 unfold World.frozen?
 rw [heap_alloc_new]
 simp
theorem IsQ.after {w0 w w' : World} {pb mb qb room : Nat} {v v' : Value} {d' s' : List M} (h0 : Below w0.heap.size w0 w) (c0 : w.cell? ⟨qb, 0, none⟩ = some (.int .i64 room)) (c1 : w.cell? ⟨qb, 1, none⟩ = some (.pointer (some ⟨pb, 0, none⟩))) (hqw : qb < w0.heap.size)
  (hq : ¬ FP pb mb v qb) (ha : After w pb mb v w' v' d') (hp : d'.Perm s') (hs : Srt s') (hr : room ≤ 64) (hl : s'.length ≤ room) :
  IsQ w' (fun k => k = qb ∨ FP pb mb v' k) qb room s' ∧ Step (fun k => k = qb ∨ FP pb mb v k) (fun k => k = qb ∨ FP pb mb v' k) w0 w' := by
 obtain ⟨h1, h2, h3, h4⟩ := ha
 have hqw' := cell_lt c0
 refine ⟨⟨pb, mb, v', d', (h3.cell (p := ⟨qb, 0, none⟩) hqw' hq).trans c0, (h3.cell (p := ⟨qb, 1, none⟩) hqw' hq).trans c1, h1, h2, hp, hs, ?_, hr, hl, rfl⟩, ?_, ?_⟩
 ·intro g
  rcases h4 qb g with g | g
  ·exact hq g
  ·omega
 ·exact (Fr.of_below h0).trans (h3.wide (S' := fun k => k = qb ∨ FP pb mb v k) (fun k hk => .inr hk)) (fun _ _ g => g)
 ·rintro k (rfl | hk)
  ·exact .inl (.inl rfl)
  ·rcases h4 k hk with g | g
   ·exact .inl (.inr g)
   ·right; have := h0.size; omega
theorem Step.out {F F2 : Nat → Prop} {w w' w2 : World} {B : Nat} (h : Step F F2 w w') (hB : w.heap.size ≤ B) (hf : Fr (fun k => k = B) w' w2) : Step F F2 w w2 :=
 ⟨h.1.trans hf (fun i hi e => by omega), h.2⟩
set_option maxHeartbeats 1000000 in
theorem qpop_any {w : World} {F : Nat → Prop} {qb room : Nat} {s : List M} (h : IsQ w F qb room s) :
  Calls Tryz.prog 62 #[.pointer (some ⟨qb, 0, none⟩)] w fun e w' => e = .returned (.tuple #[mv (s.headD zeroM), .bool (!s.isEmpty)]) ∧ ∃ F2, IsQ w' F2 qb room s.tail ∧ Step F F2 w w' := by
 have h00 := h
 obtain ⟨pb, mb, v, d, c0, c1, hp, ho, hpm, hs, hq, hr, hl, rfl⟩ := h
 have hb0 : Below w.heap.size w (w.alloc zobj) := (Below.refl _ _).alloc (Nat.le_refl _) _
 have hQ1 := h00.below hb0
 have L' := qlen_any hQ1
 cases s with
 | nil =>
  simp only [List.length_nil] at L'
  clear hp ho hpm hs h00
  have R : IsQ (w.alloc zobj) (fun k => k = qb ∨ FP pb mb v k) qb room [] ∧ Step (fun k => k = qb ∨ FP pb mb v k) (fun k => k = qb ∨ FP pb mb v k) w (w.alloc zobj) := ⟨hQ1, Fr.of_below hb0, fun k hk => .inl hk⟩
  clear hQ1
  go_enter Tryz.func62, Tryz.ntmps62
  go_wp2_with (go_at_call 109; refine L'.mono ?_; rintro e w' ⟨rfl, rfl⟩)
  exact bodyPost_ret (v := .tuple #[mv zeroM, .bool false]) (by simp [results, Tryz.results62, go_sem]) rfl ⟨rfl, _, R.1, R.2⟩
 | cons x r =>
  have hx := heap_first hpm ho hs
  have hd : d.length = r.length + 1 := by rw [hpm.length_eq]; simp
  have hp1 := hp.below hb0
  have c0' := (hb0.cell (p := ⟨qb, 0, none⟩) (cell_lt c0)).trans c0
  have c1' := (hb0.cell (p := ⟨qb, 1, none⟩) (cell_lt c1)).trans c1
  have PP := hpop_any hp1 ho (by omega)
  rw [hx] at PP
  have hql := cell_lt c0
  simp only [List.length_cons] at L'
  have g0 : ¬ ((r.length : Int) + 1 = 0) := by omega
  have g1 : (((r.length : Int) + 1) == 0) = false := by simpa using g0
  have hlt : ∀ k, FP pb mb v k → k < w.heap.size := fun k hk => hp.lt k hk
  have hta := fun w x => assert30 x w
  obtain ⟨⟨a1, a2, a3⟩, a4, a5, a6⟩ := x
  dsimp only [mv] at PP
  have c1'' := c1'
  clear hp hx h00 hQ1
  go_enter Tryz.func62, Tryz.ntmps62
  go_wp2_with (go_at_call 109; refine L'.mono ?_; rintro e w' ⟨rfl, rfl⟩)
  refine PP.mono ?_
  rintro e w3 ⟨rfl, v', d', ha, hpd⟩
  have hB : ¬ FP pb mb v w.heap.size := fun g => Nat.lt_irrefl _ (hlt _ g)
  have zc : ∀ j, j < 6 → w3.cell? ⟨w.heap.size, j, none⟩ = some (.int .i64 0) := fun j hj => (ha.2.2.1.cell (p := ⟨w.heap.size, j, none⟩) (by simp) hB).trans (zcell w j hj)
  have zf : ∀ j, w3.frozen? ⟨w.heap.size, j, none⟩ = false := fun j => (ha.2.2.1.frozen (p := ⟨w.heap.size, j, none⟩) (by simp) hB).trans (zfrozen w j)
  obtain ⟨R1, R2⟩ := IsQ.after hb0 c0' c1' hql hq ha (perm_pop hpd hpm) (List.pairwise_cons.1 hs).2 hr (by simp at hl; omega)
  have z0 := zc 0 (by omega)
  have z1 := zc 1 (by omega)
  have z2 := zc 2 (by omega)
  have z3 := zc 3 (by omega)
  have z4 := zc 4 (by omega)
  have z5 := zc 5 (by omega)
  have f6 := fun b1 b2 b3 b4 b5 b6 => fr6 w3 w.heap.size b1 b2 b3 b4 b5 b6
  have nB : ∀ k, (k = qb ∨ FP pb mb v' k) → k ≠ w.heap.size := by
   rintro k (rfl | hk)
   ·omega
   ·rintro rfl
    rcases ha.2.2.2 _ hk with g | g
    ·exact hB g
    ·have e : (w.alloc zobj).heap.size = w.heap.size + 1 := by simp
     omega
  have R : ∀ b1 b2 b3 b4 b5 b6, IsQ (six w3 w.heap.size b1 b2 b3 b4 b5 b6) (fun k => k = qb ∨ FP pb mb v' k) qb room r ∧ Step (fun k => k = qb ∨ FP pb mb v k) (fun k => k = qb ∨ FP pb mb v' k) w (six w3 w.heap.size b1 b2 b3 b4 b5 b6) := fun b1 b2 b3 b4 b5 b6 =>
   ⟨R1.keep (f6 b1 b2 b3 b4 b5 b6) nB, R2.out (Nat.le_refl _) (f6 b1 b2 b3 b4 b5 b6)⟩
  have RA : Aside _ := R
  clear R R1 R2 f6 ha hpd hpm hs ho nB hB zc hlt PP L' c0' c1' c1'' hp1
  go_wp2_with fail
  exact bodyPost_ret (v := .tuple #[mv ((a1, a2, a3), a4, a5, a6), .bool true]) (by simp [results, Tryz.results62, go_sem, z0, z1, z2, z3, z4, z5]) rfl ⟨rfl, _, RA.out _ _ _ _ _ _⟩
end Go.Proofs.YtiaopafkfadmkaaGreat.Q
namespace Go.Proofs.YtiaopafkfadmkaaGreat.Q
open Go.RowKit Go.Sort
theorem MapIs.look {W : World} {mb : Nat} {d : List M} (h : MapIs W mb d) {k : K} (hk : kwf k) :
  ∃ c : Int, (∀ n, (Instr.lookup 161 (.map (some mb)) (kv k) true).run Tryz.prog (W.drewN n) = .ok (.tuple #[.int .i64 c, .bool (decide (k ∈ d.map Prod.fst))]) (W.drewN n)) ∧ (k ∈ d.map Prod.fst → ∃ i, i < d.length ∧ c = i ∧ (nth d i).1 = k) := by
 obtain ⟨D, hown, hhas, hat⟩ := h
 have hb : Maps.has D (klP Tryz.prog k) = decide (k ∈ d.map Prod.fst) := by
  cases e : Maps.has D (klP Tryz.prog k)
  ·symm; rw [decide_eq_false_iff_not]; intro g; rw [(hhas k hk).2 g] at e; cases e
  ·symm; rw [decide_eq_true_iff]; exact (hhas k hk).1 e
 have one : ∀ n, ∃ c : Int, (Instr.lookup 161 (.map (some mb)) (kv k) true).run Tryz.prog (W.drewN n) = .ok (.tuple #[.int .i64 c, .bool (decide (k ∈ d.map Prod.fst))]) (W.drewN n) ∧ D.atKey (klP Tryz.prog k) (num 0) = num c := fun n => by
  obtain ⟨v, ps, hrun, hv⟩ := World.ownsMap.look_ok (w := W.drewN n) (H := Unit) hown keyed28 Tryz.underlying161 (zero3 _) (plainElem_int (H := Unit) Tryz.underlying3 (a := 0) (by decide)) (kl_some hk)
  obtain ⟨c, rfl, hc, _⟩ := plainElem_int_inv Tryz.underlying3 hv
  rw [hb] at hrun
  exact ⟨c, hrun, congrArg Prod.fst hc⟩
 obtain ⟨c, h1, h2⟩ := one 0
 refine ⟨c, fun n => ?_, fun g => ?_⟩
 ·obtain ⟨c', h3, h4⟩ := one n
  rw [h2] at h4
  have : c = c' := by simpa using h4
  rw [this]; exact h3
 ·obtain ⟨m, hm, rfl⟩ := List.mem_map.1 g
  obtain ⟨i, hi, e⟩ := List.getElem_of_mem hm
  have h3 := hat i hi
  rw [e, h2] at h3
  exact ⟨i, hi, by simpa using h3, by rw [nth_get d i hi, e]⟩
set_option maxHeartbeats 1000000 in
theorem qpush_any {w : World} {F : Nat → Prop} {qb room : Nat} {s : List M} (h : IsQ w F qb room s) (m : M) (hm : mwf m) :
  Calls Tryz.prog 185 #[.pointer (some ⟨qb, 0, none⟩), mv m] w fun e w' => e = .returned (.int .i64 (if hasK s m.1 = true then 3 else if room ≤ s.length then 2 else 0)) ∧ ∃ F2, IsQ w' F2 qb room (if hasK s m.1 = true then s else if room ≤ s.length then s else ins s m) ∧ Step F F2 w w' := by
 have mixed : Tryz.prog.follows .mixedOrders = true := by kernel_rfl
 have h00 := h
 obtain ⟨pb, mb, v, d, c0, c1, hp, ho, hpm, hs, hq, hr, hl, rfl⟩ := h
 obtain ⟨W0, hW0⟩ : ∃ W0, W0 = w.alloc (.cells #[.int .i64 m.1.1, .int .i64 m.1.2.1, .int .i64 m.1.2.2, .int .i64 m.2.1, .int .i64 m.2.2.1, .int .i64 m.2.2.2] 39) := ⟨_, rfl⟩
 have hb0 : Below w.heap.size w W0 := by rw [hW0]; exact (Below.refl _ _).alloc (Nat.le_refl _) _
 have hp0 := hp.below hb0
 have c0' := (hb0.cell (p := ⟨qb, 0, none⟩) (cell_lt c0)).trans c0
 have c1' := (hb0.cell (p := ⟨qb, 1, none⟩) (cell_lt c1)).trans c1
 have p1' := hp0.c1
 have xc : ∀ j, j < 6 → W0.cell? ⟨w.heap.size, j, none⟩ = (enc m)[j]? := fun j hj => by
  rw [hW0]
  simp only [World.cell?, heap_alloc_new]
  simp [enc]
 obtain ⟨c, look, _⟩ := hp0.map.look hm.1
 have hdec : decide (m.1 ∈ d.map Prod.fst) = hasK s m.1 := by
  have := hasK_perm hpm m.1
  cases e : hasK s m.1
  ·rw [decide_eq_false_iff_not, this, e]; simp
  ·rw [decide_eq_true_iff, this, e]
 rw [hdec] at look
 have x0 : W0.cell? ⟨w.heap.size, 0, none⟩ = some (.int .i64 m.1.1) := xc 0 (by omega)
 have x1 : W0.cell? ⟨w.heap.size, 1, none⟩ = some (.int .i64 m.1.2.1) := xc 1 (by omega)
 have x2 : W0.cell? ⟨w.heap.size, 2, none⟩ = some (.int .i64 m.1.2.2) := xc 2 (by omega)
 have x3 : W0.cell? ⟨w.heap.size, 3, none⟩ = some (.int .i64 m.2.1) := xc 3 (by omega)
 have x4 : W0.cell? ⟨w.heap.size, 4, none⟩ = some (.int .i64 m.2.2.1) := xc 4 (by omega)
 have x5 : W0.cell? ⟨w.heap.size, 5, none⟩ = some (.int .i64 m.2.2.2) := xc 5 (by omega)
 have HW : Hid (W0 = w.alloc (.cells #[.int .i64 m.1.1, .int .i64 m.1.2.1, .int .i64 m.1.2.2, .int .i64 m.2.1, .int .i64 m.2.2.1, .int .i64 m.2.2.2] 39)) := hW0
 clear hW0 hdec xc
 cases hk : hasK s m.1
 ·rw [hk] at look
  simp only [Bool.false_eq_true, if_false]
  by_cases hfull : room ≤ s.length
  ·simp only [hfull, if_true]
   have R : ∀ n, IsQ (W0.drewN n) (fun k => k = qb ∨ FP pb mb v k) qb room s ∧ Step (fun k => k = qb ∨ FP pb mb v k) (fun k => k = qb ∨ FP pb mb v k) w (W0.drewN n) := fun n => ⟨h00.below ⟨hb0.os, hb0.tape, hb0.output, hb0.size, hb0.block⟩, Fr.of_below ⟨hb0.os, hb0.tape, hb0.output, hb0.size, hb0.block⟩, fun k hk => .inl hk⟩
   have L : ∀ W : World, Below w.heap.size w W → ∀ n, Calls Tryz.prog 109 #[.pointer (some ⟨qb, 0, none⟩)] (W.drewN n) fun e w' => e = .returned (.int .i64 s.length) ∧ w' = W.drewN n := fun W hW n => qlen_any (h00.below ⟨hW.os, hW.tape, hW.output, hW.size, hW.block⟩)
   have RA : Aside (∀ W : World, Below w.heap.size w W → IsQ W (fun k => k = qb ∨ FP pb mb v k) qb room s ∧ Step (fun k => k = qb ∨ FP pb mb v k) (fun k => k = qb ∨ FP pb mb v k) w W) := fun W hW => ⟨h00.below hW, Fr.of_below hW, fun k hk => .inl hk⟩
   have hf : (room : Int) ≤ (s.length : Int) := by omega
   clear R h00 hp hp0 ho hpm hs x3 x4 x5 hk
   go_enter Tryz.func185, Tryz.ntmps185
   go_wp2_with fail
   rw [← HW.out]
   go_quiet (fail)
   go_wp2_with fail
   generalize hwq : World.drewN _ _ = wq
   have hbq : Below w.heap.size w wq := by rw [← hwq]; exact ⟨hb0.os, hb0.tape, hb0.output, hb0.size, hb0.block⟩
   have q0 : wq.cell? ⟨qb, 0, none⟩ = some (.int .i64 room) := by rw [← hwq]; exact c0'
   have LL := L wq hbq
   clear L hwq
   go_quiet ((go_at_call 109; exact Calls.quiet_of_same (LL _)))
   go_wp2_with fail
   go_ret
   exact ⟨rfl, _, RA.out _ ⟨hbq.os, hbq.tape, hbq.output, hbq.size, hbq.block⟩⟩
  ·simp only [hfull, if_false]
   have R : ∀ n, IsQ (W0.drewN n) (fun k => k = qb ∨ FP pb mb v k) qb room s := fun n => h00.below ⟨hb0.os, hb0.tape, hb0.output, hb0.size, hb0.block⟩
   have L : ∀ W : World, Below w.heap.size w W → ∀ n, Calls Tryz.prog 109 #[.pointer (some ⟨qb, 0, none⟩)] (W.drewN n) fun e w' => e = .returned (.int .i64 s.length) ∧ w' = W.drewN n := fun W hW n => qlen_any (h00.below ⟨hW.os, hW.tape, hW.output, hW.size, hW.block⟩)
   have hf : ¬ (room : Int) ≤ (s.length : Int) := by omega
   have hnew : m.1 ∉ d.map Prod.fst := fun e => by rw [(hasK_perm hpm m.1).1 e] at hk; cases hk
   have hsI := hs.ins (fun e => by rw [(hasK_iff s m.1).2 e] at hk; cases hk)
   have hlen : d.length < 64 := by rw [hpm.length_eq]; omega
   have H : ∀ W : World, Below w.heap.size w W → Calls Tryz.prog 208 #[.iface 160 (.pointer (some ⟨pb, 0, none⟩)), .iface 39 (mv m)] W fun e w' => e = .returned (.tuple #[]) ∧ ∃ F2, IsQ w' F2 qb room (ins s m) ∧ Step (fun k => k = qb ∨ FP pb mb v k) F2 w w' := fun W hW => by
    refine (hpush_any (hp.below hW) ho m hm hnew hlen).mono ?_
    rintro e w2 ⟨rfl, v', d', ha, hpd⟩
    obtain ⟨R1, R2⟩ := IsQ.after hW ((hW.cell (p := ⟨qb, 0, none⟩) (cell_lt c0)).trans c0) ((hW.cell (p := ⟨qb, 1, none⟩) (cell_lt c1)).trans c1) (cell_lt c0) hq ha ((hpd.trans (hpm.append_right [m])).trans (ins_perm s m).symm) hsI hr (by rw [ins_len]; omega)
    exact ⟨rfl, _, R1, R2⟩
   have hbN : ∀ n, Below w.heap.size w (W0.drewN n) := fun n => ⟨hb0.os, hb0.tape, hb0.output, hb0.size, hb0.block⟩
   have HA : Aside _ := H
   clear H R h00 hp hp0 ho hpm hs hk hnew hsI
   obtain ⟨⟨a1, a2, a3⟩, a4, a5, a6⟩ := m
   dsimp only at x0 x1 x2 x3 x4 x5
   go_enter Tryz.func185, Tryz.ntmps185
   go_wp2_with fail
   rw [← HW.out]
   go_quiet (fail)
   go_wp2_with fail
   generalize hwp : World.drewN _ _ = wp
   have hbp : Below w.heap.size w wp := by rw [← hwp]; exact ⟨hb0.os, hb0.tape, hb0.output, hb0.size, hb0.block⟩
   have p0 : wp.cell? ⟨qb, 0, none⟩ = some (.int .i64 room) := by rw [← hwp]; exact c0'
   have LL := L wp hbp
   clear L
   go_quiet ((go_at_call 109; exact Calls.quiet_of_same (LL _)))
   go_wp2_with fail
   subst hwp
   generalize hwq : World.drewN _ _ = wq
   have hbq : Below w.heap.size w wq := by rw [← hwq]; exact ⟨hb0.os, hb0.tape, hb0.output, hb0.size, hb0.block⟩
   have q1 : wq.cell? ⟨qb, 1, none⟩ = some (.pointer (some ⟨pb, 0, none⟩)) := by rw [← hwq]; exact c1'
   have y0 : wq.cell? ⟨w.heap.size, 0, none⟩ = some (.int .i64 a1) := by rw [← hwq]; exact x0
   have y1 : wq.cell? ⟨w.heap.size, 1, none⟩ = some (.int .i64 a2) := by rw [← hwq]; exact x1
   have y2 : wq.cell? ⟨w.heap.size, 2, none⟩ = some (.int .i64 a3) := by rw [← hwq]; exact x2
   have y3 : wq.cell? ⟨w.heap.size, 3, none⟩ = some (.int .i64 a4) := by rw [← hwq]; exact x3
   have y4 : wq.cell? ⟨w.heap.size, 4, none⟩ = some (.int .i64 a5) := by rw [← hwq]; exact x4
   have y5 : wq.cell? ⟨w.heap.size, 5, none⟩ = some (.int .i64 a6) := by rw [← hwq]; exact x5
   have HH := HA.out wq.drew hbq.drew
   clear hwq x0 x1 x2 x3 x4 x5 LL look c0' c1' p1' p0
   go_region_with (go_at_call 208; refine HH.mono ?_; rintro e w' ⟨rfl, hR⟩)
   all_goals (go_wp2_with fail; go_ret; exact ⟨rfl, hR⟩)
 ·rw [hk] at look
  simp only [if_true]
  have R : ∀ n, IsQ (W0.drewN n) (fun k => k = qb ∨ FP pb mb v k) qb room s ∧ Step (fun k => k = qb ∨ FP pb mb v k) (fun k => k = qb ∨ FP pb mb v k) w (W0.drewN n) := fun n => ⟨h00.below ⟨hb0.os, hb0.tape, hb0.output, hb0.size, hb0.block⟩, Fr.of_below ⟨hb0.os, hb0.tape, hb0.output, hb0.size, hb0.block⟩, fun k hk => .inl hk⟩
  have RA : Aside _ := R
  clear R h00 hp hp0 ho hpm hs x3 x4 x5 hk
  go_enter Tryz.func185, Tryz.ntmps185
  go_wp2_with fail
  rw [← HW.out]
  go_quiet (fail)
  go_wp2_with fail
  go_ret
  exact ⟨rfl, _, RA.out _⟩
set_option maxHeartbeats 1000000 in
theorem qremove_any {w : World} {F : Nat → Prop} {qb room : Nat} {s : List M} (h : IsQ w F qb room s) (k : K) (hk : kwf k) :
  Calls Tryz.prog 180 #[.pointer (some ⟨qb, 0, none⟩), kv k] w fun e w' => e = .returned (.tuple #[mv (fnd s k), .bool (hasK s k)]) ∧ ∃ F2, IsQ w' F2 qb room (del s k) ∧ Step F F2 w w' := by
 have mixed : Tryz.prog.follows .mixedOrders = true := by kernel_rfl
 have h00 := h
 obtain ⟨pb, mb, v, d, c0, c1, hp, ho, hpm, hs, hq, hr, hl, rfl⟩ := h
 obtain ⟨W00, hW00⟩ : ∃ W00, W00 = w.alloc (.cells #[.int .i64 k.1, .int .i64 k.2.1, .int .i64 k.2.2] 37) := ⟨_, rfl⟩
 obtain ⟨W0, hW0⟩ : ∃ W0, W0 = W00.alloc zobj := ⟨_, rfl⟩
 have s00 : W00.heap.size = w.heap.size + 1 := by rw [hW00]; simp
 have s0 : W0.heap.size = w.heap.size + 2 := by rw [hW0]; simp [s00]
 have hb00 : Below w.heap.size w W00 := by rw [hW00]; exact (Below.refl _ _).alloc (Nat.le_refl _) _
 have hb0 : Below w.heap.size w W0 := by rw [hW0]; exact hb00.alloc hb00.size _
 have hp0 := hp.below hb0
 have c0' := (hb0.cell (p := ⟨qb, 0, none⟩) (cell_lt c0)).trans c0
 have c1' := (hb0.cell (p := ⟨qb, 1, none⟩) (cell_lt c1)).trans c1
 have p1' := hp0.c1
 have xc : ∀ j, j < 3 → W0.cell? ⟨w.heap.size, j, none⟩ = [Value.int .i64 k.1, .int .i64 k.2.1, .int .i64 k.2.2][j]? := fun j hj => by
  rw [hW0, World.cell?_alloc_lt _ _ _ (by simp [s00]), hW00]
  simp only [World.cell?, heap_alloc_new]
  simp
 obtain ⟨c, look, hci⟩ := hp0.map.look hk
 have hdec : decide (k ∈ d.map Prod.fst) = hasK s k := by
  have := hasK_perm hpm k
  cases e : hasK s k
  ·rw [decide_eq_false_iff_not, this, e]; simp
  ·rw [decide_eq_true_iff, this, e]
 rw [hdec] at look
 have x0 : W0.cell? ⟨w.heap.size, 0, none⟩ = some (.int .i64 k.1) := xc 0 (by omega)
 have x1 : W0.cell? ⟨w.heap.size, 1, none⟩ = some (.int .i64 k.2.1) := xc 1 (by omega)
 have x2 : W0.cell? ⟨w.heap.size, 2, none⟩ = some (.int .i64 k.2.2) := xc 2 (by omega)
 have zc : ∀ j, j < 6 → W0.cell? ⟨w.heap.size + 1, j, none⟩ = some (.int .i64 0) := fun j hj => by rw [hW0, ← s00]; exact zcell W00 j hj
 have zf : ∀ j, W0.frozen? ⟨w.heap.size + 1, j, none⟩ = false := fun j => by rw [hW0, ← s00]; exact zfrozen W00 j
 have HW : Hid (W0 = (w.alloc (.cells #[.int .i64 k.1, .int .i64 k.2.1, .int .i64 k.2.2] 37)).alloc zobj) := by rw [hW0, hW00]; rfl
 clear hW0 hW00 hdec xc
 have hbN : ∀ n, Below w.heap.size w (W0.drewN n) := fun n => ⟨hb0.os, hb0.tape, hb0.output, hb0.size, hb0.block⟩
 cases hkk : hasK s k
 ·rw [hkk] at look
  rw [fnd_none hkk, del_none hkk]
  have R : ∀ n, IsQ (W0.drewN n) (fun k => k = qb ∨ FP pb mb v k) qb room s ∧ Step (fun k => k = qb ∨ FP pb mb v k) (fun k => k = qb ∨ FP pb mb v k) w (W0.drewN n) := fun n => ⟨h00.below (hbN n), Fr.of_below (hbN n), fun k hk => .inl hk⟩
  have f6 := fun n b1 b2 b3 b4 b5 b6 => fr6 (W0.drewN n) (w.heap.size + 1) b1 b2 b3 b4 b5 b6
  have hlt := h00.lt
  have RA : Aside (∀ n b1 b2 b3 b4 b5 b6, IsQ (six (W0.drewN n) (w.heap.size + 1) b1 b2 b3 b4 b5 b6) (fun k => k = qb ∨ FP pb mb v k) qb room s ∧ Step (fun k => k = qb ∨ FP pb mb v k) (fun k => k = qb ∨ FP pb mb v k) w (six (W0.drewN n) (w.heap.size + 1) b1 b2 b3 b4 b5 b6)) := fun n b1 b2 b3 b4 b5 b6 =>
   ⟨(R n).1.keep (f6 n b1 b2 b3 b4 b5 b6) (fun k hk e => by have := hlt k hk; omega), (R n).2.out (by omega) (f6 n b1 b2 b3 b4 b5 b6)⟩
  have z0 := zc 0 (by omega)
  have z1 := zc 1 (by omega)
  have z2 := zc 2 (by omega)
  have z3 := zc 3 (by omega)
  have z4 := zc 4 (by omega)
  have z5 := zc 5 (by omega)
  clear R h00 hp hp0 ho hpm hs hkk hlt f6 zc
  go_enter Tryz.func180, Tryz.ntmps180
  go_wp2_with fail
  rw [← HW.out]
  go_quiet (fail)
  go_wp2_with fail
  exact bodyPost_ret (v := .tuple #[mv zeroM, .bool false]) (by simp [results, Tryz.results180, go_sem, z0, z1, z2, z3, z4, z5]) rfl ⟨rfl, _, RA.out _ _ _ _ _ _ _⟩
 ·rw [hkk] at look
  obtain ⟨i, hi, rfl, hik⟩ := hci ((hasK_perm hpm k).2 hkk)
  have hmem : nth d i ∈ s := hpm.mem_iff.1 (by rw [nth_get d i hi]; exact List.getElem_mem hi)
  have hfnd : fnd s k = nth d i := by rw [← hik]; exact fnd_of hs.nodup hmem
  have hlt : ∀ k, FP pb mb v k → k < w.heap.size := fun k hk => hp.lt k hk
  rw [hfnd]
  obtain ⟨x, hx⟩ : ∃ x, nth d i = x := ⟨_, rfl⟩
  have hB : ¬ FP pb mb v (w.heap.size + 1) := fun g => by have := hlt _ g; omega
  have H : ∀ n, Calls Tryz.prog 200 #[.iface 160 (.pointer (some ⟨pb, 0, none⟩)), .int .i64 i] (W0.drewN n) fun e w' => e = .returned (.iface 39 (mv x)) ∧ (∀ j, j < 6 → w'.cell? ⟨w.heap.size + 1, j, none⟩ = some (.int .i64 0)) ∧ (∀ j, w'.frozen? ⟨w.heap.size + 1, j, none⟩ = false) ∧
    ∃ F2, ∀ b1 b2 b3 b4 b5 b6, IsQ (six w' (w.heap.size + 1) b1 b2 b3 b4 b5 b6) F2 qb room (del s k) ∧ Step (fun k => k = qb ∨ FP pb mb v k) F2 w (six w' (w.heap.size + 1) b1 b2 b3 b4 b5 b6) := fun n => by
   rw [← hx]
   refine (hremove_any (hp.below (hbN n)) ho i hi).mono ?_
   rintro e w2 ⟨rfl, v', d', ha, hpd⟩
   have hW := hbN n
   have hpr := perm_remove hpd hpm hs
   rw [hik] at hpr
   obtain ⟨R1, R2⟩ := IsQ.after hW ((hW.cell (p := ⟨qb, 0, none⟩) (cell_lt c0)).trans c0) ((hW.cell (p := ⟨qb, 1, none⟩) (cell_lt c1)).trans c1) (cell_lt c0) hq ha hpr.1 (hs.del k) hr (by have := List.length_filter_le (fun x : M => decide (x.1 ≠ k)) s; unfold del; omega)
   have sN : (W0.drewN n).heap.size = w.heap.size + 2 := s0
   have nB : ∀ k, (k = qb ∨ FP pb mb v' k) → k ≠ w.heap.size + 1 := by
    rintro k (rfl | hk)
    ·have := cell_lt c0; omega
    ·rintro rfl
     rcases ha.2.2.2 _ hk with g | g
     ·exact hB g
     ·omega
   refine ⟨rfl, fun j hj => (ha.2.2.1.cell (p := ⟨w.heap.size + 1, j, none⟩) (by rw [sN]; show w.heap.size + 1 < w.heap.size + 2; omega) hB).trans (zc j hj), fun j => (ha.2.2.1.frozen (p := ⟨w.heap.size + 1, j, none⟩) (by rw [sN]; show w.heap.size + 1 < w.heap.size + 2; omega) hB).trans (zf j), (fun k => k = qb ∨ FP pb mb v' k), fun b1 b2 b3 b4 b5 b6 => ?_⟩
   have f6 := fr6 w2 (w.heap.size + 1) b1 b2 b3 b4 b5 b6
   exact ⟨R1.keep f6 nB, R2.out (by omega) f6⟩
  have HA : Aside _ := H
  have hta := fun w x => assert30 x w
  have q1 : ∀ n, (W0.drewN n).cell? ⟨qb, 1, none⟩ = some (.pointer (some ⟨pb, 0, none⟩)) := fun n => c1'
  rw [hx]
  clear H h00 hp hp0 ho hpm hs hkk hlt hmem hfnd hik hx zc zf hB
  obtain ⟨⟨a1, a2, a3⟩, a4, a5, a6⟩ := x
  go_enter Tryz.func180, Tryz.ntmps180
  go_wp2_with fail
  rw [← HW.out]
  go_quiet (fail)
  go_wp2_with fail
  refine (HA.out _).mono ?_
  rintro e w3 ⟨rfl, zc, zf, F2, hR⟩
  have RA : Aside _ := hR
  have z0 := zc 0 (by omega)
  have z1 := zc 1 (by omega)
  have z2 := zc 2 (by omega)
  have z3 := zc 3 (by omega)
  have z4 := zc 4 (by omega)
  have z5 := zc 5 (by omega)
  clear hR zc x0 x1 x2 look c0' c1' p1'
  go_wp2_with fail
  exact bodyPost_ret (v := .tuple #[mv ((a1, a2, a3), a4, a5, a6), .bool true]) (by simp [results, Tryz.results180, go_sem, z0, z1, z2, z3, z4, z5]) rfl ⟨rfl, _, RA.out _ _ _ _ _ _⟩
end Go.Proofs.YtiaopafkfadmkaaGreat.Q
