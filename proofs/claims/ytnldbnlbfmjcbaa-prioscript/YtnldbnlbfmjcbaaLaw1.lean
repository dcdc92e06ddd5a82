/- Proved: the queue's calls, as the laws use them, beside blocks that they must not touch. -/
import Derived.Test.YtnldbnlbfmjcbaaLaw0
namespace Go.Proofs.Ytnldbnlbfmjcbaa
open Go.RowKit Go.Sort
set_option linter.unusedVariables false

/-- A queue that the law has made, and blocks Z that are none of its own. -/
def LZ (w W : World) (Z : Nat → Prop) (qb room : Nat) (s : List M) : Prop := ∃ F, IsQ W F qb room s ∧ (∀ k, F k → w.heap.size ≤ k) ∧ Below w.heap.size w W ∧ ∀ k, Z k → ¬ F k ∧ k < W.heap.size
theorem LZ.q {w W : World} {Z : Nat → Prop} {qb room : Nat} {s : List M} (h : LZ w W Z qb room s) : LQ w W qb room s := by
  obtain ⟨F, h1, h2, h3, h4⟩ := h
  exact ⟨F, h1, h2, h3⟩
theorem LZ.bel {w W : World} {Z : Nat → Prop} {qb room : Nat} {s : List M} (h : LZ w W Z qb room s) : Below w.heap.size w W := h.q.bel
theorem LQ.z {w W : World} {qb room : Nat} {s : List M} (h : LQ w W qb room s) : LZ w W (fun _ => False) qb room s := by
  obtain ⟨F, h1, h2, h3⟩ := h
  exact ⟨F, h1, h2, h3, fun k g => g.elim⟩
theorem LZ.below {w W W2 : World} {Z : Nat → Prop} {qb room : Nat} {s : List M} (h : LZ w W Z qb room s) (hb : Below W.heap.size W W2) : LZ w W2 Z qb room s := by
  obtain ⟨F, h1, h2, h3, h4⟩ := h
  exact ⟨F, h1.below hb, h2, h3.trans (hb.mono h3.size), fun k hk => ⟨(h4 k hk).1, Nat.lt_of_lt_of_le (h4 k hk).2 hb.size⟩⟩
/-- A block that was just made is none of the queue's. -/
theorem LZ.more {w W : World} {Z : Nat → Prop} {qb room : Nat} {s : List M} (h : LZ w W Z qb room s) (o : Obj) : LZ w (W.alloc o) (fun k => Z k ∨ k = W.heap.size) qb room s := by
  obtain ⟨F, h1, h2, h3, h4⟩ := h
  have hb : Below W.heap.size W (W.alloc o) := (Below.refl _ _).alloc (Nat.le_refl _) _
  refine ⟨F, h1.below hb, h2, h3.trans (hb.mono h3.size), ?_⟩
  rintro k (hk | rfl)
  · exact ⟨(h4 k hk).1, by have := (h4 k hk).2; simp; omega⟩
  · exact ⟨fun e => by have := h1.lt _ e; omega, by simp⟩
theorem LZ.fewer {w W : World} {Z Z2 : Nat → Prop} {qb room : Nat} {s : List M} (h : LZ w W Z qb room s) (hz : ∀ k, Z2 k → Z k) : LZ w W Z2 qb room s := by
  obtain ⟨F, h1, h2, h3, h4⟩ := h
  exact ⟨F, h1, h2, h3, fun k hk => h4 k (hz k hk)⟩
theorem LZ.step {w W W2 : World} {Z F F2 : Nat → Prop} {qb room : Nat} {s2 : List M} (h2 : ∀ k, F k → w.heap.size ≤ k) (h3 : Below w.heap.size w W) (h4 : ∀ k, Z k → ¬ F k ∧ k < W.heap.size) (h : IsQ W2 F2 qb room s2) (hs : Step F F2 W W2) :
    LZ w W2 Z qb room s2 ∧ Fr (fun k => ¬ Z k) W W2 :=
  ⟨⟨F2, h, fun k hk => (hs.2 k hk).elim (h2 k) (fun g => Nat.le_trans h3.size g), h3.trans (hs.1.below h3.size h2), fun k hk => ⟨fun e => (hs.2 k e).elim (h4 k hk).1 (fun g => by have := (h4 k hk).2; omega), Nat.lt_of_lt_of_le (h4 k hk).2 hs.1.size⟩⟩, hs.1.wide (fun k hk e => (h4 k e).1 hk)⟩
theorem zpop {w W : World} {Z : Nat → Prop} {qb room : Nat} {s : List M} (h : LZ w W Z qb room s) : Calls Try.prog 15 #[.pointer (some ⟨qb, 0, none⟩)] W fun e w' => e = .returned (.tuple #[mv (s.headD zeroM), .bool (!s.isEmpty)]) ∧ LZ w w' Z qb room s.tail ∧ Fr (fun k => ¬ Z k) W w' := by
  obtain ⟨F, h1, h2, h3, h4⟩ := h
  exact (qpop_any h1).mono fun e w' ⟨he, F2, hq, hs⟩ => ⟨he, LZ.step h2 h3 h4 hq hs⟩
theorem zremove {w W : World} {Z : Nat → Prop} {qb room : Nat} {s : List M} (h : LZ w W Z qb room s) (k : K) (hk : kwf k) : Calls Try.prog 17 #[.pointer (some ⟨qb, 0, none⟩), kv k] W fun e w' => e = .returned (.tuple #[mv (fnd s k), .bool (hasK s k)]) ∧ LZ w w' Z qb room (del s k) ∧ Fr (fun k => ¬ Z k) W w' := by
  obtain ⟨F, h1, h2, h3, h4⟩ := h
  exact (qremove_any h1 k hk).mono fun e w' ⟨he, F2, hq, hs⟩ => ⟨he, LZ.step h2 h3 h4 hq hs⟩

/-- A queue that the law has made, the document's, and blocks Z that are none of theirs. -/
def LRZ (w W : World) (Z : Nat → Prop) (qb rb room : Nat) (s t : List M) : Prop := ∃ F G, IsQ W F qb room s ∧ IsR W G rb room t ∧ (∀ k, F k → ¬ G k) ∧ (∀ k, F k → w.heap.size ≤ k) ∧ (∀ k, G k → w.heap.size ≤ k) ∧ Below w.heap.size w W ∧ ∀ k, Z k → ¬ F k ∧ ¬ G k ∧ k < W.heap.size ∧ w.heap.size ≤ k
theorem LRZ.r {w W : World} {Z : Nat → Prop} {qb rb room : Nat} {s t : List M} (h : LRZ w W Z qb rb room s t) : LR w W qb room rb room s t := by
  obtain ⟨F, G, h1, h2, h3, h4, h5, h6, h7⟩ := h
  exact ⟨F, G, h1, h2, h3, h4, h5, h6⟩
theorem LRZ.bel {w W : World} {Z : Nat → Prop} {qb rb room : Nat} {s t : List M} (h : LRZ w W Z qb rb room s t) : Below w.heap.size w W := h.r.bel
theorem LR.rz {w W : World} {qb rb room : Nat} {s t : List M} (h : LR w W qb room rb room s t) : LRZ w W (fun _ => False) qb rb room s t := by
  obtain ⟨F, G, h1, h2, h3, h4, h5, h6⟩ := h
  exact ⟨F, G, h1, h2, h3, h4, h5, h6, fun k g => g.elim⟩
theorem LRZ.below {w W W2 : World} {Z : Nat → Prop} {qb rb room : Nat} {s t : List M} (h : LRZ w W Z qb rb room s t) (hb : Below W.heap.size W W2) : LRZ w W2 Z qb rb room s t := by
  obtain ⟨F, G, h1, h2, h3, h4, h5, h6, h7⟩ := h
  exact ⟨F, G, h1.below hb, h2.below hb, h3, h4, h5, h6.trans (hb.mono h6.size), fun k hk => ⟨(h7 k hk).1, (h7 k hk).2.1, Nat.lt_of_lt_of_le (h7 k hk).2.2.1 hb.size, (h7 k hk).2.2.2⟩⟩
theorem LRZ.more {w W : World} {Z : Nat → Prop} {qb rb room : Nat} {s t : List M} (h : LRZ w W Z qb rb room s t) (o : Obj) : LRZ w (W.alloc o) (fun k => Z k ∨ k = W.heap.size) qb rb room s t := by
  obtain ⟨F, G, h1, h2, h3, h4, h5, h6, h7⟩ := h
  have hb : Below W.heap.size W (W.alloc o) := (Below.refl _ _).alloc (Nat.le_refl _) _
  refine ⟨F, G, h1.below hb, h2.below hb, h3, h4, h5, h6.trans (hb.mono h6.size), ?_⟩
  rintro k (hk | rfl)
  · exact ⟨(h7 k hk).1, (h7 k hk).2.1, by have := (h7 k hk).2.2.1; simp; omega, (h7 k hk).2.2.2⟩
  · exact ⟨fun e => by have := h1.lt _ e; omega, fun e => by have := h2.lt _ e; omega, by simp, h6.size⟩
theorem LRZ.fewer {w W : World} {Z Z2 : Nat → Prop} {qb rb room : Nat} {s t : List M} (h : LRZ w W Z qb rb room s t) (hz : ∀ k, Z2 k → Z k) : LRZ w W Z2 qb rb room s t := by
  obtain ⟨F, G, h1, h2, h3, h4, h5, h6, h7⟩ := h
  exact ⟨F, G, h1, h2, h3, h4, h5, h6, fun k hk => h7 k (hz k hk)⟩
/-- One of the other blocks is written. -/
theorem LRZ.six {w W : World} {Z : Nat → Prop} {qb rb room : Nat} {s t : List M} (h : LRZ w W Z qb rb room s t) {B : Nat} (hB : Z B) (a1 a2 a3 a4 a5 a6 : Value) : LRZ w (six W B a1 a2 a3 a4 a5 a6) Z qb rb room s t := by
  obtain ⟨F, G, h1, h2, h3, h4, h5, h6, h7⟩ := h
  have f := fr6 W B a1 a2 a3 a4 a5 a6
  exact ⟨F, G, h1.keep f (fun k hk e => (h7 B hB).1 (e ▸ hk)), h2.keep f (fun k hk e => (h7 B hB).2.1 (e ▸ hk)), h3, h4, h5, h6.trans (f.below h6.size (fun i e => by rw [e]; exact (h7 B hB).2.2.2)), fun k hk => ⟨(h7 k hk).1, (h7 k hk).2.1, Nat.lt_of_lt_of_le (h7 k hk).2.2.1 f.size, (h7 k hk).2.2.2⟩⟩
theorem LRZ.stepQ {w W W2 : World} {Z F F2 G : Nat → Prop} {qb rb room : Nat} {s2 t : List M} (h2 : IsR W G rb room t) (h3 : ∀ k, F k → ¬ G k) (h4 : ∀ k, F k → w.heap.size ≤ k) (h5 : ∀ k, G k → w.heap.size ≤ k) (h6 : Below w.heap.size w W) (h7 : ∀ k, Z k → ¬ F k ∧ ¬ G k ∧ k < W.heap.size ∧ w.heap.size ≤ k)
    (h : IsQ W2 F2 qb room s2) (hs : Step F F2 W W2) : LRZ w W2 Z qb rb room s2 t ∧ Fr (fun k => ¬ Z k) W W2 :=
  ⟨⟨F2, G, h, h2.keep hs.1 (fun k hk e => h3 k e hk), fun k hk e => (hs.2 k hk).elim (fun g => h3 k g e) (fun g => by have := h2.lt k e; omega), fun k hk => (hs.2 k hk).elim (h4 k) (fun g => Nat.le_trans h6.size g), h5, h6.trans (hs.1.below h6.size h4),
    fun k hk => ⟨fun e => (hs.2 k e).elim (h7 k hk).1 (fun g => by have := (h7 k hk).2.2.1; omega), (h7 k hk).2.1, Nat.lt_of_lt_of_le (h7 k hk).2.2.1 hs.1.size, (h7 k hk).2.2.2⟩⟩, hs.1.wide (fun k hk e => (h7 k e).1 hk)⟩
theorem LRZ.stepR {w W W2 : World} {Z F G2 G : Nat → Prop} {qb rb room : Nat} {s t2 : List M} (h1 : IsQ W F qb room s) (h3 : ∀ k, F k → ¬ G k) (h4 : ∀ k, F k → w.heap.size ≤ k) (h5 : ∀ k, G k → w.heap.size ≤ k) (h6 : Below w.heap.size w W) (h7 : ∀ k, Z k → ¬ F k ∧ ¬ G k ∧ k < W.heap.size ∧ w.heap.size ≤ k)
    (h : IsR W2 G2 rb room t2) (hs : Step G G2 W W2) : LRZ w W2 Z qb rb room s t2 ∧ Fr (fun k => ¬ Z k) W W2 :=
  ⟨⟨F, G2, h1.keep hs.1 (fun k hk e => h3 k hk e), h, fun k hk e => (hs.2 k e).elim (fun g => h3 k hk g) (fun g => by have := h1.lt k hk; omega), h4, fun k hk => (hs.2 k hk).elim (h5 k) (fun g => Nat.le_trans h6.size g), h6.trans (hs.1.below h6.size h5),
    fun k hk => ⟨(h7 k hk).1, fun e => (hs.2 k e).elim (h7 k hk).2.1 (fun g => by have := (h7 k hk).2.2.1; omega), Nat.lt_of_lt_of_le (h7 k hk).2.2.1 hs.1.size, (h7 k hk).2.2.2⟩⟩, hs.1.wide (fun k hk e => (h7 k e).2.1 hk)⟩
theorem zpq {w W : World} {Z : Nat → Prop} {qb rb room : Nat} {s t : List M} (h : LRZ w W Z qb rb room s t) (m : M) (hm : mwf m) : Calls Try.prog 11 #[.pointer (some ⟨qb, 0, none⟩), mv m] W fun e w' => e = .returned (.int .i64 (pushC s room m)) ∧ LRZ w w' Z qb rb room (pushS s room m) t ∧ Fr (fun k => ¬ Z k) W w' := by
  obtain ⟨F, G, h1, h2, h3, h4, h5, h6, h7⟩ := h
  exact (qpush_any h1 m hm).mono fun e w' ⟨he, F2, hq, hs⟩ => ⟨he, LRZ.stepQ h2 h3 h4 h5 h6 h7 hq hs⟩
theorem zpr {w W : World} {Z : Nat → Prop} {qb rb room : Nat} {s t : List M} (h : LRZ w W Z qb rb room s t) (m : M) : Calls Try.prog 12 #[.pointer (some ⟨rb, 0, none⟩), mv m] W fun e w' => e = .returned (.int .i64 (pushC t room m)) ∧ LRZ w w' Z qb rb room s (pushS t room m) ∧ Fr (fun k => ¬ Z k) W w' := by
  obtain ⟨F, G, h1, h2, h3, h4, h5, h6, h7⟩ := h
  exact (rpush_any h2 m).mono fun e w' ⟨he, F2, hq, hs⟩ => ⟨he, LRZ.stepR h1 h3 h4 h5 h6 h7 hq hs⟩
theorem zoq {w W : World} {Z : Nat → Prop} {qb rb room : Nat} {s t : List M} (h : LRZ w W Z qb rb room s t) : Calls Try.prog 15 #[.pointer (some ⟨qb, 0, none⟩)] W fun e w' => e = .returned (.tuple #[mv (s.headD zeroM), .bool (!s.isEmpty)]) ∧ LRZ w w' Z qb rb room s.tail t ∧ Fr (fun k => ¬ Z k) W w' := by
  obtain ⟨F, G, h1, h2, h3, h4, h5, h6, h7⟩ := h
  exact (qpop_any h1).mono fun e w' ⟨he, F2, hq, hs⟩ => ⟨he, LRZ.stepQ h2 h3 h4 h5 h6 h7 hq hs⟩
theorem zor {w W : World} {Z : Nat → Prop} {qb rb room : Nat} {s t : List M} (h : LRZ w W Z qb rb room s t) : Calls Try.prog 16 #[.pointer (some ⟨rb, 0, none⟩)] W fun e w' => e = .returned (.tuple #[mv (t.headD zeroM), .bool (!t.isEmpty)]) ∧ LRZ w w' Z qb rb room s t.tail ∧ Fr (fun k => ¬ Z k) W w' := by
  obtain ⟨F, G, h1, h2, h3, h4, h5, h6, h7⟩ := h
  exact (rpop_any h2).mono fun e w' ⟨he, F2, hq, hs⟩ => ⟨he, LRZ.stepR h1 h3 h4 h5 h6 h7 hq hs⟩
theorem zdq {w W : World} {Z : Nat → Prop} {qb rb room : Nat} {s t : List M} (h : LRZ w W Z qb rb room s t) (k : K) (hk : kwf k) : Calls Try.prog 17 #[.pointer (some ⟨qb, 0, none⟩), kv k] W fun e w' => e = .returned (.tuple #[mv (fnd s k), .bool (hasK s k)]) ∧ LRZ w w' Z qb rb room (del s k) t ∧ Fr (fun k => ¬ Z k) W w' := by
  obtain ⟨F, G, h1, h2, h3, h4, h5, h6, h7⟩ := h
  exact (qremove_any h1 k hk).mono fun e w' ⟨he, F2, hq, hs⟩ => ⟨he, LRZ.stepQ h2 h3 h4 h5 h6 h7 hq hs⟩
theorem zdr {w W : World} {Z : Nat → Prop} {qb rb room : Nat} {s t : List M} (h : LRZ w W Z qb rb room s t) (k : K) : Calls Try.prog 18 #[.pointer (some ⟨rb, 0, none⟩), kv k] W fun e w' => e = .returned (.tuple #[mv (fnd t k), .bool (hasK t k)]) ∧ LRZ w w' Z qb rb room s (del t k) ∧ Fr (fun k => ¬ Z k) W w' := by
  obtain ⟨F, G, h1, h2, h3, h4, h5, h6, h7⟩ := h
  exact (rremove_any h2 k.1 k.2.1 k.2.2).mono fun e w' ⟨he, F2, hq, hs⟩ => ⟨he, LRZ.stepR h1 h3 h4 h5 h6 h7 hq hs⟩
/-- A message in a block of its own. -/
def BoxM (W : World) (B : Nat) (m : M) : Prop := (∀ j, j < 6 → W.cell? ⟨B, j, none⟩ = (enc m)[j]?) ∧ ∀ j, W.frozen? ⟨B, j, none⟩ = false
theorem BoxM.cells {W : World} {B : Nat} {m : M} (h : BoxM W B m) : W.cell? ⟨B, 0, none⟩ = some (.int .i64 m.1.1) ∧ W.cell? ⟨B, 1, none⟩ = some (.int .i64 m.1.2.1) ∧ W.cell? ⟨B, 2, none⟩ = some (.int .i64 m.1.2.2) ∧ W.cell? ⟨B, 3, none⟩ = some (.int .i64 m.2.1) ∧ W.cell? ⟨B, 4, none⟩ = some (.int .i64 m.2.2.1) ∧ W.cell? ⟨B, 5, none⟩ = some (.int .i64 m.2.2.2) :=
  ⟨h.1 0 (by omega), h.1 1 (by omega), h.1 2 (by omega), h.1 3 (by omega), h.1 4 (by omega), h.1 5 (by omega)⟩
theorem BoxM.lt {W : World} {B : Nat} {m : M} (h : BoxM W B m) : B < W.heap.size := cell_lt h.cells.1
theorem BoxM.made (W : World) (m : M) : BoxM (W.alloc (.cells #[.int .i64 m.1.1, .int .i64 m.1.2.1, .int .i64 m.1.2.2, .int .i64 m.2.1, .int .i64 m.2.2.1, .int .i64 m.2.2.2] 30)) W.heap.size m := by
  refine ⟨fun j hj => ?_, fun j => ?_⟩
  · simp only [World.cell?, heap_alloc_new]
    simp [enc]
  · unfold World.frozen?
    rw [heap_alloc_new]
    simp
theorem BoxM.keep {S : Nat → Prop} {W W2 : World} {B : Nat} {m : M} (h : BoxM W B m) (hf : Fr S W W2) (hS : ¬ S B) : BoxM W2 B m :=
  ⟨fun j hj => (hf.cell (p := ⟨B, j, none⟩) h.lt hS).trans (h.1 j hj), fun j => (hf.frozen (p := ⟨B, j, none⟩) h.lt hS).trans (h.2 j)⟩
theorem BoxM.below {W W2 : World} {B : Nat} {m : M} (h : BoxM W B m) (hb : Below W.heap.size W W2) : BoxM W2 B m := h.keep (S := fun _ => False) (Fr.of_below hb) (fun g => g)
theorem BoxM.put {W : World} {B : Nat} {m : M} (h : BoxM W B m) (x : M) : BoxM (six W B (.int .i64 x.1.1) (.int .i64 x.1.2.1) (.int .i64 x.1.2.2) (.int .i64 x.2.1) (.int .i64 x.2.2.1) (.int .i64 x.2.2.2)) B x := by
  obtain ⟨z0, z1, z2, z3, z4, z5⟩ := h.cells
  refine ⟨fun j hj => ?_, fun j => ?_⟩
  · match j, hj with
    | 0, _ => show _ = some (Value.int .i64 x.1.1); go_simp
    | 1, _ => show _ = some (Value.int .i64 x.1.2.1); go_simp
    | 2, _ => show _ = some (Value.int .i64 x.1.2.2); go_simp
    | 3, _ => show _ = some (Value.int .i64 x.2.1); go_simp
    | 4, _ => show _ = some (Value.int .i64 x.2.2.1); go_simp
    | 5, _ => show _ = some (Value.int .i64 x.2.2.2); go_simp
  · simp only [World.frozen?_setCell]; exact h.2 j
end Go.Proofs.Ytnldbnlbfmjcbaa
