/- Proved: the queue's calls, as the laws use them: a queue that the law itself has made, alone, beside a slice of its own, beside the document's queue. -/
import Derived.Test.YtnldbnlbfmjcbaaOpen
namespace Go.Proofs.Ytnldbnlbfmjcbaa
open Go.RowKit Go.Sort
set_option linter.unusedVariables false

def pushC (s : List M) (room : Nat) (m : M) : Int := if hasK s m.1 = true then 3 else if room ≤ s.length then 2 else 0
def pushS (s : List M) (room : Nat) (m : M) : List M := if hasK s m.1 = true then s else if room ≤ s.length then s else ins s m

/-! ### A queue alone -/
def LQ (w W : World) (qb room : Nat) (s : List M) : Prop := ∃ F, IsQ W F qb room s ∧ (∀ k, F k → w.heap.size ≤ k) ∧ Below w.heap.size w W
theorem LQ.step {w W W2 : World} {F F2 : Nat → Prop} {qb room : Nat} {s2 : List M} (hF : ∀ k, F k → w.heap.size ≤ k) (hb : Below w.heap.size w W) (h : IsQ W2 F2 qb room s2) (hs : Step F F2 W W2) : LQ w W2 qb room s2 :=
  ⟨F2, h, fun k hk => (hs.2 k hk).elim (hF k) (fun g => Nat.le_trans hb.size g), hb.trans (hs.1.below hb.size hF)⟩
theorem LQ.below {w W W2 : World} {qb room : Nat} {s : List M} (h : LQ w W qb room s) (hb : Below W.heap.size W W2) : LQ w W2 qb room s := by
  obtain ⟨F, h1, h2, h3⟩ := h
  exact ⟨F, h1.below hb, h2, h3.trans (hb.mono h3.size)⟩
theorem LQ.bel {w W : World} {qb room : Nat} {s : List M} (h : LQ w W qb room s) : Below w.heap.size w W := by
  obtain ⟨F, h1, h2, h3⟩ := h
  exact h3
theorem LQ.srt {w W : World} {qb room : Nat} {s : List M} (h : LQ w W qb room s) : Srt s ∧ room ≤ 64 ∧ s.length ≤ room ∧ ∀ m ∈ s, mwf m := by
  obtain ⟨F, h1, h2, h3⟩ := h
  exact h1.srt
theorem lnew {w W : World} (r : Int) (hr : i64 r) (hb : Below w.heap.size w W) : Calls Try.prog 9 #[.int .i64 r] W fun e w' => ∃ qb, e = .returned (.pointer (some ⟨qb, 0, none⟩)) ∧ LQ w w' qb (clampR r) [] ∧ Below W.heap.size W w' :=
  (new_any r W hr).mono fun e w' ⟨qb, F, he, hq, hF, hb'⟩ => ⟨qb, he, ⟨F, hq, fun k hk => Nat.le_trans hb.size (hF k hk), hb.trans (hb'.mono hb.size)⟩, hb'⟩
theorem lpush {w W : World} {qb room : Nat} {s : List M} (h : LQ w W qb room s) (m : M) (hm : mwf m) : Calls Try.prog 11 #[.pointer (some ⟨qb, 0, none⟩), mv m] W fun e w' => e = .returned (.int .i64 (pushC s room m)) ∧ LQ w w' qb room (pushS s room m) := by
  obtain ⟨F, h1, h2, h3⟩ := h
  exact (qpush_any h1 m hm).mono fun e w' ⟨he, F2, hq, hs⟩ => ⟨he, LQ.step h2 h3 hq hs⟩
theorem lpop {w W : World} {qb room : Nat} {s : List M} (h : LQ w W qb room s) : Calls Try.prog 15 #[.pointer (some ⟨qb, 0, none⟩)] W fun e w' => e = .returned (.tuple #[mv (s.headD zeroM), .bool (!s.isEmpty)]) ∧ LQ w w' qb room s.tail := by
  obtain ⟨F, h1, h2, h3⟩ := h
  exact (qpop_any h1).mono fun e w' ⟨he, F2, hq, hs⟩ => ⟨he, LQ.step h2 h3 hq hs⟩
theorem lfirst {w W : World} {qb room : Nat} {s : List M} (h : LQ w W qb room s) : Calls Try.prog 13 #[.pointer (some ⟨qb, 0, none⟩)] W fun e w' => e = .returned (.tuple #[mv (s.headD zeroM), .bool (!s.isEmpty)]) ∧ LQ w w' qb room s ∧ Below W.heap.size W w' := by
  have h0 := h
  obtain ⟨F, h1, h2, h3⟩ := h
  exact (first_any h1).mono fun e w' ⟨he, hb⟩ => ⟨he, h0.below hb, hb⟩
theorem llen {w W : World} {qb room : Nat} {s : List M} (h : LQ w W qb room s) : Calls Try.prog 22 #[.pointer (some ⟨qb, 0, none⟩)] W fun e w' => e = .returned (.int .i64 s.length) ∧ w' = W := by
  obtain ⟨F, h1, h2, h3⟩ := h
  exact qlen_any h1
theorem llist {w W : World} {qb room : Nat} {s : List M} (h : LQ w W qb room s) : Calls Try.prog 24 #[.pointer (some ⟨qb, 0, none⟩)] W fun e w' => ∃ a cap, e = .returned (.slice a s.length cap) ∧ Own w' (.slice a s.length cap) s ∧ LQ w w' qb room s ∧ Below W.heap.size W w' := by
  have h0 := h
  obtain ⟨F, h1, h2, h3⟩ := h
  refine (list_any h1).mono fun e w' ⟨v, he, ho, _, hb⟩ => ?_
  obtain ⟨a, cap, rfl, _⟩ := ho.rd
  exact ⟨a, cap, he, ho, h0.below hb, hb⟩
theorem lbelow {w W : World} {qb room : Nat} {s : List M} (h : LQ w W qb room s) (t : Int) : Calls Try.prog 20 #[.pointer (some ⟨qb, 0, none⟩), .int .i64 t] W fun e w' => ∃ a cap, e = .returned (.slice a (low s t).length cap) ∧ Own w' (.slice a (low s t).length cap) (low s t) ∧ LQ w w' qb room s ∧ Below W.heap.size W w' := by
  have h0 := h
  obtain ⟨F, h1, h2, h3⟩ := h
  refine (qbelow_any h1 t).mono fun e w' ⟨v, he, ho, _, hb⟩ => ?_
  obtain ⟨a, cap, rfl, _⟩ := ho.rd
  exact ⟨a, cap, he, ho, h0.below hb, hb⟩

/-! ### A queue beside a slice of the law's own -/
def LW (w W : World) (qb room : Nat) (s : List M) (v : Value) (l : List M) : Prop := ∃ F, IsQ W F qb room s ∧ (∀ k, F k → w.heap.size ≤ k) ∧ Below w.heap.size w W ∧ Own W v l ∧ ∀ g, v.ownBlock = some g → ¬ F g
theorem LW.q {w W : World} {qb room : Nat} {s l : List M} {v : Value} (h : LW w W qb room s v l) : LQ w W qb room s := by
  obtain ⟨F, h1, h2, h3, h4, h5⟩ := h
  exact ⟨F, h1, h2, h3⟩
theorem LW.own {w W : World} {qb room : Nat} {s l : List M} {v : Value} (h : LW w W qb room s v l) : Own W v l := by
  obtain ⟨F, h1, h2, h3, h4, h5⟩ := h
  exact h4
theorem LW.below {w W W2 : World} {qb room : Nat} {s l : List M} {v : Value} (h : LW w W qb room s v l) (hb : Below W.heap.size W W2) : LW w W2 qb room s v l := by
  obtain ⟨F, h1, h2, h3, h4, h5⟩ := h
  exact ⟨F, h1.below hb, h2, h3.trans (hb.mono h3.size), h4.keep (S := fun _ => False) (Fr.of_below hb) (fun _ _ g => g), h5⟩
theorem LW.step {w W W2 : World} {F F2 : Nat → Prop} {qb room : Nat} {s2 l : List M} {v : Value} (hF : ∀ k, F k → w.heap.size ≤ k) (hb : Below w.heap.size w W) (ho : Own W v l) (hd : ∀ g, v.ownBlock = some g → ¬ F g) (h : IsQ W2 F2 qb room s2) (hs : Step F F2 W W2) : LW w W2 qb room s2 v l :=
  ⟨F2, h, fun k hk => (hs.2 k hk).elim (hF k) (fun g => Nat.le_trans hb.size g), hb.trans (hs.1.below hb.size hF), ho.keep hs.1 hd, fun g hg e => (hs.2 g e).elim (hd g hg) (fun e2 => by have := ho.lt hg; omega)⟩
/-- Another slice in the place of the first. -/
theorem LW.other {w W W2 : World} {qb room : Nat} {s l l2 : List M} {v v2 : Value} (h : LW w W qb room s v l) (hb : Below W.heap.size W W2) (ho : Own W2 v2 l2) (hblk : ∀ g, v2.ownBlock = some g → W.heap.size ≤ g) : LW w W2 qb room s v2 l2 := by
  obtain ⟨F, h1, h2, h3, h4, h5⟩ := h
  exact ⟨F, h1.below hb, h2, h3.trans (hb.mono h3.size), ho, fun g hg e => by have := h1.lt g e; have := hblk g hg; omega⟩
theorem LQ.with {w W W2 : World} {qb room : Nat} {s l2 : List M} {v2 : Value} (h : LQ w W qb room s) (hb : Below W.heap.size W W2) (ho : Own W2 v2 l2) (hblk : ∀ g, v2.ownBlock = some g → W.heap.size ≤ g) : LW w W2 qb room s v2 l2 := by
  obtain ⟨F, h1, h2, h3⟩ := h
  exact ⟨F, h1.below hb, h2, h3.trans (hb.mono h3.size), ho, fun g hg e => by have := h1.lt g e; have := hblk g hg; omega⟩
theorem wpush {w W : World} {qb room : Nat} {s l : List M} {v : Value} (h : LW w W qb room s v l) (m : M) (hm : mwf m) : Calls Try.prog 11 #[.pointer (some ⟨qb, 0, none⟩), mv m] W fun e w' => e = .returned (.int .i64 (pushC s room m)) ∧ LW w w' qb room (pushS s room m) v l := by
  obtain ⟨F, h1, h2, h3, h4, h5⟩ := h
  exact (qpush_any h1 m hm).mono fun e w' ⟨he, F2, hq, hs⟩ => ⟨he, LW.step h2 h3 h4 h5 hq hs⟩
theorem wremove {w W : World} {qb room : Nat} {s l : List M} {v : Value} (h : LW w W qb room s v l) (k : K) (hk : kwf k) : Calls Try.prog 17 #[.pointer (some ⟨qb, 0, none⟩), kv k] W fun e w' => e = .returned (.tuple #[mv (fnd s k), .bool (hasK s k)]) ∧ LW w w' qb room (del s k) v l := by
  obtain ⟨F, h1, h2, h3, h4, h5⟩ := h
  exact (qremove_any h1 k hk).mono fun e w' ⟨he, F2, hq, hs⟩ => ⟨he, LW.step h2 h3 h4 h5 hq hs⟩
theorem winsert {w W : World} {qb room : Nat} {s l : List M} {v : Value} (h : LW w W qb room s v l) (hlen : l.length ≤ 1000) (m : M) : Calls Try.prog 27 #[v, mv m] W fun e w' => ∃ a cap, e = .returned (.slice a (l.length + 1) cap) ∧ LW w w' qb room s (.slice a (l.length + 1) cap) (ins l m) := by
  refine (insert_any h.own hlen m).mono fun e w' ⟨v', he, ho, hblk, hb⟩ => ?_
  obtain ⟨a, cap, rfl, _⟩ := ho.rd
  have hl := ins_len l m
  rw [hl] at he ho hblk
  exact ⟨a, cap, he, h.other hb ho hblk⟩
theorem wwithout {w W : World} {qb room : Nat} {s l : List M} {v : Value} (h : LW w W qb room s v l) (hlen : l.length ≤ 1000) (k1 k2 k3 : Int) : Calls Try.prog 28 #[v, .agg #[.int .i64 k1, .int .i64 k2, .int .i64 k3]] W fun e w' => ∃ a cap, e = .returned (.slice a (del l (k1, k2, k3)).length cap) ∧ LW w w' qb room s (.slice a (del l (k1, k2, k3)).length cap) (del l (k1, k2, k3)) := by
  refine (without_any h.own hlen k1 k2 k3).mono fun e w' ⟨v', he, ho, hblk, hb⟩ => ?_
  obtain ⟨a, cap, rfl, _⟩ := ho.rd
  exact ⟨a, cap, he, h.other hb ho hblk⟩

/-! ### A queue beside the document's -/
def LR (w W : World) (qb room rb room2 : Nat) (s t : List M) : Prop := ∃ F G, IsQ W F qb room s ∧ IsR W G rb room2 t ∧ (∀ k, F k → ¬ G k) ∧ (∀ k, F k → w.heap.size ≤ k) ∧ (∀ k, G k → w.heap.size ≤ k) ∧ Below w.heap.size w W
theorem LR.below {w W W2 : World} {qb room rb room2 : Nat} {s t : List M} (h : LR w W qb room rb room2 s t) (hb : Below W.heap.size W W2) : LR w W2 qb room rb room2 s t := by
  obtain ⟨F, G, h1, h2, h3, h4, h5, h6⟩ := h
  exact ⟨F, G, h1.below hb, h2.below hb, h3, h4, h5, h6.trans (hb.mono h6.size)⟩
theorem LR.bel {w W : World} {qb room rb room2 : Nat} {s t : List M} (h : LR w W qb room rb room2 s t) : Below w.heap.size w W := by
  obtain ⟨F, G, h1, h2, h3, h4, h5, h6⟩ := h
  exact h6
theorem LR.srt {w W : World} {qb room rb room2 : Nat} {s t : List M} (h : LR w W qb room rb room2 s t) : Srt s ∧ room ≤ 64 ∧ s.length ≤ room ∧ ∀ m ∈ s, mwf m := by
  obtain ⟨F, G, h1, h2, h3, h4, h5, h6⟩ := h
  exact h1.srt
theorem LR.stepQ {w W W2 : World} {F F2 G : Nat → Prop} {qb room rb room2 : Nat} {s2 t : List M} (h2 : IsR W G rb room2 t) (h3 : ∀ k, F k → ¬ G k) (h4 : ∀ k, F k → w.heap.size ≤ k) (h5 : ∀ k, G k → w.heap.size ≤ k) (h6 : Below w.heap.size w W)
    (h : IsQ W2 F2 qb room s2) (hs : Step F F2 W W2) : LR w W2 qb room rb room2 s2 t :=
  ⟨F2, G, h, h2.keep hs.1 (fun k hk e => h3 k e hk), fun k hk e => (hs.2 k hk).elim (fun g => h3 k g e) (fun g => by have := h2.lt k e; omega), fun k hk => (hs.2 k hk).elim (h4 k) (fun g => Nat.le_trans h6.size g), h5, h6.trans (hs.1.below h6.size h4)⟩
theorem LR.stepR {w W W2 : World} {F G2 G : Nat → Prop} {qb room rb room2 : Nat} {s t2 : List M} (h1 : IsQ W F qb room s) (h3 : ∀ k, F k → ¬ G k) (h4 : ∀ k, F k → w.heap.size ≤ k) (h5 : ∀ k, G k → w.heap.size ≤ k) (h6 : Below w.heap.size w W)
    (h : IsR W2 G2 rb room2 t2) (hs : Step G G2 W W2) : LR w W2 qb room rb room2 s t2 :=
  ⟨F, G2, h1.keep hs.1 (fun k hk e => h3 k hk e), h, fun k hk e => (hs.2 k e).elim (fun g => h3 k hk g) (fun g => by have := h1.lt k hk; omega), h4, fun k hk => (hs.2 k hk).elim (h5 k) (fun g => Nat.le_trans h6.size g), h6.trans (hs.1.below h6.size h5)⟩
theorem rnew {w W : World} {qb room : Nat} {s : List M} (h : LQ w W qb room s) (r : Int) (hr : i64 r) : Calls Try.prog 10 #[.int .i64 r] W fun e w' => ∃ rb, e = .returned (.pointer (some ⟨rb, 0, none⟩)) ∧ LR w w' qb room rb (clampR r) s [] := by
  obtain ⟨F, h1, h2, h3⟩ := h
  exact (rnew_any r W hr).mono fun e w' ⟨rb, G, he, hq, hG, hb'⟩ => ⟨rb, he, F, G, h1.below hb', hq, fun k hk e => by have := h1.lt k hk; have := hG k e; omega, h2, fun k hk => Nat.le_trans h3.size (hG k hk), h3.trans (hb'.mono h3.size)⟩
theorem pq {w W : World} {qb room rb room2 : Nat} {s t : List M} (h : LR w W qb room rb room2 s t) (m : M) (hm : mwf m) : Calls Try.prog 11 #[.pointer (some ⟨qb, 0, none⟩), mv m] W fun e w' => e = .returned (.int .i64 (pushC s room m)) ∧ LR w w' qb room rb room2 (pushS s room m) t := by
  obtain ⟨F, G, h1, h2, h3, h4, h5, h6⟩ := h
  exact (qpush_any h1 m hm).mono fun e w' ⟨he, F2, hq, hs⟩ => ⟨he, LR.stepQ h2 h3 h4 h5 h6 hq hs⟩
theorem pr {w W : World} {qb room rb room2 : Nat} {s t : List M} (h : LR w W qb room rb room2 s t) (m : M) : Calls Try.prog 12 #[.pointer (some ⟨rb, 0, none⟩), mv m] W fun e w' => e = .returned (.int .i64 (pushC t room2 m)) ∧ LR w w' qb room rb room2 s (pushS t room2 m) := by
  obtain ⟨F, G, h1, h2, h3, h4, h5, h6⟩ := h
  exact (rpush_any h2 m).mono fun e w' ⟨he, F2, hq, hs⟩ => ⟨he, LR.stepR h1 h3 h4 h5 h6 hq hs⟩
theorem oq {w W : World} {qb room rb room2 : Nat} {s t : List M} (h : LR w W qb room rb room2 s t) : Calls Try.prog 15 #[.pointer (some ⟨qb, 0, none⟩)] W fun e w' => e = .returned (.tuple #[mv (s.headD zeroM), .bool (!s.isEmpty)]) ∧ LR w w' qb room rb room2 s.tail t := by
  obtain ⟨F, G, h1, h2, h3, h4, h5, h6⟩ := h
  exact (qpop_any h1).mono fun e w' ⟨he, F2, hq, hs⟩ => ⟨he, LR.stepQ h2 h3 h4 h5 h6 hq hs⟩
theorem orr {w W : World} {qb room rb room2 : Nat} {s t : List M} (h : LR w W qb room rb room2 s t) : Calls Try.prog 16 #[.pointer (some ⟨rb, 0, none⟩)] W fun e w' => e = .returned (.tuple #[mv (t.headD zeroM), .bool (!t.isEmpty)]) ∧ LR w w' qb room rb room2 s t.tail := by
  obtain ⟨F, G, h1, h2, h3, h4, h5, h6⟩ := h
  exact (rpop_any h2).mono fun e w' ⟨he, F2, hq, hs⟩ => ⟨he, LR.stepR h1 h3 h4 h5 h6 hq hs⟩
theorem fq {w W : World} {qb room rb room2 : Nat} {s t : List M} (h : LR w W qb room rb room2 s t) : Calls Try.prog 13 #[.pointer (some ⟨qb, 0, none⟩)] W fun e w' => e = .returned (.tuple #[mv (s.headD zeroM), .bool (!s.isEmpty)]) ∧ LR w w' qb room rb room2 s t := by
  have h0 := h
  obtain ⟨F, G, h1, h2, h3, h4, h5, h6⟩ := h
  exact (first_any h1).mono fun e w' ⟨he, hb⟩ => ⟨he, h0.below hb⟩
theorem fr {w W : World} {qb room rb room2 : Nat} {s t : List M} (h : LR w W qb room rb room2 s t) : Calls Try.prog 14 #[.pointer (some ⟨rb, 0, none⟩)] W fun e w' => e = .returned (.tuple #[mv (t.headD zeroM), .bool (!t.isEmpty)]) ∧ LR w w' qb room rb room2 s t := by
  have h0 := h
  obtain ⟨F, G, h1, h2, h3, h4, h5, h6⟩ := h
  exact (rfirst_any h2).mono fun e w' ⟨he, hb⟩ => ⟨he, h0.below hb⟩
theorem dq {w W : World} {qb room rb room2 : Nat} {s t : List M} (h : LR w W qb room rb room2 s t) (k : K) (hk : kwf k) : Calls Try.prog 17 #[.pointer (some ⟨qb, 0, none⟩), kv k] W fun e w' => e = .returned (.tuple #[mv (fnd s k), .bool (hasK s k)]) ∧ LR w w' qb room rb room2 (del s k) t := by
  obtain ⟨F, G, h1, h2, h3, h4, h5, h6⟩ := h
  exact (qremove_any h1 k hk).mono fun e w' ⟨he, F2, hq, hs⟩ => ⟨he, LR.stepQ h2 h3 h4 h5 h6 hq hs⟩
theorem dr {w W : World} {qb room rb room2 : Nat} {s t : List M} (h : LR w W qb room rb room2 s t) (k : K) : Calls Try.prog 18 #[.pointer (some ⟨rb, 0, none⟩), kv k] W fun e w' => e = .returned (.tuple #[mv (fnd t k), .bool (hasK t k)]) ∧ LR w w' qb room rb room2 s (del t k) := by
  obtain ⟨F, G, h1, h2, h3, h4, h5, h6⟩ := h
  exact (rremove_any h2 k.1 k.2.1 k.2.2).mono fun e w' ⟨he, F2, hq, hs⟩ => ⟨he, LR.stepR h1 h3 h4 h5 h6 hq hs⟩
theorem nq {w W : World} {qb room rb room2 : Nat} {s t : List M} (h : LR w W qb room rb room2 s t) : Calls Try.prog 22 #[.pointer (some ⟨qb, 0, none⟩)] W fun e w' => e = .returned (.int .i64 s.length) ∧ w' = W := by
  obtain ⟨F, G, h1, h2, h3, h4, h5, h6⟩ := h
  exact qlen_any h1
theorem nr {w W : World} {qb room rb room2 : Nat} {s t : List M} (h : LR w W qb room rb room2 s t) : Calls Try.prog 23 #[.pointer (some ⟨rb, 0, none⟩)] W fun e w' => e = .returned (.int .i64 t.length) ∧ w' = W := by
  obtain ⟨F, G, h1, h2, h3, h4, h5, h6⟩ := h
  exact rlen_any h2
theorem lq {w W : World} {qb room rb room2 : Nat} {s t : List M} (h : LR w W qb room rb room2 s t) : Calls Try.prog 24 #[.pointer (some ⟨qb, 0, none⟩)] W fun e w' => ∃ a cap, e = .returned (.slice a s.length cap) ∧ Own w' (.slice a s.length cap) s ∧ Below W.heap.size W w' := by
  obtain ⟨F, G, h1, h2, h3, h4, h5, h6⟩ := h
  refine (list_any h1).mono fun e w' ⟨v, he, ho, _, hb⟩ => ?_
  obtain ⟨a, cap, rfl, _⟩ := ho.rd
  exact ⟨a, cap, he, ho, hb⟩
theorem lr {w W : World} {qb room rb room2 : Nat} {s t : List M} (h : LR w W qb room rb room2 s t) : Calls Try.prog 25 #[.pointer (some ⟨rb, 0, none⟩)] W fun e w' => ∃ a cap, e = .returned (.slice a t.length cap) ∧ Own w' (.slice a t.length cap) t ∧ Below W.heap.size W w' := by
  obtain ⟨F, G, h1, h2, h3, h4, h5, h6⟩ := h
  refine (rlist_any h2).mono fun e w' ⟨v, he, ho, _, hb⟩ => ?_
  obtain ⟨a, cap, rfl, _⟩ := ho.rd
  exact ⟨a, cap, he, ho, hb⟩
theorem bq {w W : World} {qb room rb room2 : Nat} {s t : List M} (h : LR w W qb room rb room2 s t) (x : Int) : Calls Try.prog 20 #[.pointer (some ⟨qb, 0, none⟩), .int .i64 x] W fun e w' => ∃ a cap, e = .returned (.slice a (low s x).length cap) ∧ Own w' (.slice a (low s x).length cap) (low s x) ∧ Below W.heap.size W w' := by
  obtain ⟨F, G, h1, h2, h3, h4, h5, h6⟩ := h
  refine (qbelow_any h1 x).mono fun e w' ⟨v, he, ho, _, hb⟩ => ?_
  obtain ⟨a, cap, rfl, _⟩ := ho.rd
  exact ⟨a, cap, he, ho, hb⟩
theorem br {w W : World} {qb room rb room2 : Nat} {s t : List M} (h : LR w W qb room rb room2 s t) (x : Int) : Calls Try.prog 21 #[.pointer (some ⟨rb, 0, none⟩), .int .i64 x] W fun e w' => ∃ a cap, e = .returned (.slice a (low t x).length cap) ∧ Own w' (.slice a (low t x).length cap) (low t x) ∧ Below W.heap.size W w' := by
  obtain ⟨F, G, h1, h2, h3, h4, h5, h6⟩ := h
  refine (rbelow_any h2 x).mono fun e w' ⟨v, he, ho, _, hb⟩ => ?_
  obtain ⟨a, cap, rfl, _⟩ := ho.rd
  exact ⟨a, cap, he, ho, hb⟩
theorem own_below {w w' : World} {v : Value} {l : List M} (h : Own w v l) (hb : Below w.heap.size w w') : Own w' v l := h.keep (S := fun _ => False) (Fr.of_below hb) (fun _ _ g => g)

/-! ### What a push answers -/
theorem pushC_lt {s : List M} {room : Nat} {m : M} : pushC s room m = 3 ∨ pushC s room m = 2 ∨ pushC s room m = 0 := by
  unfold pushC
  split
  · exact .inl rfl
  · split
    · exact .inr (.inl rfl)
    · exact .inr (.inr rfl)
theorem pushC_zero {s : List M} {room : Nat} {m : M} (h : pushC s room m = 0) : hasK s m.1 = false ∧ ¬ room ≤ s.length ∧ pushS s room m = ins s m := by
  unfold pushC at h
  unfold pushS
  split at h
  · cases h
  · rename_i h1
    split at h
    · cases h
    · rename_i h2
      exact ⟨by simpa using h1, h2, by rw [if_neg h1, if_neg h2]⟩
theorem pushS_ne {s : List M} {room : Nat} {m : M} (h : pushC s room m ≠ 0) : pushS s room m = s := by
  unfold pushC at h
  unfold pushS
  split
  · rfl
  · rename_i h1
    rw [if_neg h1] at h
    split
    · rfl
    · rename_i h2
      rw [if_neg h2] at h
      exact absurd rfl h
theorem hasK_ins (s : List M) (m : M) : hasK (ins s m) m.1 = true := by
  rw [hasK_iff]
  exact List.mem_map.2 ⟨m, ins_mem.2 (.inr rfl), rfl⟩
/-- The same pushed a second time. -/
theorem pushC_again {s : List M} {room : Nat} {m : M} : (pushC s room m = 0 → pushC (pushS s room m) room m = 3) ∧ (pushC s room m ≠ 0 → pushC (pushS s room m) room m = pushC s room m) := by
  refine ⟨fun h => ?_, fun h => by rw [pushS_ne h]⟩
  rw [(pushC_zero h).2.2]
  unfold pushC
  rw [if_pos (hasK_ins s m)]
theorem zero_wf : mwf zeroM := by unfold mwf kwf i64; simp
end Go.Proofs.Ytnldbnlbfmjcbaa
