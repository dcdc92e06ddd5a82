/- Proved: what stays in memory while something is written; things in memory beside each other. -/
import Derived.Test.YtkbldbbhcdiihaaRws
namespace Go.Proofs.Ytkbldbbhcdiihaa
open Go.RowKit Go.Shelf
set_option linter.unusedVariables false

/-- w2 is w1 but for new blocks and for what lies in the blocks of S. -/
structure Fr (S : Nat → Prop) (w w' : World) : Prop where
  os : w'.os = w.os
  tape : w'.tape = w.tape
  output : w'.output = w.output
  size : w.heap.size ≤ w'.heap.size
  block : ∀ k, k < w.heap.size → ¬ S k → w'.heap[k]? = w.heap[k]?
theorem Fr.refl (S : Nat → Prop) (w : World) : Fr S w w := ⟨rfl, rfl, rfl, Nat.le_refl _, fun _ _ _ => rfl⟩
theorem Fr.trans {S S' : Nat → Prop} {a b c : World} (h : Fr S a b) (k : Fr S' b c) (hs : ∀ i, i < a.heap.size → S' i → S i) : Fr S a c :=
  ⟨k.os.trans h.os, k.tape.trans h.tape, k.output.trans h.output, Nat.le_trans h.size k.size, fun i hi hn => (k.block i (Nat.lt_of_lt_of_le hi h.size) (fun g => hn (hs i hi g))).trans (h.block i hi hn)⟩
theorem Fr.then {S : Nat → Prop} {a b c : World} (h : Fr S a b) (k : Fr S b c) : Fr S a c := h.trans k fun _ _ g => g
theorem Fr.wide {S S' : Nat → Prop} {a b : World} (h : Fr S a b) (hs : ∀ i, S i → S' i) : Fr S' a b :=
  ⟨h.os, h.tape, h.output, h.size, fun i hi hn => h.block i hi fun g => hn (hs i g)⟩
theorem Fr.of_below {S : Nat → Prop} {a b : World} (h : Below a.heap.size a b) : Fr S a b := ⟨h.os, h.tape, h.output, h.size, fun i hi _ => h.block i hi⟩
theorem Fr.below {S : Nat → Prop} {a b : World} {B : Nat} (h : Fr S a b) (hB : B ≤ a.heap.size) (hs : ∀ i, S i → B ≤ i) : Below B a b :=
  ⟨h.os, h.tape, h.output, h.size, fun i hi => h.block i (Nat.lt_of_lt_of_le hi hB) fun g => by have := hs i g; omega⟩
theorem Fr.drew {S : Nat → Prop} {a b : World} (h : Fr S a b) : Fr S a b.drew := ⟨h.os, h.tape, h.output, h.size, h.block⟩
theorem Fr.setCell {S : Nat → Prop} {a b : World} (h : Fr S a b) (p : Addr) (v : Value) (hp : S p.block ∨ a.heap.size ≤ p.block) : Fr S a (b.setCell p v) :=
  ⟨h.os, h.tape, h.output, by simpa using h.size, fun i hi hn => by
    rw [Below.heap_setCell _ _ _ _ (fun e => by subst e; rcases hp with g | g; exact hn g; omega)]
    exact h.block i hi hn⟩
theorem Fr.cell {S : Nat → Prop} {a b : World} (h : Fr S a b) {p : Addr} (hp : p.block < a.heap.size) (hn : ¬ S p.block) : b.cell? p = a.cell? p := World.cell?_of_block (h.block _ hp hn)
theorem Fr.frozen {S : Nat → Prop} {a b : World} (h : Fr S a b) {p : Addr} (hp : p.block < a.heap.size) (hn : ¬ S p.block) : b.frozen? p = a.frozen? p := World.frozen?_of_block (h.block _ hp hn)
/-- A thing in the blocks F has become one in the blocks F2: others stand as they stood, and what is new is new. -/
def Step (F F2 : Nat → Prop) (w w' : World) : Prop := Fr F w w' ∧ ∀ k, F2 k → F k ∨ w.heap.size ≤ k
theorem Step.same {F : Nat → Prop} {w w' : World} (h : Below w.heap.size w w') : Step F F w w' := ⟨Fr.of_below h, fun _ hk => .inl hk⟩
/-- A thing in memory: it lies in its blocks, and stays while others are written. -/
structure Th (P : World → (Nat → Prop) → Prop) : Prop where
  lt : ∀ {w F}, P w F → ∀ k, F k → k < w.heap.size
  keep : ∀ {S w w' F}, P w F → Fr S w w' → (∀ k, F k → ¬ S k) → P w' F
theorem Th.below {P : World → (Nat → Prop) → Prop} (h : Th P) {w w' : World} {F : Nat → Prop} (hp : P w F) (hb : Below w.heap.size w w') : P w' F := h.keep hp (Fr.of_below (S := fun _ => False) hb) (fun _ _ g => g)
/-- Two things beside each other, of blocks made since w, and blocks Z that are none of theirs. -/
def L2 (w W : World) (Z : Nat → Prop) (P Q : World → (Nat → Prop) → Prop) : Prop :=
  ∃ F G, P W F ∧ Q W G ∧ (∀ k, F k → ¬ G k) ∧ (∀ k, F k → w.heap.size ≤ k) ∧ (∀ k, G k → w.heap.size ≤ k) ∧ Below w.heap.size w W ∧ ∀ k, Z k → ¬ F k ∧ ¬ G k ∧ k < W.heap.size ∧ w.heap.size ≤ k
theorem L2.bel {w W : World} {Z : Nat → Prop} {P Q : World → (Nat → Prop) → Prop} (h : L2 w W Z P Q) : Below w.heap.size w W := by
  obtain ⟨F, G, h1, h2, h3, h4, h5, h6, h7⟩ := h
  exact h6
theorem L2.below {w W W2 : World} {Z : Nat → Prop} {P Q : World → (Nat → Prop) → Prop} (h : L2 w W Z P Q) (hP : Th P) (hQ : Th Q) (hb : Below W.heap.size W W2) : L2 w W2 Z P Q := by
  obtain ⟨F, G, h1, h2, h3, h4, h5, h6, h7⟩ := h
  exact ⟨F, G, hP.below h1 hb, hQ.below h2 hb, h3, h4, h5, h6.trans (hb.mono h6.size), fun k hk => ⟨(h7 k hk).1, (h7 k hk).2.1, Nat.lt_of_lt_of_le (h7 k hk).2.2.1 hb.size, (h7 k hk).2.2.2⟩⟩
/-- A block that was made since is none of the things'. -/
theorem L2.news {w W W2 : World} {P Q : World → (Nat → Prop) → Prop} (h : L2 w W (fun _ => False) P Q) (hP : Th P) (hQ : Th Q) (hb : Below W.heap.size W W2) (B : Nat) (h1 : W.heap.size ≤ B) (h2 : B < W2.heap.size) : L2 w W2 (fun k => k = B) P Q := by
  obtain ⟨F, G, p1, p2, h3, h4, h5, h6, h7⟩ := h
  refine ⟨F, G, hP.below p1 hb, hQ.below p2 hb, h3, h4, h5, h6.trans (hb.mono h6.size), ?_⟩
  rintro k rfl
  exact ⟨fun e => by have := hP.lt p1 _ e; omega, fun e => by have := hQ.lt p2 _ e; omega, h2, Nat.le_trans h6.size h1⟩
theorem L2.bare {w W : World} {Z : Nat → Prop} {P Q : World → (Nat → Prop) → Prop} (h : L2 w W Z P Q) : L2 w W (fun _ => False) P Q := by
  obtain ⟨F, G, h1, h2, h3, h4, h5, h6, h7⟩ := h
  exact ⟨F, G, h1, h2, h3, h4, h5, h6, fun k hk => hk.elim⟩
theorem L2.start {w W2 : World} {P Q : World → (Nat → Prop) → Prop} {F G : Nat → Prop} {W1 : World} (hP : Th P) (h1 : P W1 F) (hF : ∀ k, F k → w.heap.size ≤ k) (b1 : Below w.heap.size w W1) (h2 : Q W2 G) (hG : ∀ k, G k → W1.heap.size ≤ k) (b2 : Below W1.heap.size W1 W2) : L2 w W2 (fun _ => False) P Q :=
  ⟨F, G, hP.below h1 b2, h2, fun k hk e => by have := hP.lt h1 k hk; have := hG k e; omega, hF, fun k hk => Nat.le_trans b1.size (hG k hk), b1.trans (b2.mono b1.size), fun k g => g.elim⟩
theorem L2.swap {w W : World} {Z : Nat → Prop} {P Q : World → (Nat → Prop) → Prop} (h : L2 w W Z P Q) : L2 w W Z Q P := by
  obtain ⟨F, G, h1, h2, h3, h4, h5, h6, h7⟩ := h
  exact ⟨G, F, h2, h1, fun k hk e => h3 k e hk, h5, h4, h6, fun k hk => ⟨(h7 k hk).2.1, (h7 k hk).1, (h7 k hk).2.2.1, (h7 k hk).2.2.2⟩⟩
theorem L2.callP {w W : World} {Z : Nat → Prop} {P P2 Q : World → (Nat → Prop) → Prop} (h : L2 w W Z P Q) (hQ : Th Q) {f : Nat} {args : Array Value} {R : Value} (hc : ∀ F, P W F → Calls Try.prog f args W fun e w' => e = .returned R ∧ ∃ F2, P2 w' F2 ∧ Step F F2 W w') :
    Calls Try.prog f args W fun e w' => e = .returned R ∧ L2 w w' Z P2 Q ∧ Fr (fun k => ¬ Z k) W w' := by
  obtain ⟨F, G, h1, h2, h3, h4, h5, h6, h7⟩ := h
  exact (hc F h1).mono fun e w' ⟨he, F2, hp, hs⟩ => ⟨he, ⟨F2, G, hp, hQ.keep h2 hs.1 (fun k hk e => h3 k e hk), fun k hk e => (hs.2 k hk).elim (fun g => h3 k g e) (fun g => by have := hQ.lt h2 k e; omega), fun k hk => (hs.2 k hk).elim (h4 k) (fun g => Nat.le_trans h6.size g), h5, h6.trans (hs.1.below h6.size h4),
    fun k hk => ⟨fun e => (hs.2 k e).elim (h7 k hk).1 (fun g => by have := (h7 k hk).2.2.1; omega), (h7 k hk).2.1, Nat.lt_of_lt_of_le (h7 k hk).2.2.1 hs.1.size, (h7 k hk).2.2.2⟩⟩, hs.1.wide (fun k hk e => (h7 k e).1 hk)⟩
theorem L2.callQ {w W : World} {Z : Nat → Prop} {P Q Q2 : World → (Nat → Prop) → Prop} (h : L2 w W Z P Q) (hP : Th P) {f : Nat} {args : Array Value} {R : Value} (hc : ∀ F, Q W F → Calls Try.prog f args W fun e w' => e = .returned R ∧ ∃ F2, Q2 w' F2 ∧ Step F F2 W w') :
    Calls Try.prog f args W fun e w' => e = .returned R ∧ L2 w w' Z P Q2 ∧ Fr (fun k => ¬ Z k) W w' :=
  (h.swap.callP hP hc).mono fun e w' ⟨he, h1, h2⟩ => ⟨he, h1.swap, h2⟩
theorem L2.seeP {w W : World} {Z : Nat → Prop} {P Q : World → (Nat → Prop) → Prop} (h : L2 w W Z P Q) : ∃ F, P W F := by
  obtain ⟨F, G, h1, h2, h3, h4, h5, h6, h7⟩ := h
  exact ⟨F, h1⟩
theorem L2.seeQ {w W : World} {Z : Nat → Prop} {P Q : World → (Nat → Prop) → Prop} (h : L2 w W Z P Q) : ∃ F, Q W F := by
  obtain ⟨F, G, h1, h2, h3, h4, h5, h6, h7⟩ := h
  exact ⟨G, h2⟩
/-! ### Cells that are written -/
theorem cell_set {W : World} {p : Addr} {v u : Value} (h : W.cell? p = some u) : (W.setCell p v).cell? p = some v := World.cell?_setCell_same' _ _ _ (by rw [h]; rfl)
end Go.Proofs.Ytkbldbbhcdiihaa
