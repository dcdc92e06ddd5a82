/- Proved: two things that a law has made, beside each other and beside blocks that are none of theirs. -/
import Derived.Test.YtjkcdkoomipfkaaCal6
import Derived.Test.YtjkcdkoomipfkaaCal7
import Derived.Test.YtjkcdkoomipfkaaCal8
import Derived.Test.YtjkcdkoomipfkaaOpen2
namespace Go.Proofs.Ytjkcdkoomipfkaa
open Go.RowKit Go.Sort Go.Lib
set_option linter.unusedVariables false

/-- A calendar, and the blocks that are its own. -/
def IsK (w : World) (F : Nat → Prop) (qb room day : Nat) (s : List M) : Prop := ∃ vs, IsC w qb room day vs s ∧ F = FC qb vs
/-- A thing in memory: it lies in its blocks, and stays while others are written. -/
structure Th (P : World → (Nat → Prop) → Prop) : Prop where
  lt : ∀ {w F}, P w F → ∀ k, F k → k < w.heap.size
  keep : ∀ {S w w' F}, P w F → Fr S w w' → (∀ k, F k → ¬ S k) → P w' F
theorem Th.below {P : World → (Nat → Prop) → Prop} (h : Th P) {w w' : World} {F : Nat → Prop} (hp : P w F) (hb : Below w.heap.size w w') : P w' F := h.keep hp (Fr.of_below (S := fun _ => False) hb) (fun _ _ g => g)
def PK (qb room day : Nat) (s : List M) : World → (Nat → Prop) → Prop := fun w F => IsK w F qb room day s
theorem thK (qb room day : Nat) (s : List M) : Th (PK qb room day s) where
  lt := by rintro w F ⟨vs, h, rfl⟩; exact h.lt
  keep := by rintro S w w' F ⟨vs, h, rfl⟩ hf hd; exact ⟨vs, h.keep hf hd, rfl⟩

def L2 (w W : World) (Z : Nat → Prop) (P Q : World → (Nat → Prop) → Prop) : Prop :=
  ∃ F G, P W F ∧ Q W G ∧ (∀ k, F k → ¬ G k) ∧ (∀ k, F k → w.heap.size ≤ k) ∧ (∀ k, G k → w.heap.size ≤ k) ∧ Below w.heap.size w W ∧ ∀ k, Z k → ¬ F k ∧ ¬ G k ∧ k < W.heap.size ∧ w.heap.size ≤ k
theorem L2.bel {w W : World} {Z : Nat → Prop} {P Q : World → (Nat → Prop) → Prop} (h : L2 w W Z P Q) : Below w.heap.size w W := by
  obtain ⟨F, G, h1, h2, h3, h4, h5, h6, h7⟩ := h
  exact h6
theorem L2.below {w W W2 : World} {Z : Nat → Prop} {P Q : World → (Nat → Prop) → Prop} (h : L2 w W Z P Q) (hP : Th P) (hQ : Th Q) (hb : Below W.heap.size W W2) : L2 w W2 Z P Q := by
  obtain ⟨F, G, h1, h2, h3, h4, h5, h6, h7⟩ := h
  exact ⟨F, G, hP.below h1 hb, hQ.below h2 hb, h3, h4, h5, h6.trans (hb.mono h6.size), fun k hk => ⟨(h7 k hk).1, (h7 k hk).2.1, Nat.lt_of_lt_of_le (h7 k hk).2.2.1 hb.size, (h7 k hk).2.2.2⟩⟩
theorem L2.more {w W : World} {Z : Nat → Prop} {P Q : World → (Nat → Prop) → Prop} (h : L2 w W Z P Q) (hP : Th P) (hQ : Th Q) (o : Obj) : L2 w (W.alloc o) (fun k => Z k ∨ k = W.heap.size) P Q := by
  obtain ⟨F, G, h1, h2, h3, h4, h5, h6, h7⟩ := h
  have hb : Below W.heap.size W (W.alloc o) := (Below.refl _ _).alloc (Nat.le_refl _) _
  refine ⟨F, G, hP.below h1 hb, hQ.below h2 hb, h3, h4, h5, h6.trans (hb.mono h6.size), ?_⟩
  rintro k (hk | rfl)
  · exact ⟨(h7 k hk).1, (h7 k hk).2.1, by have := (h7 k hk).2.2.1; simp; omega, (h7 k hk).2.2.2⟩
  · exact ⟨fun e => by have := hP.lt h1 _ e; omega, fun e => by have := hQ.lt h2 _ e; omega, by simp, h6.size⟩
/-- Blocks that were made since are none of the things'. -/
theorem L2.news {w W W2 : World} {Z : Nat → Prop} {P Q : World → (Nat → Prop) → Prop} (h : L2 w W Z P Q) (hP : Th P) (hQ : Th Q) (hb : Below W.heap.size W W2) (B : Nat) (h1 : W.heap.size ≤ B) (h2 : B < W2.heap.size) : L2 w W2 (fun k => Z k ∨ k = B) P Q := by
  obtain ⟨F, G, p1, p2, h3, h4, h5, h6, h7⟩ := h
  refine ⟨F, G, hP.below p1 hb, hQ.below p2 hb, h3, h4, h5, h6.trans (hb.mono h6.size), ?_⟩
  rintro k (hk | rfl)
  · exact ⟨(h7 k hk).1, (h7 k hk).2.1, Nat.lt_of_lt_of_le (h7 k hk).2.2.1 hb.size, (h7 k hk).2.2.2⟩
  · exact ⟨fun e => by have := hP.lt p1 _ e; omega, fun e => by have := hQ.lt p2 _ e; omega, h2, Nat.le_trans h6.size h1⟩
theorem L2.fewer {w W : World} {Z Z2 : Nat → Prop} {P Q : World → (Nat → Prop) → Prop} (h : L2 w W Z P Q) (hz : ∀ k, Z2 k → Z k) : L2 w W Z2 P Q := by
  obtain ⟨F, G, h1, h2, h3, h4, h5, h6, h7⟩ := h
  exact ⟨F, G, h1, h2, h3, h4, h5, h6, fun k hk => h7 k (hz k hk)⟩
/-- What is written lies in the other blocks. -/
theorem L2.other {w W W2 : World} {Z : Nat → Prop} {P Q : World → (Nat → Prop) → Prop} (h : L2 w W Z P Q) (hP : Th P) (hQ : Th Q) (hf : Fr Z W W2) : L2 w W2 Z P Q := by
  obtain ⟨F, G, h1, h2, h3, h4, h5, h6, h7⟩ := h
  exact ⟨F, G, hP.keep h1 hf (fun k hk e => (h7 k e).1 hk), hQ.keep h2 hf (fun k hk e => (h7 k e).2.1 hk), h3, h4, h5, h6.trans (hf.below h6.size (fun i e => (h7 i e).2.2.2)), fun k hk => ⟨(h7 k hk).1, (h7 k hk).2.1, Nat.lt_of_lt_of_le (h7 k hk).2.2.1 hf.size, (h7 k hk).2.2.2⟩⟩
theorem L2.six {w W : World} {Z : Nat → Prop} {P Q : World → (Nat → Prop) → Prop} (h : L2 w W Z P Q) (hP : Th P) (hQ : Th Q) {B : Nat} (hB : Z B) (a1 a2 a3 a4 a5 a6 : Value) : L2 w (six W B a1 a2 a3 a4 a5 a6) Z P Q :=
  h.other hP hQ ((fr6 W B a1 a2 a3 a4 a5 a6).wide (fun k e => by rw [e]; exact hB))
theorem L2.start {w W2 : World} {P Q : World → (Nat → Prop) → Prop} {F G : Nat → Prop} {W1 : World} (hP : Th P) (h1 : P W1 F) (hF : ∀ k, F k → w.heap.size ≤ k) (b1 : Below w.heap.size w W1) (h2 : Q W2 G) (hG : ∀ k, G k → W1.heap.size ≤ k) (b2 : Below W1.heap.size W1 W2) : L2 w W2 (fun _ => False) P Q :=
  ⟨F, G, hP.below h1 b2, h2, fun k hk e => by have := hP.lt h1 k hk; have := hG k e; omega, hF, fun k hk => Nat.le_trans b1.size (hG k hk), b1.trans (b2.mono b1.size), fun k g => g.elim⟩
theorem L2.stepP {w W W2 : World} {Z : Nat → Prop} {P2 Q : World → (Nat → Prop) → Prop} {F F2 G : Nat → Prop} (hQ : Th Q) (h2 : Q W G) (h3 : ∀ k, F k → ¬ G k) (h4 : ∀ k, F k → w.heap.size ≤ k) (h5 : ∀ k, G k → w.heap.size ≤ k) (h6 : Below w.heap.size w W) (h7 : ∀ k, Z k → ¬ F k ∧ ¬ G k ∧ k < W.heap.size ∧ w.heap.size ≤ k)
    (h : P2 W2 F2) (hs : Step F F2 W W2) : L2 w W2 Z P2 Q ∧ Fr (fun k => ¬ Z k) W W2 :=
  ⟨⟨F2, G, h, hQ.keep h2 hs.1 (fun k hk e => h3 k e hk), fun k hk e => (hs.2 k hk).elim (fun g => h3 k g e) (fun g => by have := hQ.lt h2 k e; omega), fun k hk => (hs.2 k hk).elim (h4 k) (fun g => Nat.le_trans h6.size g), h5, h6.trans (hs.1.below h6.size h4),
    fun k hk => ⟨fun e => (hs.2 k e).elim (h7 k hk).1 (fun g => by have := (h7 k hk).2.2.1; omega), (h7 k hk).2.1, Nat.lt_of_lt_of_le (h7 k hk).2.2.1 hs.1.size, (h7 k hk).2.2.2⟩⟩, hs.1.wide (fun k hk e => (h7 k e).1 hk)⟩
theorem L2.swap {w W : World} {Z : Nat → Prop} {P Q : World → (Nat → Prop) → Prop} (h : L2 w W Z P Q) : L2 w W Z Q P := by
  obtain ⟨F, G, h1, h2, h3, h4, h5, h6, h7⟩ := h
  exact ⟨G, F, h2, h1, fun k hk e => h3 k e hk, h5, h4, h6, fun k hk => ⟨(h7 k hk).2.1, (h7 k hk).1, (h7 k hk).2.2.1, (h7 k hk).2.2.2⟩⟩
theorem L2.callP {w W : World} {Z : Nat → Prop} {P P2 Q : World → (Nat → Prop) → Prop} (h : L2 w W Z P Q) (hQ : Th Q) {f : Nat} {args : Array Value} {R : Value} (hc : ∀ F, P W F → Calls Try.prog f args W fun e w' => e = .returned R ∧ ∃ F2, P2 w' F2 ∧ Step F F2 W w') :
    Calls Try.prog f args W fun e w' => e = .returned R ∧ L2 w w' Z P2 Q ∧ Fr (fun k => ¬ Z k) W w' := by
  obtain ⟨F, G, h1, h2, h3, h4, h5, h6, h7⟩ := h
  exact (hc F h1).mono fun e w' ⟨he, F2, hp, hs⟩ => ⟨he, L2.stepP hQ h2 h3 h4 h5 h6 h7 hp hs⟩
theorem L2.callQ {w W : World} {Z : Nat → Prop} {P Q Q2 : World → (Nat → Prop) → Prop} (h : L2 w W Z P Q) (hP : Th P) {f : Nat} {args : Array Value} {R : Value} (hc : ∀ F, Q W F → Calls Try.prog f args W fun e w' => e = .returned R ∧ ∃ F2, Q2 w' F2 ∧ Step F F2 W w') :
    Calls Try.prog f args W fun e w' => e = .returned R ∧ L2 w w' Z P Q2 ∧ Fr (fun k => ¬ Z k) W w' :=
  (h.swap.callP hP hc).mono fun e w' ⟨he, h1, h2⟩ => ⟨he, h1.swap, h2⟩
theorem L2.seeP {w W : World} {Z : Nat → Prop} {P Q : World → (Nat → Prop) → Prop} (h : L2 w W Z P Q) : ∃ F, P W F := by
  obtain ⟨F, G, h1, h2, h3, h4, h5, h6, h7⟩ := h
  exact ⟨F, h1⟩
theorem L2.seeQ {w W : World} {Z : Nat → Prop} {P Q : World → (Nat → Prop) → Prop} (h : L2 w W Z P Q) : ∃ F, Q W F := by
  obtain ⟨F, G, h1, h2, h3, h4, h5, h6, h7⟩ := h
  exact ⟨G, h2⟩

/-! ### A calendar's calls -/
theorem kpush {W : World} {F : Nat → Prop} {qb room day : Nat} {s : List M} (h : PK qb room day s W F) (m : M) : Calls Try.prog 11 #[.pointer (some ⟨qb, 0, none⟩), mv m] W fun e w' => e = .returned (.int .i64 (cpushC s room m)) ∧ ∃ F2, PK qb room day (cpushS s room m) w' F2 ∧ Step F F2 W w' := by
  obtain ⟨vs, h, rfl⟩ := h
  exact (cpush_any h m).mono fun e w' ⟨he, vs', h1, h2⟩ => ⟨he, _, ⟨vs', h1, rfl⟩, h2⟩
theorem kpop {W : World} {F : Nat → Prop} {qb room day : Nat} {s : List M} (h : PK qb room day s W F) : Calls Try.prog 15 #[.pointer (some ⟨qb, 0, none⟩)] W fun e w' => e = .returned (.tuple #[mv (s.headD zeroM), .bool (!s.isEmpty)]) ∧ ∃ F2, PK qb room day s.tail w' F2 ∧ Step F F2 W w' := by
  obtain ⟨vs, h, rfl⟩ := h
  exact (cpop_any h).mono fun e w' ⟨he, vs', h1, h2⟩ => ⟨he, _, ⟨vs', h1, rfl⟩, h2⟩
theorem kremove {W : World} {F : Nat → Prop} {qb room day : Nat} {s : List M} (h : PK qb room day s W F) (k : K) : Calls Try.prog 17 #[.pointer (some ⟨qb, 0, none⟩), kv k] W fun e w' => e = .returned (.tuple #[mv (fnd s k), .bool (hasK s k)]) ∧ ∃ F2, PK qb room day (del s k) w' F2 ∧ Step F F2 W w' := by
  obtain ⟨vs, h, rfl⟩ := h
  exact (cremove_any h k).mono fun e w' ⟨he, vs', h1, h2⟩ => ⟨he, _, ⟨vs', h1, rfl⟩, h2⟩
theorem kfirst {W : World} {F : Nat → Prop} {qb room day : Nat} {s : List M} (h : PK qb room day s W F) : Calls Try.prog 13 #[.pointer (some ⟨qb, 0, none⟩)] W fun e w' => e = .returned (.tuple #[mv (s.headD zeroM), .bool (!s.isEmpty)]) ∧ Below W.heap.size W w' := by
  obtain ⟨vs, h, rfl⟩ := h
  exact cfirst_any h
theorem klen {W : World} {F : Nat → Prop} {qb room day : Nat} {s : List M} (h : PK qb room day s W F) : Calls Try.prog 23 #[.pointer (some ⟨qb, 0, none⟩)] W fun e w' => e = .returned (.int .i64 s.length) ∧ w' = W := by
  obtain ⟨vs, h, rfl⟩ := h
  exact clen_any h
theorem klist {W : World} {F : Nat → Prop} {qb room day : Nat} {s : List M} (h : PK qb room day s W F) : Calls Try.prog 25 #[.pointer (some ⟨qb, 0, none⟩)] W fun e w' => ∃ a cap, e = .returned (.slice a s.length cap) ∧ Own w' (.slice a s.length cap) s ∧ Below W.heap.size W w' := by
  obtain ⟨vs, h, rfl⟩ := h
  refine (clist_any h).mono fun e w' ⟨v, he, ho, _, hb⟩ => ?_
  obtain ⟨a, cap, rfl, _⟩ := ho.rd
  exact ⟨a, cap, he, ho, hb⟩
theorem kbelow {W : World} {F : Nat → Prop} {qb room day : Nat} {s : List M} (h : PK qb room day s W F) (t : Int) : Calls Try.prog 20 #[.pointer (some ⟨qb, 0, none⟩), .int .i64 t] W fun e w' => ∃ a cap, e = .returned (.slice a (low s t).length cap) ∧ Own w' (.slice a (low s t).length cap) (low s t) ∧ Below W.heap.size W w' := by
  obtain ⟨vs, h, rfl⟩ := h
  refine (cbelow_any h t).mono fun e w' ⟨v, he, ho, _, hb⟩ => ?_
  obtain ⟨a, cap, rfl, _⟩ := ho.rd
  exact ⟨a, cap, he, ho, hb⟩
theorem kdays {W : World} {F : Nat → Prop} {qb room day : Nat} {s : List M} (h : PK qb room day s W F) : Calls Try.prog 10 #[.pointer (some ⟨qb, 0, none⟩)] W fun e w' => e = .returned (.slice (some ⟨W.heap.size, 0, none⟩) 8 8) ∧ w'.rowIs W.heap.size 3 8 (dayF day s 8) ∧ Below W.heap.size W w' := by
  obtain ⟨vs, h, rfl⟩ := h
  exact days_any h
theorem ksrt {W : World} {F : Nat → Prop} {qb room day : Nat} {s : List M} (h : PK qb room day s W F) : Srt s ∧ room ≤ 64 ∧ s.length ≤ room ∧ (∀ m ∈ s, vt m.1.1 = true) ∧ 1 ≤ day ∧ day ≤ 1048576 := by
  obtain ⟨vs, h, rfl⟩ := h
  exact ⟨h.srt, h.rm, h.len, h.wf, h.d1, h.d2⟩
theorem knew (r d : Int) (w : World) (hr : i64 r) (hd : i64 d) : Calls Try.prog 8 #[.int .i64 r, .int .i64 d] w fun e w' => ∃ qb F, e = .returned (.pointer (some ⟨qb, 0, none⟩)) ∧ PK qb (clampR r) (clampD d) [] w' F ∧ (∀ k, F k → w.heap.size ≤ k) ∧ Below w.heap.size w w' :=
  (cnew_any r d w hr hd).mono fun e w' ⟨qb, vs, he, h1, h2, h3⟩ => ⟨qb, _, he, ⟨vs, h1, rfl⟩, h2, h3⟩
end Go.Proofs.Ytjkcdkoomipfkaa
