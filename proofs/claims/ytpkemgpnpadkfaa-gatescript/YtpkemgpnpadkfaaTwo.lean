/- Proved: two things beside each other, rows of messages beside them, and one row that grows; their calls. -/
import Derived.Test.YtpkemgpnpadkfaaLw0
namespace Go.Proofs.Ytpkemgpnpadkfaa
open Go.RowKit Go.Shelf Go.Sort
set_option linter.unusedVariables false

abbrev TQ := (Nat → Prop) → World → Int → List H → Nat → Value → Prop
/-- What is asked of a thing. -/
structure Kp (Q : TQ) : Prop where
  keep : ∀ {X X' S : Nat → Prop} {W W' : World} {fl : Int} {l : List H} {b : Nat} {v : Value}, Q X W fl l b v → Fr S W W' → (∀ k, S k → ¬ D b v k) → (∀ k, k < W.heap.size → X' k → ¬ D b v k) → (∀ k, X' k → k < W'.heap.size) → Q X' W' fl l b v
  dlt : ∀ {X : Nat → Prop} {W : World} {fl : Int} {l : List H} {b : Nat} {v : Value}, Q X W fl l b v → ∀ {k}, D b v k → k < W.heap.size
  dx : ∀ {X : Nat → Prop} {W : World} {fl : Int} {l : List H} {b : Nat} {v : Value}, Q X W fl l b v → ∀ {k}, D b v k → ¬ X k
  xl : ∀ {X : Nat → Prop} {W : World} {fl : Int} {l : List H} {b : Nat} {v : Value}, Q X W fl l b v → ∀ k, X k → k < W.heap.size
theorem kpG : Kp GQ := ⟨fun h => h.keep, fun h => h.dlt, fun h => h.dx, fun h => h.xl⟩
theorem Kp.below {Q : TQ} (kp : Kp Q) {X : Nat → Prop} {W W' : World} {fl : Int} {l : List H} {b : Nat} {v : Value} (h : Q X W fl l b v) (hb : Below W.heap.size W W') : Q X W' fl l b v :=
  kp.keep h (Fr.of_below (S := fun _ => False) hb) (fun _ e => e.elim) (fun k _ e d => kp.dx h d e) (fun k e => Nat.lt_of_lt_of_le (kp.xl h k e) hb.size)
/-- Two things that were made since w, rows, and a row vl of one's own, that tells l. -/
def Pg (Q1 Q2 : TQ) (w W : World) (fl1 : Int) (L1 : List H) (b1 : Nat) (fl2 : Int) (L2 : List H) (b2 : Nat) (rs : Rws) (vl : Value) (l : List M) : Prop :=
  ∃ v1 v2, Q1 (fun k => k < w.heap.size ∨ D b2 v2 k) W fl1 L1 b1 v1 ∧ Q2 (fun k => k < w.heap.size ∨ D b1 v1 k) W fl2 L2 b2 v2 ∧ Below w.heap.size w W ∧ (∀ r ∈ rs, RdN cM (fun k => ¬ D b1 v1 k ∧ ¬ D b2 v2 k ∧ vl.ownBlock ≠ some k) W r.1 r.2) ∧ OwR cM 30 W vl l ∧ ∀ k, vl.ownBlock = some k → w.heap.size ≤ k ∧ ¬ D b1 v1 k ∧ ¬ D b2 v2 k
theorem Pg.bel {Q1 Q2 : TQ} {w W : World} {fl1 fl2 : Int} {L1 L2 : List H} {b1 b2 : Nat} {rs : Rws} {vl : Value} {l : List M} (h : Pg Q1 Q2 w W fl1 L1 b1 fl2 L2 b2 rs vl l) : Below w.heap.size w W := by
  obtain ⟨v1, v2, _, _, hb, _⟩ := h
  exact hb
theorem Pg.own {Q1 Q2 : TQ} {w W : World} {fl1 fl2 : Int} {L1 L2 : List H} {b1 b2 : Nat} {rs : Rws} {vl : Value} {l : List M} (h : Pg Q1 Q2 w W fl1 L1 b1 fl2 L2 b2 rs vl l) : OwR cM 30 W vl l := by
  obtain ⟨v1, v2, _, _, _, _, ho, _⟩ := h
  exact ho
theorem Pg.row {Q1 Q2 : TQ} {w W : World} {fl1 fl2 : Int} {L1 L2 : List H} {b1 b2 : Nat} {rs : Rws} {vl : Value} {l : List M} (h : Pg Q1 Q2 w W fl1 L1 b1 fl2 L2 b2 rs vl l) {a : Option Addr} {ms : List M} (hr : (a, ms) ∈ rs) : RdN cM (fun _ => True) W a ms := by
  obtain ⟨v1, v2, _, _, _, h3, _⟩ := h
  exact (h3 _ hr).wide (fun _ _ _ => trivial)
theorem Pg.flip {Q1 Q2 : TQ} {w W : World} {fl1 fl2 : Int} {L1 L2 : List H} {b1 b2 : Nat} {rs : Rws} {vl : Value} {l : List M} (h : Pg Q1 Q2 w W fl1 L1 b1 fl2 L2 b2 rs vl l) : Pg Q2 Q1 w W fl2 L2 b2 fl1 L1 b1 rs vl l := by
  obtain ⟨v1, v2, h1, h2, hb, h3, ho, h5⟩ := h
  exact ⟨v2, v1, h2, h1, hb, fun r hr => (h3 r hr).wide (fun k _ e => ⟨e.2.1, e.1, e.2.2⟩), ho, fun k e => ⟨(h5 k e).1, (h5 k e).2.2, (h5 k e).2.1⟩⟩
theorem Pg.less {Q1 Q2 : TQ} {w W : World} {fl1 fl2 : Int} {L1 L2 : List H} {b1 b2 : Nat} {rs rs' : Rws} {vl : Value} {l : List M} (h : Pg Q1 Q2 w W fl1 L1 b1 fl2 L2 b2 rs vl l) (hs : ∀ r ∈ rs', r ∈ rs) : Pg Q1 Q2 w W fl1 L1 b1 fl2 L2 b2 rs' vl l := by
  obtain ⟨v1, v2, h1, h2, hb, h3, ho, h5⟩ := h
  exact ⟨v1, v2, h1, h2, hb, fun r hr => h3 r (hs r hr), ho, h5⟩
theorem Pg.on {Q1 Q2 : TQ} (k1 : Kp Q1) (k2 : Kp Q2) {w W W2 : World} {fl1 fl2 : Int} {L1 L2 : List H} {b1 b2 : Nat} {rs : Rws} {vl : Value} {l : List M} (h : Pg Q1 Q2 w W fl1 L1 b1 fl2 L2 b2 rs vl l) (hb : Below W.heap.size W W2) : Pg Q1 Q2 w W2 fl1 L1 b1 fl2 L2 b2 rs vl l := by
  obtain ⟨v1, v2, h1, h2, hb0, h3, ho, h5⟩ := h
  exact ⟨v1, v2, k1.below h1 hb, k2.below h2 hb, Below.on hb0 hb, fun r hr => (h3 r hr).below hb, ho.below hb, h5⟩
/-- The first one was written; rows may have come. -/
theorem pg_upd {Q1 Q2 : TQ} (k1 : Kp Q1) (k2 : Kp Q2) {w W w' : World} {fl1 fl1' fl2 : Int} {L1 L1' L2 : List H} {b1 b2 : Nat} {v1 v1' v2 : Value} {rs rs' : Rws} {vl : Value} {l : List M}
    (h1 : Q1 (fun k => k < w.heap.size ∨ D b2 v2 k) W fl1 L1 b1 v1) (h2 : Q2 (fun k => k < w.heap.size ∨ D b1 v1 k) W fl2 L2 b2 v2) (hb : Below w.heap.size w W) (h3 : ∀ r ∈ rs, RdN cM (fun k => ¬ D b1 v1 k ∧ ¬ D b2 v2 k ∧ vl.ownBlock ≠ some k) W r.1 r.2) (ho : OwR cM 30 W vl l) (h5 : ∀ k, vl.ownBlock = some k → w.heap.size ≤ k ∧ ¬ D b1 v1 k ∧ ¬ D b2 v2 k)
    (g1 : Q1 (fun k => k < w.heap.size ∨ D b2 v2 k) w' fl1' L1' b1 v1') (g2 : Mw (D b1 v1) (D b1 v1') W w') (g3 : ∀ r ∈ rs', RdN cM (fun k => W.heap.size ≤ k ∧ ¬ D b1 v1' k) w' r.1 r.2) : Pg Q1 Q2 w w' fl1' L1' b1 fl2 L2 b2 (rs' ++ rs) vl l := by
  refine ⟨v1', v2, g1, ?_, hb.trans (g2.bel hb.size (fun i d => ?_)), fun r hr => ?_, ho.keep g2.fr (fun k e s => (h5 k e).2.1 s), fun k e => ⟨(h5 k e).1, fun d => (h5 k e).2.1 (g2.new k (ho.lt e) d), (h5 k e).2.2⟩⟩
  · refine k2.keep h2 g2.fr (fun k e d => k2.dx h2 d (Or.inr e)) (fun k hk e d => ?_) (fun k e => ?_)
    · rcases e with e | e
      · exact k2.dx h2 d (Or.inl e)
      · exact k2.dx h2 d (Or.inr (g2.new k hk e))
    · rcases e with e | e
      · exact Nat.lt_of_lt_of_le e (Nat.le_trans hb.size g2.fr.size)
      · exact k1.dlt g1 e
  · have := k1.dx h1 d
    rcases Nat.lt_or_ge i w.heap.size with g | g
    · exact absurd (Or.inl g) this
    · exact g
  · rcases List.mem_append.1 hr with hr | hr
    · exact (g3 r hr).wide (fun k _ e => ⟨e.2, fun d => by have := k2.dlt h2 d; omega, fun e2 => by have := ho.lt e2; omega⟩)
    · exact (h3 r hr).keep g2.fr (fun k hk e => ⟨e.1, fun d => e.1 (g2.new k hk d), e.2.1, e.2.2⟩)
theorem Pg.hold {Q2 : TQ} (k2 : Kp Q2) {w W : World} {fl1 fl2 : Int} {L1 L2 : List H} {b1 b2 : Nat} {rs : Rws} {vl : Value} {l : List M} (h : Pg GQ Q2 w W fl1 L1 b1 fl2 L2 b2 rs vl l) (x : H) :
    Calls Try.prog 11 #[.pointer (some ⟨b1, 0, none⟩), kv x.1, mv x.2] W fun e w' => e = .returned (.int .i64 (holdE fl1 L1 x)) ∧ Pg GQ Q2 w w' fl1 (holdL fl1 L1 x) b1 fl2 L2 b2 rs vl l := by
  obtain ⟨v1, v2, h1, h2, hb, h3, ho, h5⟩ := h
  exact (hold_any h1 x).mono fun e w' ⟨v', he, hq, hm⟩ => ⟨he, pg_upd kpG k2 h1 h2 hb h3 ho h5 hq hm (rs' := []) (fun r hr => by cases hr)⟩
/-- What was made since stays. -/
theorem Pg.hold_new {Q2 : TQ} (k2 : Kp Q2) {w W0 W : World} {fl1 fl2 : Int} {L1 L2 : List H} {b1 b2 : Nat} {rs : Rws} {vl : Value} {l : List M} (h : Pg GQ Q2 w W0 fl1 L1 b1 fl2 L2 b2 rs vl l) (hb0 : Below W0.heap.size W0 W) (x : H) :
    Calls Try.prog 11 #[.pointer (some ⟨b1, 0, none⟩), kv x.1, mv x.2] W fun e w' => e = .returned (.int .i64 (holdE fl1 L1 x)) ∧ Pg GQ Q2 w w' fl1 (holdL fl1 L1 x) b1 fl2 L2 b2 rs vl l ∧ ∀ k, W0.heap.size ≤ k → k < W.heap.size → w'.heap[k]? = W.heap[k]? := by
  obtain ⟨v1, v2, h1, h2, hb, h3, ho, h5⟩ := h
  have g1 := h1.below hb0
  exact (hold_any g1 x).mono fun e w' ⟨v', he, hq, hm⟩ => ⟨he, pg_upd kpG k2 g1 (k2.below h2 hb0) (Below.on hb hb0) (fun r hr => (h3 r hr).below hb0) (ho.below hb0) h5 hq hm (rs' := []) (fun r hr => by cases hr), fun k k3 k4 => hm.fr.block k k4 (fun d => by have := h1.dlt d; omega)⟩
theorem Pg.open {Q2 : TQ} (k2 : Kp Q2) {w W : World} {fl1 fl2 : Int} {L1 L2 : List H} {b1 b2 : Nat} {rs : Rws} {vl : Value} {l : List M} (h : Pg GQ Q2 w W fl1 L1 b1 fl2 L2 b2 rs vl l) (t : Int) :
    Calls Try.prog 16 #[.pointer (some ⟨b1, 0, none⟩), .int .i64 t] W fun e w' => ∃ a c, e = .returned (.slice a (openG t L1).length c) ∧ Pg GQ Q2 w w' (max fl1 t) (L1.filter (fun x => !low t x)) b1 fl2 L2 b2 ((a, openG t L1) :: rs) vl l := by
  obtain ⟨v1, v2, h1, h2, hb, h3, ho, h5⟩ := h
  refine (open_any h1 t).mono fun e w' ⟨a, n, c, v', he, hr, hn, hq, hm⟩ => ⟨a, c, by rw [he, hr.look.1], ?_⟩
  exact pg_upd kpG k2 h1 h2 hb h3 ho h5 hq hm (rs' := [(a, openG t L1)]) (fun r hr' => by
    obtain rfl : r = (a, openG t L1) := by simpa using hr'
    exact hr.look.2.wide (fun k _ e => hn k e))
theorem Pg.drop {Q2 : TQ} (k2 : Kp Q2) {w W : World} {fl1 fl2 : Int} {L1 L2 : List H} {b1 b2 : Nat} {rs : Rws} {vl : Value} {l : List M} (h : Pg GQ Q2 w W fl1 L1 b1 fl2 L2 b2 rs vl l) (k : K) :
    Calls Try.prog 14 #[.pointer (some ⟨b1, 0, none⟩), kv k] W fun e w' => ∃ a c, e = .returned (.slice a (dropG k L1).length c) ∧ Pg GQ Q2 w w' fl1 (L1.filter (befK k)) b1 fl2 L2 b2 ((a, dropG k L1) :: rs) vl l := by
  obtain ⟨v1, v2, h1, h2, hb, h3, ho, h5⟩ := h
  refine (drop_any h1 k).mono fun e w' ⟨a, n, c, v', he, hr, hn, hq, hm⟩ => ⟨a, c, by rw [he, hr.look.1], ?_⟩
  exact pg_upd kpG k2 h1 h2 hb h3 ho h5 hq hm (rs' := [(a, dropG k L1)]) (fun r hr' => by
    obtain rfl : r = (a, dropG k L1) := by simpa using hr'
    exact hr.look.2.wide (fun k _ e => hn k e))
theorem Pg.retract {Q2 : TQ} (k2 : Kp Q2) {w W : World} {fl1 fl2 : Int} {L1 L2 : List H} {b1 b2 : Nat} {rs : Rws} {vl : Value} {l : List M} (h : Pg GQ Q2 w W fl1 L1 b1 fl2 L2 b2 rs vl l) (k : K) :
    Calls Try.prog 18 #[.pointer (some ⟨b1, 0, none⟩), kv k] W fun e w' => e = .returned (.tuple #[.int .i64 (retN k L1), .int .i64 (retE k L1)]) ∧ Pg GQ Q2 w w' fl1 (L1.filter (fun x => !hasK k x)) b1 fl2 L2 b2 rs vl l := by
  obtain ⟨v1, v2, h1, h2, hb, h3, ho, h5⟩ := h
  exact (retract_any h1 k).mono fun e w' ⟨v', he, hq, hm⟩ => ⟨he, pg_upd kpG k2 h1 h2 hb h3 ho h5 hq hm (rs' := []) (fun r hr => by cases hr)⟩
theorem Pg.held {Q2 : TQ} (k2 : Kp Q2) {w W : World} {fl1 fl2 : Int} {L1 L2 : List H} {b1 b2 : Nat} {rs : Rws} {vl : Value} {l : List M} (h : Pg GQ Q2 w W fl1 L1 b1 fl2 L2 b2 rs vl l) :
    Calls Try.prog 21 #[.pointer (some ⟨b1, 0, none⟩)] W fun e w' => ∃ a c, e = .returned (.slice a L1.length c) ∧ Pg GQ Q2 w w' fl1 L1 b1 fl2 L2 b2 ((a, msgs L1) :: rs) vl l := by
  obtain ⟨v1, v2, h1, h2, hb, h3, ho, h5⟩ := h
  refine (held_any h1).mono fun e w' ⟨a, c, he, hr, hn, hb2⟩ => ⟨a, c, he, ?_⟩
  exact pg_upd kpG k2 h1 h2 hb h3 ho h5 (h1.below hb2) (Mw.below hb2) (rs' := [(a, msgs L1)]) (fun r hr' => by
    obtain rfl : r = (a, msgs L1) := by simpa using hr'
    exact hr.look.2.wide (fun k _ e => ⟨hn k e, fun d => by have := hn k e; have := h1.dlt d; omega⟩))
theorem Pg.floor {Q2 : TQ} {w W : World} {fl1 fl2 : Int} {L1 L2 : List H} {b1 b2 : Nat} {rs : Rws} {vl : Value} {l : List M} (h : Pg GQ Q2 w W fl1 L1 b1 fl2 L2 b2 rs vl l) : Calls Try.prog 20 #[.pointer (some ⟨b1, 0, none⟩)] W fun e w' => e = .returned (.int .i64 fl1) ∧ W = w' := by
  obtain ⟨v1, v2, h1, _⟩ := h
  exact floor_any h1
theorem Pg.cap1 {Q2 : TQ} {w W : World} {fl1 fl2 : Int} {L1 L2 : List H} {b1 b2 : Nat} {rs : Rws} {vl : Value} {l : List M} (h : Pg GQ Q2 w W fl1 L1 b1 fl2 L2 b2 rs vl l) : L1.length ≤ 256 := by
  obtain ⟨v1, v2, h1, _⟩ := h
  exact h1.cap
/-- A row is made. -/
theorem Pg.made {Q1 Q2 : TQ} (k1 : Kp Q1) (k2 : Kp Q2) {w W : World} {fl1 fl2 : Int} {L1 L2 : List H} {b1 b2 : Nat} {rs : Rws} {vl : Value} {l : List M} (h : Pg Q1 Q2 w W fl1 L1 b1 fl2 L2 b2 rs vl l) : Pg Q1 Q2 w (W.alloc (.cells #[] 30)) fl1 L1 b1 fl2 L2 b2 rs (.slice (some ⟨W.heap.size, 0, none⟩) 0 0) [] := by
  obtain ⟨v1, v2, h1, h2, hb, h3, ho, h5⟩ := h
  have ha := al W (.cells #[] 30)
  refine ⟨v1, v2, k1.below h1 ha, k2.below h2 ha, Below.on hb ha, fun r hr g => ?_, OwR.made cM _ W, fun k e => ?_⟩
  · obtain ⟨bb, off, e, hB, hN, hc⟩ := (h3 r hr) g
    obtain ⟨bb', off', e', hB', hN', hc'⟩ := ((h3 r hr).below ha) g
    rw [e] at e'
    simp at e'
    obtain ⟨rfl, rfl⟩ := e'
    exact ⟨bb, off, e, hB', ⟨hN.1, hN.2.1, by simp [Value.ownBlock]; omega⟩, hc'⟩
  · simp [Value.ownBlock] at e
    subst e
    exact ⟨hb.size, fun d => by have := k1.dlt h1 d; omega, fun d => by have := k2.dlt h2 d; omega⟩
theorem Pg.app {Q1 Q2 : TQ} (k1 : Kp Q1) (k2 : Kp Q2) {w W w2 : World} {fl1 fl2 : Int} {L1 L2 : List H} {b1 b2 : Nat} {rs : Rws} {vl vl' : Value} {l l' : List M} (h : Pg Q1 Q2 w W fl1 L1 b1 fl2 L2 b2 rs vl l) (ho' : OwR cM 30 w2 vl' l') (hm : Mw (fun k => vl.ownBlock = some k) (fun k => vl'.ownBlock = some k) W w2) : Pg Q1 Q2 w w2 fl1 L1 b1 fl2 L2 b2 rs vl' l' := by
  obtain ⟨v1, v2, h1, h2, hb, h3, ho, h5⟩ := h
  refine ⟨v1, v2, k1.keep h1 hm.fr (fun k e d => (h5 k e).2.1 d) (fun k _ e d => k1.dx h1 d e) (fun k e => Nat.lt_of_lt_of_le (k1.xl h1 k e) hm.fr.size), k2.keep h2 hm.fr (fun k e d => (h5 k e).2.2 d) (fun k _ e d => k2.dx h2 d e) (fun k e => Nat.lt_of_lt_of_le (k2.xl h2 k e) hm.fr.size), hb.trans (hm.fr.below hb.size (fun i e => (h5 i e).1)), fun r hr => (h3 r hr).keep hm.fr (fun k hk e => ⟨e.2.2, e.1, e.2.1, fun g => e.2.2 (hm.new k hk g)⟩), ho', fun k e => ?_⟩
  rcases Nat.lt_or_ge k W.heap.size with g | g
  · exact h5 k (hm.new k g e)
  · exact ⟨Nat.le_trans hb.size g, fun d => by have := k1.dlt h1 d; omega, fun d => by have := k2.dlt h2 d; omega⟩
/-- No row grows. -/
abbrev nv : Value := .slice none 0 0
/-- A gate is made, and another one behind it. -/
theorem Pg.new {w W : World} {b1 : Nat} {fl : Int} {L : List H} (h : Ga w W fl L b1 []) :
    Calls Try.prog 9 #[] W fun e w' => e = .returned (.pointer (some ⟨W.heap.size, 0, none⟩)) ∧ Pg GQ GQ w w' fl L b1 0 [] W.heap.size [] nv [] := by
  obtain ⟨v, h1, hb, _⟩ := h
  refine (new_any W (X := fun k => k < w.heap.size ∨ D b1 v k) (fun k e => by rcases e with e | e; exact Nat.lt_of_lt_of_le e hb.size; exact h1.dlt e)).mono fun e w' ⟨he, hp, hb2⟩ => ⟨he, v, .slice none 0 0, ?_, hp, Below.on hb hb2, (fun r hr => by cases hr), OwR.nil _ _ _, (fun k e => by simp [Value.ownBlock] at e)⟩
  refine h1.keep (Fr.of_below (S := fun _ => False) hb2) (fun _ e => e.elim) (fun k hk e d => ?_) (fun k e => ?_)
  · rcases e with e | e
    · exact h1.dx d e
    · rcases e with e | e
      · omega
      · simp [Value.ownBlock] at e
  · rcases e with e | e
    · exact Nat.lt_of_lt_of_le e (Nat.le_trans hb.size hb2.size)
    · exact hp.dlt e
end Go.Proofs.Ytpkemgpnpadkfaa
