/- Proved: the program's gate and the document's beside each other, and the box of a call; their calls. -/
import Derived.Test.YtpkemgpnpadkfaaRo
namespace Go.Proofs.Ytpkemgpnpadkfaa
open Go.RowKit Go.Shelf Go.Sort
set_option linter.unusedVariables false

/-- Two things, rows, and a box that is none of theirs. -/
def Sb (Q1 Q2 : TQ) (w W : World) (fl1 : Int) (L1 : List H) (b1 : Nat) (fl2 : Int) (L2 : List H) (b2 : Nat) (rs : Rws) (xb : Nat) (o : Obj) : Prop :=
  ∃ v1 v2, Q1 (fun k => k < w.heap.size ∨ D b2 v2 k) W fl1 L1 b1 v1 ∧ Q2 (fun k => k < w.heap.size ∨ D b1 v1 k) W fl2 L2 b2 v2 ∧ Below w.heap.size w W ∧ (∀ r ∈ rs, RdN cM (fun k => ¬ D b1 v1 k ∧ ¬ D b2 v2 k) W r.1 r.2) ∧ W.heap[xb]? = some o ∧ ¬ D b1 v1 xb ∧ ¬ D b2 v2 xb
theorem Sb.bel {Q1 Q2 : TQ} {w W : World} {fl1 fl2 : Int} {L1 L2 : List H} {b1 b2 : Nat} {rs : Rws} {xb : Nat} {o : Obj} (h : Sb Q1 Q2 w W fl1 L1 b1 fl2 L2 b2 rs xb o) : Below w.heap.size w W := by
  obtain ⟨v1, v2, _, _, hb, _⟩ := h
  exact hb
theorem Sb.box {Q1 Q2 : TQ} {w W : World} {fl1 fl2 : Int} {L1 L2 : List H} {b1 b2 : Nat} {rs : Rws} {xb : Nat} {o : Obj} (h : Sb Q1 Q2 w W fl1 L1 b1 fl2 L2 b2 rs xb o) : W.heap[xb]? = some o := by
  obtain ⟨v1, v2, _, _, _, _, hx, _⟩ := h
  exact hx
theorem Sb.row {Q1 Q2 : TQ} {w W : World} {fl1 fl2 : Int} {L1 L2 : List H} {b1 b2 : Nat} {rs : Rws} {xb : Nat} {o : Obj} (h : Sb Q1 Q2 w W fl1 L1 b1 fl2 L2 b2 rs xb o) {a : Option Addr} {ms : List M} (hr : (a, ms) ∈ rs) : RdN cM (fun _ => True) W a ms := by
  obtain ⟨v1, v2, _, _, _, h3, _⟩ := h
  exact (h3 _ hr).wide (fun _ _ _ => trivial)
theorem Sb.flip {Q1 Q2 : TQ} {w W : World} {fl1 fl2 : Int} {L1 L2 : List H} {b1 b2 : Nat} {rs : Rws} {xb : Nat} {o : Obj} (h : Sb Q1 Q2 w W fl1 L1 b1 fl2 L2 b2 rs xb o) : Sb Q2 Q1 w W fl2 L2 b2 fl1 L1 b1 rs xb o := by
  obtain ⟨v1, v2, h1, h2, hb, h3, hx, x1, x2⟩ := h
  exact ⟨v2, v1, h2, h1, hb, fun r hr => (h3 r hr).wide (fun k _ e => ⟨e.2, e.1⟩), hx, x2, x1⟩
theorem Sb.on {Q1 Q2 : TQ} (k1 : Kp Q1) (k2 : Kp Q2) {w W W2 : World} {fl1 fl2 : Int} {L1 L2 : List H} {b1 b2 : Nat} {rs : Rws} {xb : Nat} {o : Obj} (h : Sb Q1 Q2 w W fl1 L1 b1 fl2 L2 b2 rs xb o) (hb : Below W.heap.size W W2) : Sb Q1 Q2 w W2 fl1 L1 b1 fl2 L2 b2 rs xb o := by
  obtain ⟨v1, v2, h1, h2, hb0, h3, hx, x1, x2⟩ := h
  exact ⟨v1, v2, k1.below h1 hb, k2.below h2 hb, Below.on hb0 hb, fun r hr => (h3 r hr).below hb, (hb.block xb (Array.getElem?_eq_some_iff.1 hx).1).trans hx, x1, x2⟩
theorem sb_upd {Q1 Q2 : TQ} (k1 : Kp Q1) (k2 : Kp Q2) {w W w' : World} {fl1 fl1' fl2 : Int} {L1 L1' L2 : List H} {b1 b2 : Nat} {v1 v1' v2 : Value} {rs rs' : Rws} {xb : Nat} {o : Obj}
    (h1 : Q1 (fun k => k < w.heap.size ∨ D b2 v2 k) W fl1 L1 b1 v1) (h2 : Q2 (fun k => k < w.heap.size ∨ D b1 v1 k) W fl2 L2 b2 v2) (hb : Below w.heap.size w W) (h3 : ∀ r ∈ rs, RdN cM (fun k => ¬ D b1 v1 k ∧ ¬ D b2 v2 k) W r.1 r.2) (hx : W.heap[xb]? = some o) (x1 : ¬ D b1 v1 xb) (x2 : ¬ D b2 v2 xb)
    (g1 : Q1 (fun k => k < w.heap.size ∨ D b2 v2 k) w' fl1' L1' b1 v1') (g2 : Mw (D b1 v1) (D b1 v1') W w') (g3 : ∀ r ∈ rs', RdN cM (fun k => W.heap.size ≤ k ∧ ¬ D b1 v1' k) w' r.1 r.2) : Sb Q1 Q2 w w' fl1' L1' b1 fl2 L2 b2 (rs' ++ rs) xb o := by
  have hxl : xb < W.heap.size := (Array.getElem?_eq_some_iff.1 hx).1
  refine ⟨v1', v2, g1, ?_, hb.trans (g2.bel hb.size (fun i d => ?_)), fun r hr => ?_, (g2.fr.block xb hxl x1).trans hx, fun d => x1 (g2.new xb hxl d), x2⟩
  · refine k2.keep h2 g2.fr (fun k e d => k2.dx h2 d (Or.inr e)) (fun k hk e d => ?_) (fun k e => ?_)
    · rcases e with e | e
      · exact k2.dx h2 d (Or.inl e)
      · exact k2.dx h2 d (Or.inr (g2.new k hk e))
    · rcases e with e | e
      · exact Nat.lt_of_lt_of_le e (Nat.le_trans hb.size g2.fr.size)
      · exact k1.dlt g1 e
  · have := k1.dx h1 d
    rcases Nat.lt_or_ge i w.heap.size with g | g
    · exact absurd (Or.inl g) this
    · exact g
  · rcases List.mem_append.1 hr with hr | hr
    · exact (g3 r hr).wide (fun k _ e => ⟨e.2, fun d => by have := k2.dlt h2 d; omega⟩)
    · exact (h3 r hr).keep g2.fr (fun k hk e => ⟨e.1, fun d => e.1 (g2.new k hk d), e.2⟩)
/-- A box is made. -/
theorem Sb.start {Q1 Q2 : TQ} (k1 : Kp Q1) (k2 : Kp Q2) {w W : World} {fl1 fl2 : Int} {L1 L2 : List H} {b1 b2 : Nat} (h : Pg Q1 Q2 w W fl1 L1 b1 fl2 L2 b2 [] nv []) (o : Obj) : Sb Q1 Q2 w (W.alloc o) fl1 L1 b1 fl2 L2 b2 [] W.heap.size o := by
  obtain ⟨v1, v2, h1, h2, hb, _⟩ := h
  have ha := al W o
  exact ⟨v1, v2, k1.below h1 ha, k2.below h2 ha, Below.on hb ha, (fun r hr => by cases hr), newB W o, fun d => by have := k1.dlt h1 d; omega, fun d => by have := k2.dlt h2 d; omega⟩
theorem Sb.back {Q1 Q2 : TQ} {w W : World} {fl1 fl2 : Int} {L1 L2 : List H} {b1 b2 : Nat} {rs : Rws} {xb : Nat} {o : Obj} (h : Sb Q1 Q2 w W fl1 L1 b1 fl2 L2 b2 rs xb o) : Pg Q1 Q2 w W fl1 L1 b1 fl2 L2 b2 [] nv [] := by
  obtain ⟨v1, v2, h1, h2, hb, _⟩ := h
  exact ⟨v1, v2, h1, h2, hb, (fun r hr => by cases hr), OwR.nil _ _ _, (fun k e => by simp [Value.ownBlock] at e)⟩
theorem Sb.lowc {Q1 : TQ} {w W : World} {fl1 fl2 : Int} {L1 L2 : List H} {b1 b2 : Nat} {rs : Rws} {xb : Nat} {o : Obj} (h : Sb Q1 RQ w W fl1 L1 b1 fl2 L2 b2 rs xb o) : W.cell? ⟨b2, 0, none⟩ = some (.int .i64 fl2) ∧ b2 < W.heap.size := by
  obtain ⟨v1, v2, h1, h2, _⟩ := h
  exact ⟨h2.c0, h2.lt⟩
theorem Sb.cap {Q2 : TQ} {w W : World} {fl1 fl2 : Int} {L1 L2 : List H} {b1 b2 : Nat} {rs : Rws} {xb : Nat} {o : Obj} (h : Sb GQ Q2 w W fl1 L1 b1 fl2 L2 b2 rs xb o) : L1.length ≤ 256 := by
  obtain ⟨v1, v2, h1, _⟩ := h
  exact h1.cap
theorem Sb.floor {Q2 : TQ} {w W : World} {fl1 fl2 : Int} {L1 L2 : List H} {b1 b2 : Nat} {rs : Rws} {xb : Nat} {o : Obj} (h : Sb GQ Q2 w W fl1 L1 b1 fl2 L2 b2 rs xb o) : Calls Try.prog 20 #[.pointer (some ⟨b1, 0, none⟩)] W fun e w' => e = .returned (.int .i64 fl1) ∧ W = w' := by
  obtain ⟨v1, v2, h1, _⟩ := h
  exact floor_any h1
/-- The document's gate is made beside the program's. -/
theorem Pg.rnew {w W : World} {b1 : Nat} {fl : Int} {L : List H} (h : Ga w W fl L b1 []) :
    Calls Try.prog 10 #[] W fun e w' => e = .returned (.pointer (some ⟨W.heap.size, 0, none⟩)) ∧ Pg GQ RQ w w' fl L b1 0 [] W.heap.size [] nv [] := by
  obtain ⟨v, h1, hb, _⟩ := h
  refine (rnew_any W (X := fun k => k < w.heap.size ∨ D b1 v k) (fun k e => by rcases e with e | e; exact Nat.lt_of_lt_of_le e hb.size; exact h1.dlt e)).mono fun e w' ⟨he, hp, hb2⟩ => ⟨he, v, .slice none 0 0, ?_, hp, Below.on hb hb2, (fun r hr => by cases hr), OwR.nil _ _ _, (fun k e => by simp [Value.ownBlock] at e)⟩
  refine h1.keep (Fr.of_below (S := fun _ => False) hb2) (fun _ e => e.elim) (fun k hk e d => ?_) (fun k e => ?_)
  · rcases e with e | e
    · exact h1.dx d e
    · rcases e with e | e
      · omega
      · simp [Value.ownBlock] at e
  · rcases e with e | e
    · exact Nat.lt_of_lt_of_le e (Nat.le_trans hb.size hb2.size)
    · exact hp.dlt e
theorem Sb.hold {Q2 : TQ} (k2 : Kp Q2) {w W : World} {fl1 fl2 : Int} {L1 L2 : List H} {b1 b2 : Nat} {rs : Rws} {xb : Nat} {o : Obj} (h : Sb GQ Q2 w W fl1 L1 b1 fl2 L2 b2 rs xb o) (x : H) :
    Calls Try.prog 11 #[.pointer (some ⟨b1, 0, none⟩), kv x.1, mv x.2] W fun e w' => e = .returned (.int .i64 (holdE fl1 L1 x)) ∧ Sb GQ Q2 w w' fl1 (holdL fl1 L1 x) b1 fl2 L2 b2 rs xb o := by
  obtain ⟨v1, v2, h1, h2, hb, h3, hx, x1, x2⟩ := h
  exact (hold_any h1 x).mono fun e w' ⟨v', he, hq, hm⟩ => ⟨he, sb_upd kpG k2 h1 h2 hb h3 hx x1 x2 hq hm (rs' := []) (fun r hr => by cases hr)⟩
theorem Sb.rhold {Q2 : TQ} (k2 : Kp Q2) {w W : World} {fl1 fl2 : Int} {L1 L2 : List H} {b1 b2 : Nat} {rs : Rws} {xb : Nat} {o : Obj} (h : Sb RQ Q2 w W fl1 L1 b1 fl2 L2 b2 rs xb o) (x : H) :
    Calls Try.prog 12 #[.pointer (some ⟨b1, 0, none⟩), kv x.1, mv x.2] W fun e w' => e = .returned (.int .i64 (holdE fl1 L1 x)) ∧ Sb RQ Q2 w w' fl1 (holdL fl1 L1 x) b1 fl2 L2 b2 rs xb o := by
  obtain ⟨v1, v2, h1, h2, hb, h3, hx, x1, x2⟩ := h
  exact (rhold_any h1 x).mono fun e w' ⟨v', he, hq, hm⟩ => ⟨he, sb_upd kpR k2 h1 h2 hb h3 hx x1 x2 hq hm (rs' := []) (fun r hr => by cases hr)⟩
theorem Sb.drop {Q2 : TQ} (k2 : Kp Q2) {w W : World} {fl1 fl2 : Int} {L1 L2 : List H} {b1 b2 : Nat} {rs : Rws} {xb : Nat} {o : Obj} (h : Sb GQ Q2 w W fl1 L1 b1 fl2 L2 b2 rs xb o) (k : K) :
    Calls Try.prog 14 #[.pointer (some ⟨b1, 0, none⟩), kv k] W fun e w' => ∃ a c, e = .returned (.slice a (dropG k L1).length c) ∧ Sb GQ Q2 w w' fl1 (L1.filter (befK k)) b1 fl2 L2 b2 ((a, dropG k L1) :: rs) xb o := by
  obtain ⟨v1, v2, h1, h2, hb, h3, hx, x1, x2⟩ := h
  refine (drop_any h1 k).mono fun e w' ⟨a, n, c, v', he, hr, hn, hq, hm⟩ => ⟨a, c, by rw [he, hr.look.1], ?_⟩
  exact sb_upd kpG k2 h1 h2 hb h3 hx x1 x2 hq hm (rs' := [(a, dropG k L1)]) (fun r hr' => by
    obtain rfl : r = (a, dropG k L1) := by simpa using hr'
    exact hr.look.2.wide (fun k _ e => hn k e))
theorem Sb.rdrop {Q2 : TQ} (k2 : Kp Q2) {w W : World} {fl1 fl2 : Int} {L1 L2 : List H} {b1 b2 : Nat} {rs : Rws} {xb : Nat} {o : Obj} (h : Sb RQ Q2 w W fl1 L1 b1 fl2 L2 b2 rs xb o) (k : K) :
    Calls Try.prog 15 #[.pointer (some ⟨b1, 0, none⟩), kv k] W fun e w' => ∃ a c, e = .returned (.slice a (dropG k L1).length c) ∧ Sb RQ Q2 w w' fl1 (L1.filter (befK k)) b1 fl2 L2 b2 ((a, dropG k L1) :: rs) xb o := by
  obtain ⟨v1, v2, h1, h2, hb, h3, hx, x1, x2⟩ := h
  refine (rdrop_any h1 k).mono fun e w' ⟨a, n, c, v', he, hr, hn, hq, hm⟩ => ⟨a, c, by rw [he, hr.look.1], ?_⟩
  exact sb_upd kpR k2 h1 h2 hb h3 hx x1 x2 hq hm (rs' := [(a, dropG k L1)]) (fun r hr' => by
    obtain rfl : r = (a, dropG k L1) := by simpa using hr'
    exact hr.look.2.wide (fun k _ e => hn k e))
theorem Sb.open {Q2 : TQ} (k2 : Kp Q2) {w W : World} {fl1 fl2 : Int} {L1 L2 : List H} {b1 b2 : Nat} {rs : Rws} {xb : Nat} {o : Obj} (h : Sb GQ Q2 w W fl1 L1 b1 fl2 L2 b2 rs xb o) (t : Int) :
    Calls Try.prog 16 #[.pointer (some ⟨b1, 0, none⟩), .int .i64 t] W fun e w' => ∃ a c, e = .returned (.slice a (openG t L1).length c) ∧ Sb GQ Q2 w w' (max fl1 t) (L1.filter (fun x => !low t x)) b1 fl2 L2 b2 ((a, openG t L1) :: rs) xb o := by
  obtain ⟨v1, v2, h1, h2, hb, h3, hx, x1, x2⟩ := h
  refine (open_any h1 t).mono fun e w' ⟨a, n, c, v', he, hr, hn, hq, hm⟩ => ⟨a, c, by rw [he, hr.look.1], ?_⟩
  exact sb_upd kpG k2 h1 h2 hb h3 hx x1 x2 hq hm (rs' := [(a, openG t L1)]) (fun r hr' => by
    obtain rfl : r = (a, openG t L1) := by simpa using hr'
    exact hr.look.2.wide (fun k _ e => hn k e))
theorem Sb.ropen {Q2 : TQ} (k2 : Kp Q2) {w W : World} {fl1 fl2 : Int} {L1 L2 : List H} {b1 b2 : Nat} {rs : Rws} {xb : Nat} {o : Obj} (h : Sb RQ Q2 w W fl1 L1 b1 fl2 L2 b2 rs xb o) (t : Int) :
    Calls Try.prog 17 #[.pointer (some ⟨b1, 0, none⟩), .int .i64 t] W fun e w' => ∃ a c, e = .returned (.slice a (openG t L1).length c) ∧ Sb RQ Q2 w w' (max fl1 t) (L1.filter (fun x => !low t x)) b1 fl2 L2 b2 ((a, openG t L1) :: rs) xb o := by
  obtain ⟨v1, v2, h1, h2, hb, h3, hx, x1, x2⟩ := h
  refine (ropen_any h1 t).mono fun e w' ⟨a, n, c, v', he, hr, hn, hq, hm⟩ => ⟨a, c, by rw [he, hr.look.1], ?_⟩
  exact sb_upd kpR k2 h1 h2 hb h3 hx x1 x2 hq hm (rs' := [(a, openG t L1)]) (fun r hr' => by
    obtain rfl : r = (a, openG t L1) := by simpa using hr'
    exact hr.look.2.wide (fun k _ e => hn k e))
theorem Sb.retract {Q2 : TQ} (k2 : Kp Q2) {w W : World} {fl1 fl2 : Int} {L1 L2 : List H} {b1 b2 : Nat} {rs : Rws} {xb : Nat} {o : Obj} (h : Sb GQ Q2 w W fl1 L1 b1 fl2 L2 b2 rs xb o) (k : K) :
    Calls Try.prog 18 #[.pointer (some ⟨b1, 0, none⟩), kv k] W fun e w' => e = .returned (.tuple #[.int .i64 (retN k L1), .int .i64 (retE k L1)]) ∧ Sb GQ Q2 w w' fl1 (L1.filter (fun x => !hasK k x)) b1 fl2 L2 b2 rs xb o := by
  obtain ⟨v1, v2, h1, h2, hb, h3, hx, x1, x2⟩ := h
  exact (retract_any h1 k).mono fun e w' ⟨v', he, hq, hm⟩ => ⟨he, sb_upd kpG k2 h1 h2 hb h3 hx x1 x2 hq hm (rs' := []) (fun r hr => by cases hr)⟩
theorem Sb.rretract {Q2 : TQ} (k2 : Kp Q2) {w W : World} {fl1 fl2 : Int} {L1 L2 : List H} {b1 b2 : Nat} {rs : Rws} {xb : Nat} {o : Obj} (h : Sb RQ Q2 w W fl1 L1 b1 fl2 L2 b2 rs xb o) (k : K) :
    Calls Try.prog 19 #[.pointer (some ⟨b1, 0, none⟩), kv k] W fun e w' => e = .returned (.tuple #[.int .i64 (retN k L1), .int .i64 (retE k L1)]) ∧ Sb RQ Q2 w w' fl1 (L1.filter (fun x => !hasK k x)) b1 fl2 L2 b2 rs xb o := by
  obtain ⟨v1, v2, h1, h2, hb, h3, hx, x1, x2⟩ := h
  exact (rretract_any h1 k).mono fun e w' ⟨v', he, hq, hm⟩ => ⟨he, sb_upd kpR k2 h1 h2 hb h3 hx x1 x2 hq hm (rs' := []) (fun r hr => by cases hr)⟩
theorem Sb.held {Q2 : TQ} (k2 : Kp Q2) {w W : World} {fl1 fl2 : Int} {L1 L2 : List H} {b1 b2 : Nat} {rs : Rws} {xb : Nat} {o : Obj} (h : Sb GQ Q2 w W fl1 L1 b1 fl2 L2 b2 rs xb o) :
    Calls Try.prog 21 #[.pointer (some ⟨b1, 0, none⟩)] W fun e w' => ∃ a c, e = .returned (.slice a L1.length c) ∧ Sb GQ Q2 w w' fl1 L1 b1 fl2 L2 b2 ((a, msgs L1) :: rs) xb o := by
  obtain ⟨v1, v2, h1, h2, hb, h3, hx, x1, x2⟩ := h
  refine (held_any h1).mono fun e w' ⟨a, c, he, hr, hn, hb2⟩ => ⟨a, c, he, ?_⟩
  exact sb_upd kpG k2 h1 h2 hb h3 hx x1 x2 (h1.below hb2) (Mw.below hb2) (rs' := [(a, msgs L1)]) (fun r hr' => by
    obtain rfl : r = (a, msgs L1) := by simpa using hr'
    exact hr.look.2.wide (fun k _ e => ⟨hn k e, fun d => by have := hn k e; have := h1.dlt d; omega⟩))
theorem Sb.rheld {Q2 : TQ} (k2 : Kp Q2) {w W : World} {fl1 fl2 : Int} {L1 L2 : List H} {b1 b2 : Nat} {rs : Rws} {xb : Nat} {o : Obj} (h : Sb RQ Q2 w W fl1 L1 b1 fl2 L2 b2 rs xb o) :
    Calls Try.prog 22 #[.pointer (some ⟨b1, 0, none⟩)] W fun e w' => ∃ a c, e = .returned (.slice a L1.length c) ∧ Sb RQ Q2 w w' fl1 L1 b1 fl2 L2 b2 ((a, msgs L1) :: rs) xb o := by
  obtain ⟨v1, v2, h1, h2, hb, h3, hx, x1, x2⟩ := h
  refine (rheld_any h1).mono fun e w' ⟨a, c, he, hr, hn, hb2⟩ => ⟨a, c, he, ?_⟩
  exact sb_upd kpR k2 h1 h2 hb h3 hx x1 x2 (h1.below hb2) (Mw.below hb2) (rs' := [(a, msgs L1)]) (fun r hr' => by
    obtain rfl : r = (a, msgs L1) := by simpa using hr'
    exact hr.look.2.wide (fun k _ e => ⟨hn k e, fun d => by have := hn k e; have := h1.dlt d; omega⟩))
end Go.Proofs.Ytpkemgpnpadkfaa
