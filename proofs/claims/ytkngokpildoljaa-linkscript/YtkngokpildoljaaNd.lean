/- Proved: the program's net and the document's beside each other, and blocks that are none of theirs; their calls. -/
import Derived.Test.YtkngokpildoljaaDn5
import Derived.Test.YtkngokpildoljaaDn6
import Derived.Test.YtkngokpildoljaaDn7
import Derived.Test.YtkngokpildoljaaStp
namespace Go.Proofs.Ytkngokpildoljaa
open Go.RowKit Go.Shelf
set_option linter.unusedVariables false

structure ND (w W : World) (Z : Nat → Prop) (n room : Nat) (L M : Ln) (B tb pu : Nat) : Prop where
  ex : ∃ F, DN n room M tb pu W F ∧ ¬ F B ∧ (∀ k, F k → w.heap.size ≤ k) ∧ ∀ k, Z k → ¬ F k
  x : N1 w W n room L B
  z : ∀ k, Z k → k ≠ B ∧ k < W.heap.size ∧ w.heap.size ≤ k
theorem ND.on {w W W2 : World} {Z : Nat → Prop} {n room : Nat} {L M : Ln} {B tb pu : Nat} (h : ND w W Z n room L M B tb pu) (hb : Below W.heap.size W W2) : ND w W2 Z n room L M B tb pu := by
  obtain ⟨F, h1, h2, h3, h4⟩ := h.ex
  exact ⟨⟨F, h1.below hb, h2, h3, h4⟩, h.x.on hb, fun k hk => ⟨(h.z k hk).1, Nat.lt_of_lt_of_le (h.z k hk).2.1 hb.size, (h.z k hk).2.2⟩⟩
theorem ND.less {w W : World} {Z Z2 : Nat → Prop} {n room : Nat} {L M : Ln} {B tb pu : Nat} (h : ND w W Z n room L M B tb pu) (hz : ∀ k, Z2 k → Z k) : ND w W Z2 n room L M B tb pu := by
  obtain ⟨F, h1, h2, h3, h4⟩ := h.ex
  exact ⟨⟨F, h1, h2, h3, fun k hk => h4 k (hz k hk)⟩, h.x, fun k hk => h.z k (hz k hk)⟩
/-- A block that was made since is none of theirs. -/
theorem ND.add {w W : World} {Z : Nat → Prop} {n room : Nat} {L M : Ln} {B tb pu : Nat} (h : ND w W Z n room L M B tb pu) (o : Obj) : ND w (W.alloc o) (fun k => Z k ∨ k = W.heap.size) n room L M B tb pu := by
  have h' := h.on (al W o)
  obtain ⟨F, h1, h2, h3, h4⟩ := h.ex
  have hb := h.x.net.lt
  have hs := h.x.bel.size
  refine ⟨⟨F, h1.below (al W o), h2, h3, fun k hk => ?_⟩, h'.x, fun k hk => ?_⟩
  · rcases hk with g | rfl
    · exact h4 k g
    · intro g; have := h1.lt _ g; omega
  · rcases hk with g | rfl
    · exact h'.z k g
    · exact ⟨by omega, by simp, hs⟩
theorem ND.wz {w W W2 : World} {Z : Nat → Prop} {n room : Nat} {L M : Ln} {B tb pu c : Nat} (h : ND w W Z n room L M B tb pu) (hf : Fr (fun k => k = c) W W2) (hc : Z c) : ND w W2 Z n room L M B tb pu := by
  obtain ⟨F, h1, h2, h3, h4⟩ := h.ex
  obtain ⟨z1, z2, z3⟩ := h.z c hc
  exact ⟨⟨F, h1.keep hf (fun k hk e => by subst e; exact h4 _ hc hk), h2, h3, h4⟩, ⟨h.x.net.keep hf (fun e => z1 e.symm), h.x.lo, h.x.bel.trans (hf.below h.x.bel.size (fun i e => by subst e; exact z3))⟩, fun k hk => ⟨(h.z k hk).1, Nat.lt_of_lt_of_le (h.z k hk).2.1 hf.size, (h.z k hk).2.2⟩⟩
theorem ND.px {w W W2 : World} {Z : Nat → Prop} {n room : Nat} {L L2 M : Ln} {B tb pu : Nat} (h : ND w W Z n room L M B tb pu) (hn : Nt n room L2 B W2) (hf : Fr (fun k => k = B) W W2) : ND w W2 Z n room L2 M B tb pu ∧ Fr (fun k => ¬ Z k) W W2 := by
  obtain ⟨F, h1, h2, h3, h4⟩ := h.ex
  exact ⟨⟨⟨F, h1.keep hf (fun k hk e => by subst e; exact h2 hk), h2, h3, h4⟩, h.x.wr hn hf, fun k hk => ⟨(h.z k hk).1, Nat.lt_of_lt_of_le (h.z k hk).2.1 hf.size, (h.z k hk).2.2⟩⟩, hf.wide (fun k e hz => (h.z k hz).1 e)⟩
theorem ND.dx {w W W2 : World} {Z : Nat → Prop} {n room : Nat} {L M M2 : Ln} {B tb pu : Nat} (h : ND w W Z n room L M B tb pu) (hs : ∀ F, DN n room M tb pu W F → ∃ F2, DN n room M2 tb pu W2 F2 ∧ Stp2 F F2 W W2) : ND w W2 Z n room L M2 B tb pu ∧ Fr (fun k => ¬ Z k) W W2 := by
  obtain ⟨F, h1, h2, h3, h4⟩ := h.ex
  obtain ⟨F2, g1, g2, g3⟩ := hs F h1
  have hb := h.x.net.lt
  have hz := h.x.bel.size
  refine ⟨⟨⟨F2, g1, fun e => ?_, fun k hk => ?_, fun k hk e => ?_⟩, ⟨h.x.net.keep g2 h2, h.x.lo, h.x.bel.trans (g2.below hz h3)⟩, fun k hk => ⟨(h.z k hk).1, Nat.lt_of_lt_of_le (h.z k hk).2.1 g2.size, (h.z k hk).2.2⟩⟩, g2.wide (fun k e hz2 => h4 k hz2 e)⟩
  · rcases g3 _ e with g | g
    · exact h2 g
    · omega
  · rcases g3 _ hk with g | g
    · exact h3 k g
    · omega
  · rcases g3 _ e with g | g
    · exact h4 k hk g
    · have := (h.z k hk).2.1; omega
theorem ND.sendx {w W : World} {Z : Nat → Prop} {n room : Nat} {L M : Ln} {B tb pu : Nat} (h : ND w W Z n room L M B tb pu) (a b : Int) (x : It) :
    Calls Try.prog 10 #[.pointer (some ⟨B, 0, none⟩), .int .i64 a, .int .i64 b, iv x] W fun e w' => e = .returned (.int .i64 (sndE n room L a b x)) ∧ ND w w' Z n room (sndL n room L a b x) M B tb pu ∧ Fr (fun k => ¬ Z k) W w' :=
  (send_any h.x.net a b x).mono fun e w' ⟨he, hn, hf⟩ => ⟨he, h.px hn hf⟩
theorem ND.recvx {w W : World} {Z : Nat → Prop} {n room : Nat} {L M : Ln} {B tb pu : Nat} (h : ND w W Z n room L M B tb pu) (a b : Int) :
    Calls Try.prog 14 #[.pointer (some ⟨B, 0, none⟩), .int .i64 a, .int .i64 b] W fun e w' => e = .returned (.tuple #[iv (nthT (L a b) 0), .bool (fstB (L a b))]) ∧ ND w w' Z n room (rcvL L a b) M B tb pu ∧ Fr (fun k => ¬ Z k) W w' :=
  (recv_any h.x.net a b).mono fun e w' ⟨he, hn, hf⟩ => ⟨he, h.px hn hf⟩
theorem ND.firstx {w W : World} {Z : Nat → Prop} {n room : Nat} {L M : Ln} {B tb pu : Nat} (h : ND w W Z n room L M B tb pu) (a b : Int) :
    Calls Try.prog 12 #[.pointer (some ⟨B, 0, none⟩), .int .i64 a, .int .i64 b] W fun e w' => e = .returned (.tuple #[iv (nthT (L a b) 0), .bool (fstB (L a b))]) ∧ ND w w' Z n room L M B tb pu ∧ Below W.heap.size W w' :=
  (first_any h.x.net a b).mono fun e w' ⟨he, hb⟩ => ⟨he, h.on hb, hb⟩
theorem ND.callD {w W : World} {Z : Nat → Prop} {n room : Nat} {L M M2 : Ln} {B tb pu : Nat} (h : ND w W Z n room L M B tb pu) {f : Nat} {args : Array Value} {R : Value} (hc : ∀ F, DN n room M tb pu W F → Calls Try.prog f args W fun e w' => e = .returned R ∧ ∃ F2, DN n room M2 tb pu w' F2 ∧ Stp2 F F2 W w') :
    Calls Try.prog f args W fun e w' => e = .returned R ∧ ND w w' Z n room L M2 B tb pu ∧ Fr (fun k => ¬ Z k) W w' := by
  obtain ⟨F, h1, h2, h3, h4⟩ := h.ex
  refine (hc F h1).mono fun e w' ⟨he, F2, g1, g2, g3⟩ => ⟨he, ?_⟩
  have hb := h.x.net.lt
  have hz := h.x.bel.size
  refine ⟨⟨⟨F2, g1, fun e => ?_, fun k hk => ?_, fun k hk e => ?_⟩, ⟨h.x.net.keep g2 h2, h.x.lo, h.x.bel.trans (g2.below hz h3)⟩, fun k hk => ⟨(h.z k hk).1, Nat.lt_of_lt_of_le (h.z k hk).2.1 g2.size, (h.z k hk).2.2⟩⟩, g2.wide (fun k e hz2 => h4 k hz2 e)⟩
  · rcases g3 _ e with g | g
    · exact h2 g
    · omega
  · rcases g3 _ hk with g | g
    · exact h3 k g
    · omega
  · rcases g3 _ e with g | g
    · exact h4 k hk g
    · have := (h.z k hk).2.1; omega
theorem ND.readD {w W : World} {Z : Nat → Prop} {n room : Nat} {L M : Ln} {B tb pu : Nat} (h : ND w W Z n room L M B tb pu) {f : Nat} {args : Array Value} {R : Value} (hc : ∀ F, DN n room M tb pu W F → Calls Try.prog f args W fun e w' => e = .returned R ∧ Below W.heap.size W w') :
    Calls Try.prog f args W fun e w' => e = .returned R ∧ ND w w' Z n room L M B tb pu ∧ Below W.heap.size W w' := by
  obtain ⟨F, h1, _⟩ := h.ex
  exact (hc F h1).mono fun e w' ⟨he, hb⟩ => ⟨he, h.on hb, hb⟩
theorem ND.sendy {w W : World} {Z : Nat → Prop} {n room : Nat} {L M : Ln} {B tb pu : Nat} (h : ND w W Z n room L M B tb pu) (a b : Int) (x : It) :
    Calls Try.prog 11 #[.pointer (some ⟨tb, 0, none⟩), .int .i64 a, .int .i64 b, iv x] W fun e w' => e = .returned (.int .i64 (sndE n room M a b x)) ∧ ND w w' Z n room L (sndL n room M a b x) B tb pu ∧ Fr (fun k => ¬ Z k) W w' :=
  h.callD (fun F hd => dsend_any hd a b x)
theorem ND.recvy {w W : World} {Z : Nat → Prop} {n room : Nat} {L M : Ln} {B tb pu : Nat} (h : ND w W Z n room L M B tb pu) (a b : Int) :
    Calls Try.prog 15 #[.pointer (some ⟨tb, 0, none⟩), .int .i64 a, .int .i64 b] W fun e w' => e = .returned (.tuple #[iv (nthT (M a b) 0), .bool (fstB (M a b))]) ∧ ND w w' Z n room L (rcvL M a b) B tb pu ∧ Fr (fun k => ¬ Z k) W w' :=
  h.callD (fun F hd => drecv_any hd a b)
theorem ND.firsty {w W : World} {Z : Nat → Prop} {n room : Nat} {L M : Ln} {B tb pu : Nat} (h : ND w W Z n room L M B tb pu) (a b : Int) :
    Calls Try.prog 13 #[.pointer (some ⟨tb, 0, none⟩), .int .i64 a, .int .i64 b] W fun e w' => e = .returned (.tuple #[iv (nthT (M a b) 0), .bool (fstB (M a b))]) ∧ ND w w' Z n room L M B tb pu ∧ Below W.heap.size W w' :=
  h.readD (fun F hd => dfirst_any hd a b)
/-- Both nets at one state, and a call's box. -/
structure PV (w : World) (ob : Nat) (s : St) (n room : Nat) (L : Ln) (B tb pu : Nat) (W : World) : Prop where
  nd : ND w W (fun k => k = ob) n room L L B tb pu
  bx : BoxS W ob s
theorem PV.on {w : World} {ob : Nat} {s : St} {n room : Nat} {L : Ln} {B tb pu : Nat} {W W2 : World} (h : PV w ob s n room L B tb pu W) (hb : Below W.heap.size W W2) : PV w ob s n room L B tb pu W2 := ⟨h.nd.on hb, h.bx.below hb⟩
theorem PV.readX {w : World} {ob : Nat} {s : St} {n room : Nat} {L : Ln} {B tb pu : Nat} {W : World} (h : PV w ob s n room L B tb pu W) {f : Nat} {args : Array Value} {R : Value} (hc : Nt n room L B W → Calls Try.prog f args W fun e w' => e = .returned R ∧ Below W.heap.size W w') :
    Calls Try.prog f args W fun e w' => e = .returned R ∧ PV w ob s n room L B tb pu w' :=
  (hc h.nd.x.net).mono fun e w' ⟨he, hb⟩ => ⟨he, h.on hb⟩
theorem PV.readD {w : World} {ob : Nat} {s : St} {n room : Nat} {L : Ln} {B tb pu : Nat} {W : World} (h : PV w ob s n room L B tb pu W) {f : Nat} {args : Array Value} {R : Value} (hc : ∀ F, DN n room L tb pu W F → Calls Try.prog f args W fun e w' => e = .returned R ∧ Below W.heap.size W w') :
    Calls Try.prog f args W fun e w' => e = .returned R ∧ PV w ob s n room L B tb pu w' := by
  obtain ⟨F, h1, _⟩ := h.nd.ex
  exact (hc F h1).mono fun e w' ⟨he, hb⟩ => ⟨he, h.on hb⟩
theorem PV.two {w : World} {ob : Nat} {s : St} {n room : Nat} {L : Ln} {B tb pu : Nat} {W : World} (h : PV w ob s n room L B tb pu W) : W.cell? ⟨ob, 1, none⟩ = some (.int .i64 s.a) ∧ W.cell? ⟨ob, 2, none⟩ = some (.int .i64 s.b) := ⟨h.bx.cells.2.1, h.bx.cells.2.2.1⟩
end Go.Proofs.Ytkngokpildoljaa
