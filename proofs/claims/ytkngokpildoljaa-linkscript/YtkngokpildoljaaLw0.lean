/- Proved: a net's calls as the statements use them: one net in blocks made since, whatever else is made. -/
import Derived.Test.YtkngokpildoljaaLea
namespace Go.Proofs.Ytkngokpildoljaa
open Go.RowKit Go.Shelf
set_option linter.unusedVariables false

theorem updL_upd (L : Ln) (a b : Int) (l m : List It) : updL (updL L a b l) a b m = updL L a b m := by
  funext c d
  by_cases h : c = a ∧ d = b
  · obtain ⟨rfl, rfl⟩ := h; rw [updL_at, updL_at]
  · rw [updL_out _ _ _ _ h, updL_out _ _ _ _ h, updL_out _ _ _ _ h]
/-- A net that was made since w. -/
structure N1 (w W : World) (n room : Nat) (L : Ln) (B : Nat) : Prop where
  net : Nt n room L B W
  lo : w.heap.size ≤ B
  bel : Below w.heap.size w W
theorem N1.on {w W W2 : World} {n room : Nat} {L : Ln} {B : Nat} (h : N1 w W n room L B) (hb : Below W.heap.size W W2) : N1 w W2 n room L B := ⟨h.net.below hb, h.lo, Below.on h.bel hb⟩
theorem N1.wr {w W W2 : World} {n room : Nat} {L L2 : Ln} {B : Nat} (h : N1 w W n room L B) (hn : Nt n room L2 B W2) (hf : Fr (fun k => k = B) W W2) : N1 w W2 n room L2 B :=
  ⟨hn, h.lo, h.bel.trans (hf.below h.bel.size (fun i e => by subst e; exact h.lo))⟩
theorem N1.send {w W : World} {n room : Nat} {L : Ln} {B : Nat} (h : N1 w W n room L B) (a b : Int) (x : It) :
    Calls Try.prog 10 #[.pointer (some ⟨B, 0, none⟩), .int .i64 a, .int .i64 b, iv x] W fun e w' => e = .returned (.int .i64 (sndE n room L a b x)) ∧ N1 w w' n room (sndL n room L a b x) B :=
  (send_any h.net a b x).mono fun e w' ⟨he, hn, hf⟩ => ⟨he, h.wr hn hf⟩
theorem N1.recv {w W : World} {n room : Nat} {L : Ln} {B : Nat} (h : N1 w W n room L B) (a b : Int) :
    Calls Try.prog 14 #[.pointer (some ⟨B, 0, none⟩), .int .i64 a, .int .i64 b] W fun e w' => e = .returned (.tuple #[iv (nthT (L a b) 0), .bool (fstB (L a b))]) ∧ N1 w w' n room (rcvL L a b) B :=
  (recv_any h.net a b).mono fun e w' ⟨he, hn, hf⟩ => ⟨he, h.wr hn hf⟩
theorem N1.room {w W : World} {n room : Nat} {L : Ln} {B : Nat} (h : N1 w W n room L B) (a b : Int) :
    Calls Try.prog 18 #[.pointer (some ⟨B, 0, none⟩), .int .i64 a, .int .i64 b] W fun e w' => e = .returned (.int .i64 (roomN n room L a b)) ∧ N1 w w' n room L B :=
  (room_any h.net a b).mono fun e w' ⟨he, hb⟩ => ⟨he, h.on hb⟩
theorem N1.all {w W : World} {n room : Nat} {L : Ln} {B : Nat} (h : N1 w W n room L B) :
    Calls Try.prog 20 #[.pointer (some ⟨B, 0, none⟩)] W fun e w' => e = .returned (.int .i64 (itms n L).length) ∧ N1 w w' n room L B :=
  (all_any h.net).mono fun e w' ⟨he, hb⟩ => ⟨he, h.on hb⟩
theorem N1.carried {w W : World} {n room : Nat} {L : Ln} {B : Nat} (h : N1 w W n room L B) (c : Int) :
    Calls Try.prog 22 #[.pointer (some ⟨B, 0, none⟩), .int .i64 c] W fun e w' => e = .returned (.int .i64 (carr c (itms n L))) ∧ N1 w w' n room L B :=
  (carried_any h.net c).mono fun e w' ⟨he, hb⟩ => ⟨he, h.on hb⟩
theorem N1.least {w W : World} {n room : Nat} {L : Ln} {B : Nat} (h : N1 w W n room L B) :
    Calls Try.prog 24 #[.pointer (some ⟨B, 0, none⟩)] W fun e w' => e = .returned (.int .i64 (lstI (tms (itms n L)))) ∧ N1 w w' n room L B :=
  (least_net h.net).mono fun e w' ⟨he, hb⟩ => ⟨he, h.on hb⟩
end Go.Proofs.Ytkngokpildoljaa
