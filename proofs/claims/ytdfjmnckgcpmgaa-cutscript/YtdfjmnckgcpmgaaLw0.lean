/- Proved: the calls of a cut that was made since w. -/
import Derived.Test.YtdfjmnckgcpmgaaPc3
namespace Go.Proofs.Ytdfjmnckgcpmgaa
open Go.RowKit Go.Shelf
open K
set_option linter.unusedVariables false

structure C1 (w : World) (B : Nat) (c : Cu) (b : Nat) (W : World) : Prop where
  pt : PT B c b W
  bel : Below w.heap.size w W
  ge : w.heap.size ≤ b
theorem C1.on {w W W2 : World} {B : Nat} {c : Cu} {b : Nat} (h : C1 w B c b W) (g : Below W.heap.size W W2) : C1 w B c b W2 := ⟨h.pt.below g, Below.on h.bel g, h.ge⟩
theorem C1.wide {w W : World} {B B' : Nat} {c : Cu} {b : Nat} (h : C1 w B c b W) (hB : B ≤ B') : C1 w B' c b W := ⟨⟨h.pt.ok.wide hB, h.pt.blk⟩, h.bel, h.ge⟩
theorem C1.wr {w W W2 : World} {B B' : Nat} {c c' : Cu} {b : Nat} (h : C1 w B c b W) (hp : PT B' c' b W2) (hf : Fr (fun k => k = b) W W2) : C1 w B' c' b W2 := ⟨hp, h.bel.trans (hf.below h.bel.size (fun i e => by rw [e]; exact h.ge)), h.ge⟩
theorem C1.begin {w W : World} {B : Nat} {c : Cu} {b : Nat} (h : C1 w B c b W) :
    Calls Try.prog 10 #[pp b] W fun e w' => e = .returned (.int .i64 (begE c)) ∧ C1 w B (begC c) b w' := (begin_any h.pt).mono fun e w' ⟨he, hp, hf⟩ => ⟨he, h.wr hp hf⟩
theorem C1.sent {w W : World} {B : Nat} {c : Cu} {b : Nat} (h : C1 w B c b W) (hB : B ≤ 1000000) (i t : Int) :
    Calls Try.prog 12 #[pp b, .int .i64 i, .int .i64 t] W fun e w' => e = .returned (.tuple #[.int .i64 (senK c i t), .int .i64 (senE c i t)]) ∧ C1 w (B + 1) (senC c i t) b w' := (sent_any h.pt hB i t).mono fun e w' ⟨he, hp, hf⟩ => ⟨he, h.wr hp hf⟩
theorem C1.got {w W : World} {B : Nat} {c : Cu} {b : Nat} (h : C1 w B c b W) (hB : B ≤ 1000000) (i k : Int) :
    Calls Try.prog 14 #[pp b, .int .i64 i, .int .i64 k] W fun e w' => e = .returned (.int .i64 (gotE c i k)) ∧ C1 w B (gotC c i k) b w' := (got_any h.pt hB i k).mono fun e w' ⟨he, hp, hf⟩ => ⟨he, h.wr hp hf⟩
theorem C1.turn {w W : World} {B : Nat} {c : Cu} {b : Nat} (h : C1 w B c b W) (i : Int) :
    Calls Try.prog 16 #[pp b, .int .i64 i] W fun e w' => e = .returned (.int .i64 (turE c i)) ∧ C1 w B (turC c i) b w' := (turn_any h.pt i).mono fun e w' ⟨he, hp, hf⟩ => ⟨he, h.wr hp hf⟩
theorem C1.report {w W : World} {B : Nat} {c : Cu} {b : Nat} (h : C1 w B c b W) (hB : B ≤ 1000000) (i t : Int) :
    Calls Try.prog 18 #[pp b, .int .i64 i, .int .i64 t] W fun e w' => e = .returned (.int .i64 (repE c i t)) ∧ C1 w (B + 1) (repC c i t) b w' := (report_any h.pt hB i t).mono fun e w' ⟨he, hp, hf⟩ => ⟨he, h.wr hp hf⟩
theorem C1.value {w W : World} {B : Nat} {c : Cu} {b : Nat} (h : C1 w B c b W) : Calls Try.prog 20 #[pp b] W fun e w' => e = .returned (.int .i64 c.v) ∧ W = w' := value_any h.pt
theorem C1.rounds {w W : World} {B : Nat} {c : Cu} {b : Nat} (h : C1 w B c b W) : Calls Try.prog 21 #[pp b] W fun e w' => e = .returned (.int .i64 c.r) ∧ W = w' := rounds_any h.pt
theorem C1.under {w W : World} {B : Nat} {c : Cu} {b : Nat} (h : C1 w B c b W) : Calls Try.prog 22 #[pp b] W fun e w' => e = .returned (.bool c.is) ∧ W = w' := under_any h.pt
theorem C1.colour {w W : World} {B : Nat} {c : Cu} {b : Nat} (h : C1 w B c b W) (i : Int) : Calls Try.prog 23 #[pp b, .int .i64 i] W fun e w' => e = .returned (.int .i64 (colE c i)) ∧ W = w' := colour_any h.pt i
theorem C1.new (w : World) (n : Nat) (h1 : 1 ≤ n) (h8 : n ≤ 8) :
    Calls Try.prog 8 #[.int .i64 n] w fun e w' => e = .returned (.tuple #[pp w.heap.size, .int .i64 0]) ∧ C1 w 0 (K.new n) w.heap.size w' := (new_ok w n h1 h8).mono fun e w' ⟨he, hp, hb⟩ => ⟨he, hp, hb, Nat.le_refl _⟩
end Go.Proofs.Ytdfjmnckgcpmgaa
