/- Proved: the calls of a cut that is told by letters. -/
import Derived.Test.YtdfjmnckgcpmgaaLph
import Derived.Test.YtdfjmnckgcpmgaaLw0
namespace Go.Proofs.Ytdfjmnckgcpmgaa
open Go.RowKit Go.Shelf
open K
set_option linter.unusedVariables false

structure Q (w : World) (b : Nat) (W : World) (m n : Nat) (is : Bool) (k : Int) (f g : Nat → Bool) (o0 o1 le v r : Int) : Prop where
  ex : ∃ c, C1 w m c b W ∧ Ph n is k f g o0 o1 le v r c
theorem Q.bel {w W : World} {b m n : Nat} {is : Bool} {k : Int} {f g : Nat → Bool} {o0 o1 le v r : Int} (h : Q w b W m n is k f g o0 o1 le v r) : Below w.heap.size w W := by obtain ⟨c, h1, _⟩ := h; exact h1.bel
theorem Q.on {w W W2 : World} {b m n : Nat} {is : Bool} {k : Int} {f g : Nat → Bool} {o0 o1 le v r : Int} (h : Q w b W m n is k f g o0 o1 le v r) (hb : Below W.heap.size W W2) : Q w b W2 m n is k f g o0 o1 le v r := by obtain ⟨c, h1, h2⟩ := h; exact ⟨c, h1.on hb, h2⟩
theorem Q.same {w W : World} {b m n : Nat} {is : Bool} {k : Int} {f f' g g' : Nat → Bool} {o0 o1 le v r : Int} (h : Q w b W m n is k f g o0 o1 le v r) (hf : ∀ i, i < n → f i = f' i) (hg : ∀ i, i < n → g i = g' i) : Q w b W m n is k f' g' o0 o1 le v r := by obtain ⟨c, h1, h2⟩ := h; exact ⟨c, h1, h2.same hf hg⟩
theorem Q.wide {w W : World} {b m m' n : Nat} {is : Bool} {k : Int} {f g : Nat → Bool} {o0 o1 le v r : Int} (h : Q w b W m n is k f g o0 o1 le v r) (hm : m ≤ m') : Q w b W m' n is k f g o0 o1 le v r := by obtain ⟨c, h1, h2⟩ := h; exact ⟨c, h1.wide hm, h2⟩
theorem Q.new (w : World) (n : Nat) (h1 : 1 ≤ n) (h8 : n ≤ 8) : Calls Try.prog 8 #[.int .i64 n] w fun e w' => e = .returned (.tuple #[pp w.heap.size, .int .i64 0]) ∧ Q w w.heap.size w' 0 n false 0 nob nob 0 0 0 0 0 :=
  (C1.new w n h1 h8).mono fun e w' ⟨he, h⟩ => ⟨he, _, h, Ph.new h1⟩
theorem Q.begin {w W : World} {b m n : Nat} {k : Int} {f g : Nat → Bool} {o0 o1 le v r : Int} (h : Q w b W m n false k f g o0 o1 le v r) :
    Calls Try.prog 10 #[pp b] W fun e w' => e = .returned (.int .i64 0) ∧ Q w b w' m n true k nob nob o0 o1 inf v r := by
  obtain ⟨c, h1, h2⟩ := h
  have C := h1.begin
  rw [h2.beg.1] at C
  exact C.mono fun e w' ⟨he, h⟩ => ⟨he, _, h, h2.beg.2⟩
theorem Q.begin2 {w W : World} {b m n : Nat} {k : Int} {f g : Nat → Bool} {o0 o1 le v r : Int} (h : Q w b W m n true k f g o0 o1 le v r) :
    Calls Try.prog 10 #[pp b] W fun e w' => e = .returned (.int .i64 130) ∧ Q w b w' m n true k f g o0 o1 le v r := by
  obtain ⟨c, h1, h2⟩ := h
  have C := h1.begin
  rw [h2.beg2.1, h2.beg2.2] at C
  exact C.mono fun e w' ⟨he, h⟩ => ⟨he, _, h, h2⟩
theorem Q.turn {w W : World} {b m n : Nat} {k : Int} {f g : Nat → Bool} {o0 o1 le v r : Int} (h : Q w b W m n true k f g o0 o1 le v r) {a : Nat} (ha : a < n) (hf : f a = false) :
    Calls Try.prog 16 #[pp b, .int .i64 a] W fun e w' => e = .returned (.int .i64 0) ∧ Q w b w' m n true k (too f a) g o0 o1 le v r := by
  obtain ⟨c, h1, h2⟩ := h
  have C := h1.turn a
  rw [(h2.tur ha hf).1] at C
  exact C.mono fun e w' ⟨he, h⟩ => ⟨he, _, h, (h2.tur ha hf).2⟩
theorem Q.turn2 {w W : World} {b m n : Nat} {k : Int} {f g : Nat → Bool} {o0 o1 le v r : Int} (h : Q w b W m n true k f g o0 o1 le v r) {a : Nat} (ha : a < n) (hf : f a = true) :
    Calls Try.prog 16 #[pp b, .int .i64 a] W fun e w' => e = .returned (.int .i64 130) ∧ Q w b w' m n true k f g o0 o1 le v r := by
  obtain ⟨c, h1, h2⟩ := h
  have C := h1.turn a
  rw [(h2.tur2 ha hf).1, (h2.tur2 ha hf).2] at C
  exact C.mono fun e w' ⟨he, h⟩ => ⟨he, _, h, h2⟩
theorem Q.reportO {w W : World} {b m n : Nat} {k : Int} {f g : Nat → Bool} {o0 o1 le v r : Int} (h : Q w b W m n true k f g o0 o1 le v r) (hm : m ≤ 1000000) {i : Nat} (hi : i < n) {t : Int} (ht : okT t = true) {j : Nat} (hj : j < n) (hf : f j = false) :
    Calls Try.prog 18 #[pp b, .int .i64 i, .int .i64 t] W fun e w' => e = .returned (.int .i64 130) ∧ Q w b w' (m + 1) n true k f g o0 o1 le v r := by
  obtain ⟨c, h1, h2⟩ := h
  have C := h1.report hm i t
  rw [(h2.repO hi ht hj hf).1, (h2.repO hi ht hj hf).2] at C
  exact C.mono fun e w' ⟨he, h⟩ => ⟨he, _, h, h2⟩
theorem Q.reportI {w W : World} {b m n : Nat} {k : Int} {f g : Nat → Bool} {o0 o1 le v r : Int} (h : Q w b W m n true k f g o0 o1 le v r) (hm : m ≤ 1000000) {i : Nat} (hi : i < n) {t : Int} (ht : okT t = true) (hf : ∀ i, i < n → f i = true) (hg : g i = false) (ho : 0 < onK k o0 o1) :
    Calls Try.prog 18 #[pp b, .int .i64 i, .int .i64 t] W fun e w' => e = .returned (.int .i64 150) ∧ Q w b w' (m + 1) n true k f g o0 o1 le v r := by
  obtain ⟨c, h1, h2⟩ := h
  have C := h1.report hm i t
  rw [(h2.repI hi ht hf hg ho).1, (h2.repI hi ht hf hg ho).2] at C
  exact C.mono fun e w' ⟨he, h⟩ => ⟨he, _, h, h2⟩
def yes : Nat → Bool := fun _ => true
def upto (j : Nat) : Nat → Bool := fun i => decide (i < j)
/-- All have turned, the first j have reported; behind the last one the round is over. -/
structure RR (w : World) (b : Nat) (W : World) (m n j : Nat) (k : Int) (o0 o1 le v r : Int) : Prop where
  go : j < n → Q w b W m n true k yes (upto j) o0 o1 le v r
  fin : j = n → Q w b W m n false (1 - k) nob nob o0 o1 0 (max v le) (r + 1)
theorem RR.bel {w W : World} {b m n j : Nat} {k : Int} {o0 o1 le v r : Int} (h : RR w b W m n j k o0 o1 le v r) (hj : j ≤ n) : Below w.heap.size w W := by
  by_cases e : j = n
  · exact (h.fin e).bel
  · exact (h.go (by omega)).bel
theorem RR.step {w W : World} {b m n j : Nat} {k : Int} {o0 o1 le v r : Int} (h : RR w b W m n j k o0 o1 le v r) (hm : m ≤ 1000000) (hj : j < n) {t : Int} (ht : okT t = true) (ho : ¬ 0 < onK k o0 o1) :
    Calls Try.prog 18 #[pp b, .int .i64 j, .int .i64 t] W fun e w' => e = .returned (.int .i64 0) ∧ RR w b w' (m + 1) n (j + 1) k o0 o1 (min le t) v r := by
  obtain ⟨c, h1, h2⟩ := h.go hj
  have C := h1.report hm j t
  have hg : upto j j = false := by unfold upto; simp
  by_cases e : j + 1 < n
  · have R := h2.rep hj ht (fun _ _ => rfl) hg ho e (by omega) (by unfold upto; simp)
    rw [R.1] at C
    exact C.mono fun e w' ⟨he, hc⟩ => ⟨he, fun _ => ⟨_, hc, R.2.same (fun _ _ => rfl) (fun i hi => by unfold too upto; by_cases p : i = j <;> simp [p]; omega)⟩, fun p => by omega⟩
  · have R := h2.fin h1.pt.ok hj ht (fun _ _ => rfl) hg ho (fun i hi p => by unfold upto; simp; omega)
    rw [R.1] at C
    exact C.mono fun e w' ⟨he, hc⟩ => ⟨he, fun p => by omega, fun _ => ⟨_, hc, R.2⟩⟩
theorem Q.sent {w W : World} {b m n : Nat} {is : Bool} {k : Int} {f g : Nat → Bool} {o0 o1 le v r : Int} (h : Q w b W m n is k f g o0 o1 le v r) (hm : m ≤ 1000000) {i : Nat} (hi : i < n) {t : Int} (ht : okT t = true) {q : Int} (hq : (if f i = true then 1 - k else k) = q) :
    Calls Try.prog 12 #[pp b, .int .i64 i, .int .i64 t] W fun e w' => e = .returned (.tuple #[.int .i64 q, .int .i64 0]) ∧ Q w b w' (m + 1) n is k f g (if q = 0 then o0 + 1 else o0) (if q = 0 then o1 else o1 + 1) (if f i = true then min le t else le) v r := by
  obtain ⟨c, h1, h2⟩ := h
  have C := h1.sent hm i t
  obtain ⟨e1, e2, e3⟩ := h2.sen h1.pt.ok hi ht hq
  rw [e1, e2] at C
  exact C.mono fun e w' ⟨he, h⟩ => ⟨he, _, h, e3⟩
theorem Q.got {w W : World} {b m n : Nat} {is : Bool} {k : Int} {f g : Nat → Bool} {o0 o1 le v r : Int} (h : Q w b W m n is k f g o0 o1 le v r) (hm : m ≤ 1000000) {i : Nat} (hi : i < n) {q : Int} (hq : q = 0 ∨ q = 1) (ho : onK q o0 o1 ≠ 0) :
    Calls Try.prog 14 #[pp b, .int .i64 i, .int .i64 q] W fun e w' => e = .returned (.int .i64 0) ∧ Q w b w' m n is k f g (if q = 0 then o0 + -1 else o0) (if q = 0 then o1 else o1 + -1) le v r := by
  obtain ⟨c, h1, h2⟩ := h
  have C := h1.got hm i q
  obtain ⟨e1, e2⟩ := h2.got hi hq ho
  rw [e1] at C
  exact C.mono fun e w' ⟨he, h⟩ => ⟨he, _, h, e2⟩
theorem Q.got0 {w W : World} {b m n : Nat} {is : Bool} {k : Int} {f g : Nat → Bool} {o0 o1 le v r : Int} (h : Q w b W m n is k f g o0 o1 le v r) (hm : m ≤ 1000000) (i : Int) {q : Int} (ho : onK q o0 o1 = 0) :
    Calls Try.prog 14 #[pp b, .int .i64 i, .int .i64 q] W fun e w' => e = .returned (.int .i64 1) ∧ Q w b w' m n is k f g o0 o1 le v r := by
  obtain ⟨c, h1, h2⟩ := h
  have C := h1.got hm i q
  obtain ⟨e1, e2⟩ := h2.got0 i ho
  rw [e1, e2] at C
  exact C.mono fun e w' ⟨he, h⟩ => ⟨he, _, h, h2⟩
theorem Q.value {w W : World} {b m n : Nat} {is : Bool} {k : Int} {f g : Nat → Bool} {o0 o1 le v r : Int} (h : Q w b W m n is k f g o0 o1 le v r) : Calls Try.prog 20 #[pp b] W fun e w' => e = .returned (.int .i64 v) ∧ W = w' := by
  obtain ⟨c, h1, h2⟩ := h
  have C := h1.value
  rwa [h2.ev] at C
theorem Q.rounds {w W : World} {b m n : Nat} {is : Bool} {k : Int} {f g : Nat → Bool} {o0 o1 le v r : Int} (h : Q w b W m n is k f g o0 o1 le v r) : Calls Try.prog 21 #[pp b] W fun e w' => e = .returned (.int .i64 r) ∧ W = w' := by
  obtain ⟨c, h1, h2⟩ := h
  have C := h1.rounds
  rwa [h2.er] at C
theorem Q.under {w W : World} {b m n : Nat} {is : Bool} {k : Int} {f g : Nat → Bool} {o0 o1 le v r : Int} (h : Q w b W m n is k f g o0 o1 le v r) : Calls Try.prog 22 #[pp b] W fun e w' => e = .returned (.bool is) ∧ W = w' := by
  obtain ⟨c, h1, h2⟩ := h
  have C := h1.under
  rwa [h2.hi] at C
theorem Q.colour {w W : World} {b m n : Nat} {is : Bool} {k : Int} {f g : Nat → Bool} {o0 o1 le v r : Int} (h : Q w b W m n is k f g o0 o1 le v r) {i : Nat} (hi : i < n) : Calls Try.prog 23 #[pp b, .int .i64 i] W fun e w' => e = .returned (.int .i64 (if f i = true then 1 - k else k)) ∧ W = w' := by
  obtain ⟨c, h1, h2⟩ := h
  have C := h1.colour i
  rwa [h2.colE h1.pt.ok hi] at C
end Go.Proofs.Ytdfjmnckgcpmgaa
