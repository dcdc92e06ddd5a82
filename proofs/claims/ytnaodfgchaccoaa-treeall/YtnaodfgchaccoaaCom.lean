/- Proved: what the walks of the statements over a made tree share: the calls, in whatever world behind. -/
import Derived.Test.YtnaodfgchaccoaaMad
import Derived.Test.YtnaodfgchaccoaaMet
import Derived.Test.YtnaodfgchaccoaaPur
namespace Go.Proofs.Ytnaodfgchaccoaa
open Go.RowKit Go.Shelf
set_option linter.unusedVariables false

theorem Below.on {w W W1 : World} (h : Below w.heap.size w W) (g : Below W.heap.size W W1) : Below w.heap.size w W1 := h.trans (g.mono h.size)
/-- A number modulo how many there are. -/
theorem mod_in {zs : List Int} (h : 1 ≤ zs.length) (x : Int) : 0 ≤ x % (zs.length : Int) ∧ x % (zs.length : Int) < (zs.length : Int) := ⟨Int.emod_nonneg _ (by omega), Int.emod_lt_of_pos _ (by omega)⟩
theorem len_nz {zs : List Int} (h : 1 ≤ zs.length) : ((zs.length : Int) == 0) = false := by rw [beq_eq_false_iff_ne]; omega
/-- The parents of a tree that lie in memory since w1. -/
structure Tr (w1 : World) (a : Option Addr) (zs : List Int) : Prop where
  ok : OKT zs
  rd : RdI w1 w1.heap.size a zs
theorem Tr.len {w1 : World} {a : Option Addr} {zs : List Int} (T : Tr w1 a zs) : zs.length ≤ 9223372036854775807 := by have := T.ok.2.1; omega
theorem Tr.made {w : World} {a : Option Addr} {n c : Nat} {z : List Int} (hn : n ≤ maxLen) (h : InB w a n z) :
    Calls Try.prog 20 #[.slice a n c] w fun e w' => ∃ zs a' c', e = .returned (.slice a' zs.length c') ∧ Tr w' a' zs ∧ Below w.heap.size w w' :=
  (made_any w a n c z hn h).mono fun _ _ ⟨zs, a', c', e, h1, h2, h3⟩ => ⟨zs, a', c', e, ⟨h1, h2⟩, h3⟩
theorem Tr.check {w1 W : World} {a : Option Addr} {c : Nat} {zs : List Int} (T : Tr w1 a zs) (hb : Below w1.heap.size w1 W) :
    Calls Try.prog 9 #[.slice a zs.length c] W fun e w' => e = .returned (.int .i64 0) ∧ W = w' := by
  have := check_any W W.heap.size a c zs (T.rd.go (Nat.le_refl _) hb) T.len
  rw [chk_ok T.ok] at this
  exact this.mono fun _ _ g => ⟨g.1, g.2.symm⟩
theorem Tr.isa {w1 W : World} {a : Option Addr} {c : Nat} {zs : List Int} (T : Tr w1 a zs) (u v : Int) (hb : Below w1.heap.size w1 W) :
    Calls Try.prog 16 #[.slice a zs.length c, .int .i64 u, .int .i64 v] W fun e w' => e = .returned (.bool (decide (v ∈ abv zs u))) ∧ Below w1.heap.size w1 w' :=
  (isa_any W a c zs u v (T.rd.go (Nat.le_refl _) hb) T.len).mono fun _ _ g => ⟨g.1, Below.on hb g.2⟩
theorem Tr.meet {w1 W : World} {a : Option Addr} {c : Nat} {zs : List Int} (T : Tr w1 a zs) (u v : Int) (hb : Below w1.heap.size w1 W) :
    Calls Try.prog 18 #[.slice a zs.length c, .int .i64 u, .int .i64 v] W fun e w' => e = .returned (.int .i64 (meet zs u v)) ∧ Below w1.heap.size w1 w' :=
  (meet_any W a c zs u v (T.rd.go (Nat.le_refl _) hb) T.len).mono fun _ _ g => ⟨g.1, Below.on hb g.2⟩
theorem Tr.rmeet {w1 W : World} {a : Option Addr} {c : Nat} {zs : List Int} (T : Tr w1 a zs) (u v : Int) (hb : Below w1.heap.size w1 W) :
    Calls Try.prog 19 #[.slice a zs.length c, .int .i64 u, .int .i64 v] W fun e w' => e = .returned (.int .i64 (Go.Proofs.Ytnaodfgchaccoaa.meet zs u v)) ∧ Below w1.heap.size w1 w' :=
  (rmeet_any W a c zs u v (T.rd.go (Nat.le_refl _) hb) T.len).mono fun _ _ g => ⟨g.1, Below.on hb g.2⟩
/-- A slice that a call has made behind W. -/
def Got (w1 W : World) (e : Ending) (xs : List Int) (w' : World) : Prop := ∃ a' c', e = .returned (.slice a' xs.length c') ∧ RdI w' w'.heap.size a' xs ∧ Below W.heap.size W w' ∧ Below w1.heap.size w1 w'
theorem Tr.above {w1 W : World} {a : Option Addr} {c : Nat} {zs : List Int} (T : Tr w1 a zs) (u : Int) (hb : Below w1.heap.size w1 W) :
    Calls Try.prog 12 #[.slice a zs.length c, .int .i64 u] W fun e w' => Got w1 W e (abv zs u) w' :=
  (above_any W a c zs u (T.rd.go (Nat.le_refl _) hb) T.len).mono fun _ _ ⟨a', c', e, g1, g2⟩ => ⟨a', c', e, g1, g2, Below.on hb g2⟩
theorem Tr.rabove {w1 W : World} {a : Option Addr} {c : Nat} {zs : List Int} (T : Tr w1 a zs) (u : Int) (hb : Below w1.heap.size w1 W) :
    Calls Try.prog 13 #[.slice a zs.length c, .int .i64 u] W fun e w' => Got w1 W e (abv zs u) w' :=
  (rabove_any W a c zs u (T.rd.go (Nat.le_refl _) hb) T.len).mono fun _ _ ⟨a', c', e, g1, g2⟩ => ⟨a', c', e, g1, g2, Below.on hb g2⟩
theorem Tr.below {w1 W : World} {a : Option Addr} {c : Nat} {zs : List Int} (T : Tr w1 a zs) (u : Int) (hb : Below w1.heap.size w1 W) :
    Calls Try.prog 14 #[.slice a zs.length c, .int .i64 u] W fun e w' => Got w1 W e (bel zs u) w' :=
  (below_any W a c zs u (T.rd.go (Nat.le_refl _) hb) T.len).mono fun _ _ ⟨a', c', e, g1, g2⟩ => ⟨a', c', e, g1, g2, Below.on hb g2⟩
theorem Tr.rbelow {w1 W : World} {a : Option Addr} {c : Nat} {zs : List Int} (T : Tr w1 a zs) (u : Int) (hb : Below w1.heap.size w1 W) :
    Calls Try.prog 15 #[.slice a zs.length c, .int .i64 u] W fun e w' => Got w1 W e (bel zs u) w' :=
  (rbelow_any W a c zs u (T.rd.go (Nat.le_refl _) hb) T.len).mono fun _ _ ⟨a', c', e, g1, g2⟩ => ⟨a', c', e, g1, g2, Below.on hb g2⟩
/-- same, of a slice that lay there and one that was made behind it. -/
theorem same_on {w1 W0 W : World} {a a' : Option Addr} {c c' : Nat} {xs : List Int} (hl : xs.length ≤ 16) (h : RdI W0 W0.heap.size a xs) (h' : RdI W W.heap.size a' xs) (hb : Below W0.heap.size W0 W) (hB : Below w1.heap.size w1 W) :
    Calls Try.prog 11 #[.slice a xs.length c, .slice a' xs.length c'] W fun e w' => e = .returned (.bool true) ∧ Below W.heap.size W w' ∧ Below w1.heap.size w1 w' :=
  (same_yes W W.heap.size a a' c c' xs (Nat.le_refl _) (h.go (Nat.le_refl _) hb) h' (by omega)).mono fun _ _ g => ⟨g.1, g.2, Below.on hB g.2⟩
end Go.Proofs.Ytnaodfgchaccoaa
