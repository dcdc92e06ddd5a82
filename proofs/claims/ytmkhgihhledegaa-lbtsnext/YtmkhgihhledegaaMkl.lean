/- Proved: rows of members that a law makes one by one. -/
import Derived.Test.YtmkhgihhledegaaLw0
namespace Go.Proofs.Ytmkhgihhledegaa
open Go.RowKit Go.Shelf
open L (Mb IsG lbt oth outM cnt vadd)
set_option linter.unusedVariables false

def tyL : Ty cB 22 33 := ⟨.agg #[.bool false, .bool false, .int .i64 0, .int .i64 0, .int .i64 0, .int .i64 0, .int .i64 0], 48, Try.underlying22, by kernel_rfl, rfl, by decide⟩
def mkL (f : Nat → Mb) (k : Nat) : List Mb := (List.range k).map f
theorem mkL_len (f : Nat → Mb) (k : Nat) : (mkL f k).length = k := by simp [mkL]
theorem mkL_succ (f : Nat → Mb) (k : Nat) : mkL f k ++ [f k] = mkL f (k + 1) := by simp [mkL, List.range_succ]
theorem mkL_nth (f : Nat → Mb) {k i : Nat} (h : i < k) : L.nth (mkL f k) i = f i := by simp [L.nth, mkL, h]
/-- Such a row in the making. -/
def Mk (w W : World) (v : Value) (f : Nat → Mb) (k : Nat) : Prop := Rmk 33 w W v (mkL f k)
theorem Mk.made {w W : World} (h : Below w.heap.size w W) (f : Nat → Mb) : Mk w (W.alloc (.cells #[] 33)) (.slice (some ⟨W.heap.size, 0, none⟩) 0 0) f 0 := Rmk.made h
theorem Mk.bel {w W : World} {v : Value} {f : Nat → Mb} {k : Nat} (h : Mk w W v f k) : Below w.heap.size w W := Rmk.bel h
theorem Mk.on {w W W2 : World} {v : Value} {f : Nat → Mb} {k : Nat} (h : Mk w W v f k) (g : Below W.heap.size W W2) : Mk w W2 v f k := Rmk.on h g
theorem Mk.rd {w W : World} {a : Option Addr} {n c : Nat} {f : Nat → Mb} {k : Nat} (h : Mk w W (.slice a n c) f k) : RdN cB (fun _ => True) W a (mkL f k) := Rmk.rd h
theorem Mk.lb {w W : World} {a : Option Addr} {c : Nat} {f : Nat → Mb} {n : Nat} {O : Nat → Int} (h : Mk w W (.slice a n c) f n) (hG : IsG (mkL f n) O) (h1 : n ≤ 1000) (i : Int) :
    Calls Try.prog 12 #[.slice a n c, .int .i64 i] W fun e w' => e = .returned (.int .i64 (lbt (mkL f n) O i)) ∧ Mk w w' (.slice a n c) f n :=
  (pb_any hG h.rd (mkL_len f n) h1 i).mono fun e w' ⟨he, hb⟩ => ⟨he, h.on hb⟩
end Go.Proofs.Ytmkhgihhledegaa
