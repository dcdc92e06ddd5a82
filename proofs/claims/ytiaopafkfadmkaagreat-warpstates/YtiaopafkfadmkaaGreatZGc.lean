/- Joined: the texts that follow, each with its own sentence. -/
import Derived.Shelf.SlSortCmp.KitK
import Derived.Sort.WalkB2
import Derived.Sort.WalkB12
import Derived.Deep.LoopGhost
import Derived.BigRegion
import Derived.Test.YtiaopafkfadmkaaGreatZGb
import Derived.Test.YtiaopafkfadmkaaGreatZB
/- Proved: what is asked of a program for its stable sort: its bodies and its types; contracts of two parts that change places. -/
namespace Go.Proofs.YtiaopafkfadmkaaGreat.G
open Go.Proofs.YtiaopafkfadmkaaGreat.B
open Go.RowKit Go.Shelf Go.Lib Go.Sort
set_option linter.unusedVariables false

/-- A program that has these bodies, and these types. -/
structure Lys (P : Program) : Prop where
  mixed : P.follows .mixedOrders = true
  st : P.funcs[165]? = some Tryz.f165
  sm : P.funcs[191]? = some Tryz.f191
  ro : P.funcs[210]? = some Tryz.f210
  sw : P.funcs[227]? = some Tryz.f227
  t0 : P.underlying 0 = some (TypeDesc.tuple #[])
  a0 : ∀ w, (isAgg 0).run P w = .ok false w
  z0 : ∀ w, (Go.sizeOf 0).run P w = .ok 1 w
  v0 : ∀ w, (zeroValue 0).run P w = .ok (Value.tuple #[]) w
  t1 : P.underlying 3 = some (TypeDesc.int IntKind.i64)
  a1 : ∀ w, (isAgg 3).run P w = .ok false w
  z1 : ∀ w, (Go.sizeOf 3).run P w = .ok 1 w
  v1 : ∀ w, (zeroValue 3).run P w = .ok (Value.int IntKind.i64 0) w
  t2 : P.underlying 4 = some (TypeDesc.bool)
  a2 : ∀ w, (isAgg 4).run P w = .ok false w
  z2 : ∀ w, (Go.sizeOf 4).run P w = .ok 1 w
  v2 : ∀ w, (zeroValue 4).run P w = .ok (Value.bool false) w
  t3 : P.underlying 168 = some (TypeDesc.slice 189)
  a3 : ∀ w, (isAgg 168).run P w = .ok false w
  z3 : ∀ w, (Go.sizeOf 168).run P w = .ok 1 w
  v3 : ∀ w, (zeroValue 168).run P w = .ok (Value.slice none 0 0) w
  t4 : P.underlying 192 = some (TypeDesc.func #[189, 189] #[3] false)
  a4 : ∀ w, (isAgg 192).run P w = .ok false w
  z4 : ∀ w, (Go.sizeOf 192).run P w = .ok 1 w
  v4 : ∀ w, (zeroValue 192).run P w = .ok (Value.nilFunc) w
  t5 : P.underlying 214 = some (TypeDesc.int IntKind.u64)
  a5 : ∀ w, (isAgg 214).run P w = .ok false w
  z5 : ∀ w, (Go.sizeOf 214).run P w = .ok 1 w
  v5 : ∀ w, (zeroValue 214).run P w = .ok (Value.int IntKind.u64 0) w
end Go.Proofs.YtiaopafkfadmkaaGreat.G
/- Proved: the contract of two parts that stand beside each other and change places. -/
namespace Go.Proofs.YtiaopafkfadmkaaGreat.B.Stb
/-- On the way: what is left to do. -/
def RoI {α : Type} (m : Nat) (T : List α) (i j : Nat) (D : List α) : Prop := ∃ A X Y C, D = A ++ (X ++ (Y ++ C)) ∧ A.length + i = m ∧ X.length = i ∧ Y.length = j ∧ A ++ (Y ++ (X ++ C)) = T
theorem RoI.small {α : Type} {m i j : Nat} {T D : List α} (h : RoI m T i j D) (hij : i < j) : ∃ A X B Y C, D = A ++ (X ++ (B ++ (Y ++ C))) ∧ A.length = m - i ∧ X.length = i ∧ Y.length = i ∧ m - i + i + B.length = m + j - i ∧ i ≤ m ∧ RoI m T i (j - i) (A ++ (Y ++ (B ++ (X ++ C)))) := by
  obtain ⟨A, X, Y, C, rfl, h1, h2, h3, h4⟩ := h
  have h5 := List.take_append_drop (j - i) Y
  refine ⟨A, X, Y.take (j - i), Y.drop (j - i), C, ?_, by omega, h2, by simp; omega, by simp; omega, by omega, A, Y.drop (j - i), Y.take (j - i), X ++ C, rfl, by omega, by simp; omega, by simp; omega, ?_⟩
  · rw [← List.append_assoc (Y.take (j - i)), h5]
  · rw [← h4, ← List.append_assoc (Y.take (j - i)), h5]
theorem RoI.same {α : Type} {m i : Nat} {T D : List α} (h : RoI m T i i D) : ∃ A X Y C, D = A ++ (X ++ ([] ++ (Y ++ C))) ∧ A.length = m - i ∧ X.length = i ∧ Y.length = i ∧ m - i + i + ([] : List α).length = m ∧ i ≤ m ∧ A ++ (Y ++ ([] ++ (X ++ C))) = T := by
  obtain ⟨A, X, Y, C, rfl, h1, h2, h3, h4⟩ := h
  exact ⟨A, X, Y, C, by simp, by omega, h2, h3, by simp; omega, by omega, by rw [← h4]; simp⟩
end Go.Proofs.YtiaopafkfadmkaaGreat.B.Stb
namespace Go.Proofs.YtiaopafkfadmkaaGreat.G
open Go.Proofs.YtiaopafkfadmkaaGreat.B
open Go.RowKit Go.Shelf Go.Lib Go.Sort
set_option linter.unusedVariables false
end Go.Proofs.YtiaopafkfadmkaaGreat.G
/- Proved: the contract of symMerge where one stands on the left. -/
namespace Go.Proofs.YtiaopafkfadmkaaGreat.B.Stb
def mvU {α : Type} (A Y C : List α) (x : α) (q : Nat) : List α := A ++ (Y.take q ++ x :: (Y.drop q ++ C))
end Go.Proofs.YtiaopafkfadmkaaGreat.B.Stb
namespace Go.Proofs.YtiaopafkfadmkaaGreat.G
open Go.Proofs.YtiaopafkfadmkaaGreat.B
open Go.RowKit Go.Shelf Go.Lib Go.Sort
set_option linter.unusedVariables false
end Go.Proofs.YtiaopafkfadmkaaGreat.G
/- Proved: the contract of symMerge where one stands on the right. -/
namespace Go.Proofs.YtiaopafkfadmkaaGreat.G
open Go.Proofs.YtiaopafkfadmkaaGreat.B
open Go.RowKit Go.Shelf Go.Lib Go.Sort
set_option linter.unusedVariables false
end Go.Proofs.YtiaopafkfadmkaaGreat.G
