/- Proved: a heap's calls, beside a calendar's. -/
import Derived.Test.YtjkcdkoomipfkaaLaw0
import Derived.Test.YtjkcdkoomipfkaaLists
namespace Go.Proofs.Ytjkcdkoomipfkaa
open Go.RowKit Go.Sort Go.Lib
set_option linter.unusedVariables false

def PQ (qb room : Nat) (s : List M) : World → (Nat → Prop) → Prop := fun w F => IsQ w F qb room s
theorem thQ (qb room : Nat) (s : List M) : Th (PQ qb room s) where
  lt := fun h => IsQ.lt h
  keep := fun h hf hd => IsQ.keep h hf hd
theorem hpush {W : World} {F : Nat → Prop} {qb room : Nat} {s : List M} (h : PQ qb room s W F) (m : M) (hm : mwf m) : Calls Try.prog 28 #[.pointer (some ⟨qb, 0, none⟩), mv m] W fun e w' => e = .returned (.int .i64 (pushC s room m)) ∧ ∃ F2, PQ qb room (pushS s room m) w' F2 ∧ Step F F2 W w' := qpush_any h m hm
theorem hpop {W : World} {F : Nat → Prop} {qb room : Nat} {s : List M} (h : PQ qb room s W F) : Calls Try.prog 29 #[.pointer (some ⟨qb, 0, none⟩)] W fun e w' => e = .returned (.tuple #[mv (s.headD zeroM), .bool (!s.isEmpty)]) ∧ ∃ F2, PQ qb room s.tail w' F2 ∧ Step F F2 W w' := qpop_any h
theorem hremove {W : World} {F : Nat → Prop} {qb room : Nat} {s : List M} (h : PQ qb room s W F) (k : K) (hk : kwf k) : Calls Try.prog 30 #[.pointer (some ⟨qb, 0, none⟩), kv k] W fun e w' => e = .returned (.tuple #[mv (fnd s k), .bool (hasK s k)]) ∧ ∃ F2, PQ qb room (del s k) w' F2 ∧ Step F F2 W w' := qremove_any h k hk
theorem hlen {W : World} {F : Nat → Prop} {qb room : Nat} {s : List M} (h : PQ qb room s W F) : Calls Try.prog 31 #[.pointer (some ⟨qb, 0, none⟩)] W fun e w' => e = .returned (.int .i64 s.length) ∧ w' = W := qlen_any h
theorem hlist {W : World} {F : Nat → Prop} {qb room : Nat} {s : List M} (h : PQ qb room s W F) : Calls Try.prog 32 #[.pointer (some ⟨qb, 0, none⟩)] W fun e w' => ∃ a cap, e = .returned (.slice a s.length cap) ∧ Own w' (.slice a s.length cap) s ∧ Below W.heap.size W w' := by
  refine (list_any h).mono fun e w' ⟨v, he, ho, _, hb⟩ => ?_
  obtain ⟨a, cap, rfl, _⟩ := ho.rd
  exact ⟨a, cap, he, ho, hb⟩
theorem hnew (r : Int) (w : World) (hr : i64 r) : Calls Try.prog 27 #[.int .i64 r] w fun e w' => ∃ qb F, e = .returned (.pointer (some ⟨qb, 0, none⟩)) ∧ PQ qb (clampR r) [] w' F ∧ (∀ k, F k → w.heap.size ≤ k) ∧ Below w.heap.size w w' := new_any r w hr
theorem cpush_vt (s : List M) (room : Nat) (m : M) (h : vt m.1.1 = true) : cpushC s room m = pushC s room m ∧ cpushS s room m = pushS s room m := by
  unfold cpushC cpushS
  rw [if_pos h, if_pos h]
  exact ⟨rfl, rfl⟩
end Go.Proofs.Ytjkcdkoomipfkaa
