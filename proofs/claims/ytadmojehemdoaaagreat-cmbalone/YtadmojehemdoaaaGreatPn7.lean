/- Proved: the program's node keeps the contracts that only some statements ask: State, Waiting, New where there is none. -/
import Derived.Test.YtadmojehemdoaaaGreatPn6
import Derived.Test.YtadmojehemdoaaaGreatQLists
namespace Go.Proofs.YtadmojehemdoaaaGreat
open Go.RowKit Go.Shelf
set_option linter.unusedVariables false
set_option maxRecDepth 100000

set_option maxHeartbeats 1000000 in
theorem knstate {w0 : World} {D : Wd} {f : Nat} {x : Nd} {nb cb rb qb : Nat} {G : Nat → Prop} {v : Value} {K : Nat → Bool} {w : World} (h : KN w0 D f x nb cb rb qb G v K w) :
    Calls Tryz.prog 20 #[.pointer (some ⟨nb, 0, none⟩)] w fun e w' => e = .returned (.int .i64 x.st) ∧ w = w' := by
  obtain ⟨n0, n1, n2, n3, n4, n5, n6, n7, n8⟩ := h.cells
  go_enter Tryz.func20, Tryz.ntmps20
  go_wp2
  go_ret
  exact ⟨rfl, rfl⟩
set_option maxHeartbeats 1000000 in
theorem knwaiting {w0 : World} {D : Wd} {f : Nat} {x : Nd} {nb cb rb qb : Nat} {G : Nat → Prop} {v : Value} {K : Nat → Bool} {w : World} (h : KN w0 D f x nb cb rb qb G v K w) :
    Calls Tryz.prog 24 #[.pointer (some ⟨nb, 0, none⟩)] w fun e w' => ∃ u, e = .returned u ∧ Q.Own w' u x.q ∧ (∀ k, u.ownBlock = some k → w.heap.size ≤ k) ∧ Below w.heap.size w w' := by
  obtain ⟨n0, n1, n2, n3, n4, n5, n6, n7, n8⟩ := h.cells
  have C := Q.list_any h.qu
  go_enter Tryz.func24, Tryz.ntmps24
  go_wp2_with (go_at_call 55; refine C.mono ?_; rintro e w' ⟨u, rfl, h1, h2, h3⟩; have H : Hid _ := And.intro h1 (And.intro h2 h3); clear h1 h2 h3)
  go_ret
  exact ⟨u, rfl, H.out⟩
theorem faceW : FaceW PN := { face with
  state := by
    rintro w0 D f x nb F w ⟨D', cb, rb, qb, G, v, K, hl, hk, rfl⟩
    exact knstate hk
  waiting := by
    rintro w0 D f x nb F w ⟨D', cb, rb, qb, G, v, K, hl, hk, rfl⟩
    refine (knwaiting hk).mono ?_
    rintro en w' ⟨u, he, h1, h2, h3⟩
    obtain ⟨a, cap, rfl, _⟩ := h1.rd
    exact ⟨a, cap, he, h1, h2, h3⟩
  err := fun w D f h {N E} hw hE => knnew_err w D f h hw hE
  no := fun w D f h hw hf => knnew_no w D f h hw hf }
end Go.Proofs.YtadmojehemdoaaaGreat
