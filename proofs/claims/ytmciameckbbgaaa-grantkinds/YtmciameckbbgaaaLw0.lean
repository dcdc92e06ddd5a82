/- Proved: what the laws of grants share: a queue in order, calls of both. -/
import Derived.Test.YtmciameckbbgaaaPdc
import Derived.Test.YtmciameckbbgaaaRis
namespace Go.Proofs.Ytmciameckbbgaaa
open Go.RowKit Go.Shelf
open D (Gr dec many Up)
set_option linter.unusedVariables false

/-- A queue in order, made since w. -/
structure Qu (w W : World) (a : Option Addr) (n c : Nat) (q : List Int) : Prop where
  ri : Ri w W (.slice a n c) q
  up : Up q
  len : q.length = n
  le : n ≤ 100
theorem Qu.on {w W W2 : World} {a : Option Addr} {n c : Nat} {q : List Int} (h : Qu w W a n c q) (g : Below W.heap.size W W2) : Qu w W2 a n c q := ⟨h.ri.on g, h.up, h.len, h.le⟩
theorem Qu.bel {w W : World} {a : Option Addr} {n c : Nat} {q : List Int} (h : Qu w W a n c q) : Below w.heap.size w W := h.ri.bel
theorem Qu.p {w W : World} {a : Option Addr} {n c : Nat} {q : List Int} (h : Qu w W a n c q) (k ask time bound : Int) {gi : Bool} {gt : Int} {gn : Nat} (hg : dec k ask time bound q = ⟨gi, gt, gn⟩) :
    Calls Try.prog 10 #[.int .i64 k, .int .i64 ask, .int .i64 time, .int .i64 bound, .slice a n c] W fun e w' => e = .returned (.tuple #[.bool gi, .int .i64 gt, .int .i64 gn]) ∧ Qu w w' a n c q := by
  have := pdec_any (c := c) h.ri.rd h.up h.len (by have := h.le; omega) k ask time bound
  rw [hg] at this
  exact this.mono fun e w' ⟨he, hb⟩ => ⟨he, h.on hb⟩
theorem Qu.d {w W : World} {a : Option Addr} {n c : Nat} {q : List Int} (h : Qu w W a n c q) (k ask time bound : Int) {gi : Bool} {gt : Int} {gn : Nat} (hg : dec k ask time bound q = ⟨gi, gt, gn⟩) :
    Calls Try.prog 11 #[.int .i64 k, .int .i64 ask, .int .i64 time, .int .i64 bound, .slice a n c] W fun e w' => e = .returned (.tuple #[.bool gi, .int .i64 gt, .int .i64 gn]) ∧ Qu w w' a n c q := by
  have := ddec_any (c := c) h.ri.rd h.len (by have := h.le; omega) k ask time bound
  rw [hg] at this
  exact this.mono fun e w' ⟨he, hb⟩ => ⟨he, h.on hb⟩
/-- Of none that waits. -/
theorem p_nil (W : World) : Calls Try.prog 10 #[.int .i64 3, .int .i64 0, .int .i64 0, .int .i64 0, .slice none 0 0] W fun e w' => e = .returned (.tuple #[.bool true, .int .i64 0, .int .i64 0]) ∧ Below W.heap.size W w' :=
  pdec_any (N := fun _ => True) (n := 0) (q := []) (RdN.nil cI _ W none) (fun i j _ hj => by simp at hj) rfl (by omega) 3 0 0 0
theorem Qu.made {w W : World} {a : Option Addr} {c n : Nat} {l : List Int} (hl : RdN cI (fun _ => True) w a l) (hn : l.length = n) (hm : n ≤ 4096) :
    ∃ q : List Int, ∃ qn : Nat, q.length = qn ∧ qn ≤ 100 ∧ Up q ∧ Calls Try.prog 9 #[.slice a n c] w fun e w' => ∃ qa qc, e = .returned (.slice qa qn qc) ∧ Qu w w' qa qn qc q := by
  have h1 := ris_len l (min n 100)
  refine ⟨ris l (min n 100), _, rfl, by omega, ris_up l _, (rising_any hl hn (by omega)).mono fun e w' ⟨oa, oc, he, hr⟩ => ⟨oa, oc, he, hr, ris_up l _, rfl, by omega⟩⟩
end Go.Proofs.Ytmciameckbbgaaa
