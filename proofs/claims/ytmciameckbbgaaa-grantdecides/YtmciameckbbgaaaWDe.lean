/- Proved: the walk of GrantDecides. -/
import Derived.Test.YtmciameckbbgaaaLw0
namespace Go.Proofs.Ytmciameckbbgaaa
open Go.RowKit Go.Shelf
open D (Gr dec many Up)
set_option linter.unusedVariables false

set_option maxRecDepth 100000 in
set_option maxHeartbeats 2000000 in
theorem decides_walk (w : World) (k ask time bound : Int) (sa : Option Addr) (sc : Nat) (l : List Int) (hn : l.length ≤ maxLen) (hz : RdI w sa l) :
    Calls Try.prog 3 #[.int .i64 k, .int .i64 ask, .int .i64 time, .int .i64 bound, .slice sa l.length sc] w fun e w' => e = .returned (.bool true) ∧ Below w.heap.size w w' := by
  unfold maxLen at hn
  obtain ⟨n, hnn⟩ : ∃ n, l.length = n := ⟨_, rfl⟩
  rw [hnn] at hn ⊢
  by_cases hb : 4096 < n
  · have hb' : (4096 : Int) < (n : Int) := by omega
    clear hnn hz
    go_enter Try.func3, Try.ntmps3
    go_wp2
    go_ret
    exact ⟨rfl, Below.refl _ _⟩
  have hb' : ¬ (4096 : Int) < (n : Int) := by omega
  obtain ⟨q, qn, hqn, hqle, hup, QM⟩ := Qu.made (W := w) (c := sc) hz hnn (by omega)
  obtain ⟨g, hg⟩ : ∃ g, dec k ask time bound q = g := ⟨_, rfl⟩
  obtain ⟨gi, gt, gn⟩ := g
  have HG : Hid (dec k ask time bound q = ⟨gi, gt, gn⟩) := hg
  clear hnn hz hn hb hup hqn hg
  go_enter Try.func3, Try.ntmps3
  go_wp2_with (first
    | (go_at_call 9; refine QM.mono ?_; rintro e w1 ⟨qa, qc, rfl, h1⟩; have H1 : Hid (Qu w w1 qa qn qc q) := h1; clear h1 QM)
    | (go_at_call 10; refine (Qu.p (Hid.out H1) k ask time bound (Hid.out HG)).mono ?_; rintro e w2 ⟨rfl, h2⟩; have H2 : Hid (Qu w w2 qa qn qc q) := h2; clear h2 H1)
    | (go_at_call 11; refine (Qu.d (Hid.out H2) k ask time bound (Hid.out HG)).mono ?_; rintro e w3 ⟨rfl, h3⟩; have H3 : Hid (Qu w w3 qa qn qc q) := h3; clear h3)
    | (go_at_call 10; refine (p_nil _).mono ?_; rintro e w4 ⟨rfl, h4⟩; have B4 : Hid _ := Below.on (Hid.out H3).bel h4; clear h4))
  go_ret
  exact ⟨rfl, B4.out⟩
end Go.Proofs.Ytmciameckbbgaaa
