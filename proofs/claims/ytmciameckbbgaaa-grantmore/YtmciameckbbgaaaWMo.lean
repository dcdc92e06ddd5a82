/- Proved: the walk of GrantMore. -/
import Derived.Test.YtmciameckbbgaaaLw0
namespace Go.Proofs.Ytmciameckbbgaaa
open Go.RowKit Go.Shelf
open D (Gr dec many Up)
set_option linter.unusedVariables false

set_option maxRecDepth 100000 in
set_option maxHeartbeats 2000000 in
theorem more_walk (w : World) (x ask time bound mo : Int) (hx : 0 ≤ x ∧ x ≤ 255) (ha : 0 ≤ ask ∧ ask ≤ 65535) (ht : 0 ≤ time ∧ time ≤ 65535) (hbo : 0 ≤ bound ∧ bound ≤ 65535) (hmo : 0 ≤ mo ∧ mo ≤ 65535) (sa : Option Addr) (sc : Nat) (l : List Int) (hn : l.length ≤ maxLen) (hz : RdI w sa l) :
    Calls Try.prog 6 #[.int .u8 x, .int .u16 ask, .int .u16 time, .int .u16 bound, .int .u16 mo, .slice sa l.length sc] w fun e w' => e = .returned (.bool true) ∧ Below w.heap.size w w' := by
  unfold maxLen at hn
  obtain ⟨x0, x1⟩ := hx
  obtain ⟨a0, a1⟩ := ha
  obtain ⟨t0, t1⟩ := ht
  obtain ⟨b0, b1⟩ := hbo
  obtain ⟨m0, m1⟩ := hmo
  obtain ⟨n, hnn⟩ : ∃ n, l.length = n := ⟨_, rfl⟩
  rw [hnn] at hn ⊢
  by_cases hb : 4096 < n
  · have hb' : (4096 : Int) < (n : Int) := by omega
    clear hnn hz
    go_enter Try.func6, Try.ntmps6
    go_wp2
    go_ret
    exact ⟨rfl, Below.refl _ _⟩
  have hb' : ¬ (4096 : Int) < (n : Int) := by omega
  obtain ⟨q, qn, hqn, hqle, hup, QM⟩ := Qu.made (W := w) (c := sc) hz hnn (by omega)
  obtain ⟨k, hk⟩ : ∃ k, 1 + x % 3 = k := ⟨_, rfl⟩
  have hkk : k = 1 ∨ k = 2 ∨ k = 3 := by omega
  obtain ⟨b2, hb2⟩ : ∃ b2, bound + mo = b2 := ⟨_, rfl⟩
  obtain ⟨⟨gi, gt, gn⟩, hg⟩ : ∃ g, dec k ask time bound q = g := ⟨_, rfl⟩
  obtain ⟨⟨hi, ht, hn2⟩, hh⟩ : ∃ g, dec k ask time b2 q = g := ⟨_, rfl⟩
  have HG : Hid (dec k ask time bound q = ⟨gi, gt, gn⟩) := hg
  have HH : Hid (dec k ask time b2 q = ⟨hi, ht, hn2⟩) := hh
  have hmore := D.more_of (ask := ask) (time := time) (q := q) hkk (show bound ≤ b2 by omega)
  rw [hg, hh] at hmore
  dsimp only at hmore
  cases gi
  · clear hnn hz hn hb hup hqn hg hh hmore hkk
    go_enter Try.func6, Try.ntmps6
    go_wp2_with (first
      | (go_at_call 9; refine QM.mono ?_; rintro e w1 ⟨qa, qc, rfl, h1⟩; have H1 : Hid (Qu w w1 qa qn qc q) := h1; clear h1 QM)
      | (go_at_call 10; refine (Qu.p (Hid.out H1) k ask time bound (Hid.out HG)).mono ?_; rintro e w2 ⟨rfl, h2⟩; have H2 : Hid (Qu w w2 qa qn qc q) := h2; clear h2 H1)
      | (go_at_call 10; refine (Qu.p (Hid.out H2) k ask time b2 (Hid.out HH)).mono ?_; rintro e w3 ⟨rfl, h3⟩; have H3 : Hid (Qu w w3 qa qn qc q) := h3; clear h3)
      | (go_at_call 11; refine (Qu.d (Hid.out H3) k ask time bound (Hid.out HG)).mono ?_; rintro e w4 ⟨rfl, h4⟩; have H4 : Hid (Qu w w4 qa qn qc q) := h4; clear h4))
    go_ret
    exact ⟨rfl, H4.out.bel⟩
  · obtain ⟨rfl, hle, hln⟩ := hmore rfl
    have hle2 : ht ≥ gt := hle
    have hln2 : ((hn2 : Nat) : Int) ≥ ((gn : Nat) : Int) := by omega
    have hln3 : ((gn : Nat) : Int) ≤ ((hn2 : Nat) : Int) := by omega
    clear hnn hz hn hb hup hqn hg hh hmore hkk
    go_enter Try.func6, Try.ntmps6
    go_wp2_with (first
      | (go_at_call 9; refine QM.mono ?_; rintro e w1 ⟨qa, qc, rfl, h1⟩; have H1 : Hid (Qu w w1 qa qn qc q) := h1; clear h1 QM)
      | (go_at_call 10; refine (Qu.p (Hid.out H1) k ask time bound (Hid.out HG)).mono ?_; rintro e w2 ⟨rfl, h2⟩; have H2 : Hid (Qu w w2 qa qn qc q) := h2; clear h2 H1)
      | (go_at_call 10; refine (Qu.p (Hid.out H2) k ask time b2 (Hid.out HH)).mono ?_; rintro e w3 ⟨rfl, h3⟩; have H3 : Hid (Qu w w3 qa qn qc q) := h3; clear h3)
      | (go_at_call 11; refine (Qu.d (Hid.out H3) k ask time bound (Hid.out HG)).mono ?_; rintro e w4 ⟨rfl, h4⟩; have H4 : Hid (Qu w w4 qa qn qc q) := h4; clear h4))
    go_ret
    exact ⟨rfl, H4.out.bel⟩
end Go.Proofs.Ytmciameckbbgaaa
