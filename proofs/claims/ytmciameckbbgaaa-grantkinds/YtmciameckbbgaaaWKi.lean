/- Proved: the walk of GrantKinds. -/
import Derived.Test.YtmciameckbbgaaaLw0
namespace Go.Proofs.Ytmciameckbbgaaa
open Go.RowKit Go.Shelf
open D (Gr dec many Up)
set_option linter.unusedVariables false

theorem dec_kind {k ask time bound : Int} {q : List Int} {gt : Int} {gn : Nat} (h : dec k ask time bound q = ⟨true, gt, gn⟩) : k = 1 ∨ k = 2 ∨ k = 3 := by
  by_cases h1 : k = 1
  · exact .inl h1
  by_cases h2 : k = 2
  · exact .inr (.inl h2)
  by_cases h3 : k = 3
  · exact .inr (.inr h3)
  rw [D.dec0 h1 h2 h3] at h
  cases h
theorem dec_nos {k ask time bound : Int} {q : List Int} {gt : Int} {gn : Nat} (h : dec k ask time bound q = ⟨false, gt, gn⟩) : gt = 0 ∧ gn = 0 := by
  have := D.dec_no (k := k) (ask := ask) (time := time) (bound := bound) (q := q) (by rw [h])
  rw [h] at this
  exact this
set_option maxRecDepth 100000 in
set_option maxHeartbeats 2000000 in
theorem kinds_walk (w : World) (k ask time bound : Int) (sa : Option Addr) (sc : Nat) (l : List Int) (hn : l.length ≤ maxLen) (hz : RdI w sa l) :
    Calls Try.prog 8 #[.int .i64 k, .int .i64 ask, .int .i64 time, .int .i64 bound, .slice sa l.length sc] w fun e w' => e = .returned (.bool true) ∧ Below w.heap.size w w' := by
  unfold maxLen at hn
  obtain ⟨n, hnn⟩ : ∃ n, l.length = n := ⟨_, rfl⟩
  rw [hnn] at hn ⊢
  by_cases hb : 4096 < n
  · have hb' : (4096 : Int) < (n : Int) := by omega
    clear hnn hz
    go_enter Try.func8, Try.ntmps8
    go_wp2
    go_ret
    exact ⟨rfl, Below.refl _ _⟩
  have hb' : ¬ (4096 : Int) < (n : Int) := by omega
  obtain ⟨q, qn, hqn, hqle, hup, QM⟩ := Qu.made (W := w) (c := sc) hz hnn (by omega)
  obtain ⟨g, hg⟩ : ∃ g, dec k ask time bound q = g := ⟨_, rfl⟩
  obtain ⟨gi, gt, gn⟩ := g
  have HG : Hid (dec k ask time bound q = ⟨gi, gt, gn⟩) := hg
  obtain ⟨t3, ht3⟩ : ∃ t3, dec 3 ask time bound q = ⟨true, t3, qn⟩ := ⟨_, by rw [D.dec3, hqn]⟩
  have HG3 : Hid (dec 3 ask time bound q = ⟨true, t3, qn⟩) := ht3
  cases gi
  · obtain ⟨rfl, rfl⟩ := dec_nos hg
    clear hnn hz hn hb hup hqn hg ht3
    go_enter Try.func8, Try.ntmps8
    go_wp2_with (first
      | (go_at_call 9; refine QM.mono ?_; rintro e w1 ⟨qa, qc, rfl, h1⟩; have H1 : Hid (Qu w w1 qa qn qc q) := h1; clear h1 QM)
      | (go_at_call 10; refine (Qu.p (Hid.out H1) k ask time bound (Hid.out HG)).mono ?_; rintro e w2 ⟨rfl, h2⟩; have H2 : Hid (Qu w w2 qa qn qc q) := h2; clear h2 H1)
      | (go_at_call 10; refine (Qu.p (Hid.out H2) 3 ask time bound (Hid.out HG3)).mono ?_; rintro e w3 ⟨rfl, h3⟩; have H3 : Hid (Qu w w3 qa qn qc q) := h3; clear h3))
    go_ret
    exact ⟨rfl, H3.out.bel⟩
  · have hk := dec_kind hg
    have hk1 : ¬ k < 1 := by omega
    have hk3 : ¬ (3 : Int) < k := by omega
    clear hnn hz hn hb hup hqn hg hk ht3
    go_enter Try.func8, Try.ntmps8
    go_wp2_with (first
      | (go_at_call 9; refine QM.mono ?_; rintro e w1 ⟨qa, qc, rfl, h1⟩; have H1 : Hid (Qu w w1 qa qn qc q) := h1; clear h1 QM)
      | (go_at_call 10; refine (Qu.p (Hid.out H1) k ask time bound (Hid.out HG)).mono ?_; rintro e w2 ⟨rfl, h2⟩; have H2 : Hid (Qu w w2 qa qn qc q) := h2; clear h2 H1)
      | (go_at_call 10; refine (Qu.p (Hid.out H2) 3 ask time bound (Hid.out HG3)).mono ?_; rintro e w3 ⟨rfl, h3⟩; have H3 : Hid (Qu w w3 qa qn qc q) := h3; clear h3))
    go_ret
    exact ⟨rfl, H3.out.bel⟩
end Go.Proofs.Ytmciameckbbgaaa
