/- Proved: the walk of the law PrioBelow. -/
import Derived.Test.YtnldbnlbfmjcbaaLSorts
namespace Go.Proofs.Ytnldbnlbfmjcbaa
open Go.RowKit Go.Sort
set_option linter.unusedVariables false

theorem pushS_some (s : List M) (x : M) : pushS s 64 x ≠ [] := by
  unfold pushS
  split
  · rename_i h
    intro e
    subst e
    simp [hasK] at h
  · split
    · rename_i h
      intro e
      subst e
      simp at h
    · intro e
      have := ins_len s x
      rw [e] at this
      simp at this
theorem klt_T {a b : K} (h : klt a b = true) : a.1 ≤ b.1 := by rw [klt_iff] at h; omega
/-- Those of times below t are the first ones. -/
theorem low_first {s : List M} (hs : Srt s) (t : Int) : ∀ k, k < s.length → ((nth s k).1.1 < t ↔ k < (low s t).length) ∧ (k < (low s t).length → nth (low s t) k = nth s k) := by
  induction s with
  | nil => intro k hk; simp at hk
  | cons x r ih =>
    obtain ⟨h1, h2⟩ := List.pairwise_cons.1 hs
    by_cases hx : x.1.1 < t
    · have e : low (x :: r) t = x :: low r t := by simp [low, hx]
      rw [e]
      intro k hk
      cases k with
      | zero => exact ⟨⟨fun _ => by simp, fun _ => by simpa [nth] using hx⟩, fun _ => by simp [nth]⟩
      | succ j =>
        have := ih h2 j (by simpa using hk)
        simpa [nth] using this
    · have e : low (x :: r) t = [] := by
        unfold low
        rw [List.filter_eq_nil_iff]
        intro y hy
        simp only [decide_eq_true_eq]
        rcases List.mem_cons.1 hy with rfl | hy
        · exact hx
        · have := klt_T (h1 y hy); omega
      rw [e]
      intro k hk
      refine ⟨⟨fun g => ?_, fun g => by simp at g⟩, fun g => by simp at g⟩
      exfalso
      have hm : nth (x :: r) k ∈ x :: r := by rw [nth_get _ _ hk]; exact List.getElem_mem _
      rcases List.mem_cons.1 hm with e2 | hm
      · rw [e2] at g; exact hx g
      · have := klt_T (h1 _ hm); omega

set_option maxRecDepth 100000 in
set_option maxHeartbeats 2000000 in
theorem below_walk (w : World) (a : Option Addr) (n c : Nat) (l : List M) (hn : n ≤ maxLen) (h : InM w a n l) (t : Int) :
    Calls Try.prog 7 #[.slice a n c, .int .i64 t] w fun e w' => e = .returned (.bool true) ∧ Below w.heap.size w w' := by
  have mixed : Try.prog.follows .mixedOrders = true := by kernel_rfl
  unfold maxLen at hn
  by_cases hbig : 200 < n
  · have g : (200 : Int) < (n : Int) := by omega
    clear h
    go_enter Try.func7, Try.ntmps7
    go_wp2
    go_ret
    exact ⟨rfl, Below.refl _ _⟩
  · have g : ¬ (200 : Int) < (n : Int) := by omega
    have hl := h.1
    have NW := lnew (w := w) (W := w) 64 (by unfold i64; omega) (Below.refl _ _)
    rw [clamp64] at NW
    go_enter Try.func7, Try.ntmps7
    go_wp2_with fail
    refine NW.mono ?_
    rintro e w1 ⟨qb, rfl, h1, _⟩
    clear NW
    go_wp2_with fail
    go_loopw [6] (fun si wr => ∃ (k : Nat) (s : List M), k ≤ n ∧ si = .int .i64 k ∧ LQ w wr qb 64 s ∧ (0 < k → s ≠ [])) (fun si _ => n - (intOf si).toNat)
    case atStart => exact ⟨0, [], Nat.zero_le _, rfl, h1, fun g => absurd g (Nat.lt_irrefl _)⟩
    case round =>
      obtain ⟨k, s, hk, rfl, hq, hne⟩ := hrel
      by_cases hlt : k < n
      · obtain ⟨x, hx⟩ : ∃ x, nth l k = x := ⟨_, rfl⟩
        have hxw : mwf x := by rw [← hx, nth_get l k (by omega)]; exact h.2.1 _ (List.getElem_mem _)
        obtain ⟨b, off, rfl, x0, x1, x2, x3, x4, x5⟩ := h.cells hq.bel (i := k) (by omega) hx
        have P1 := lpush hq x hxw
        have hps := pushS_some s x
        have hlt' : (k : Int) < (n : Int) := by omega
        obtain ⟨s2, hs2⟩ : ∃ s2, pushS s 64 x = s2 := ⟨_, rfl⟩
        obtain ⟨C1, hC1⟩ : ∃ C1, pushC s 64 x = C1 := ⟨_, rfl⟩
        rw [hs2] at hps
        rw [hs2, hC1] at P1
        have HP : Hid _ := hps
        clear hs2 hC1 hx hps hne
        obtain ⟨⟨b1, b2, b3⟩, b4, b5, b6⟩ := x
        dsimp only [mv] at P1 x0 x1 x2 x3 x4 x5
        go_wp2_with fail
        refine P1.mono ?_
        rintro e w3 ⟨rfl, q2⟩
        clear x0 x1 x2 x3 x4 x5 P1
        go_wp2_with fail
        go_roundw
        case rel => exact ⟨k + 1, s2, by omega, by go_num, q2, fun _ => HP.out⟩
        case measure => simp [intOf]; omega
      · have hkd : k = n := by omega
        subst hkd
        have hgt : ¬ ((k : Int) < (k : Int)) := by omega
        obtain ⟨hs, _, hsl, _⟩ := hq.srt
        have L1 := llist hq
        have hlow := low_len s t
        have hll : ¬ ((s.length : Int) < ((low s t).length : Int)) := by omega
        have hll2 : decide (s.length < (low s t).length) = false := by rw [decide_eq_false_iff_not]; omega
        have hll3 : decide ((s.length : Int) < ((low s t).length : Int)) = false := by rw [decide_eq_false_iff_not]; omega
        have hlf := low_first hs t
        have hn0 : 0 < k → 0 < s.length := fun g => by
          rcases Nat.eq_zero_or_pos s.length with e | e
          · exact absurd (List.length_eq_zero_iff.1 e) (hne g)
          · exact e
        have HN : Hid _ := hn0
        have HF : Hid _ := hlf
        have HS : Hid _ := hs
        clear hne hn0 hlf hs h
        go_wp2_with fail
        refine L1.mono ?_
        rintro e w3 ⟨a1, c1, rfl, o1, q1, _⟩
        have B1 := lbelow q1 t
        clear L1
        go_wp2_with fail
        refine B1.mono ?_
        rintro e w4 ⟨a2, c2, rfl, o2, q2, bb2⟩
        have o1' := own_below o1 bb2
        have N1 := llen q2
        clear B1 o1 bb2 q1
        have bw4 := q2.bel
        rcases (show (0 < k ∧ 0 < s.length) ∨ k = 0 from (Nat.eq_zero_or_pos k).elim .inr (fun g => .inl ⟨g, HN.out g⟩)) with ⟨kz, sz⟩ | kz
        all_goals
          have kz1 : (0 : Int) < (k : Int) ∨ ¬ (0 : Int) < (k : Int) := by omega
          first
            | (have kz2 : (0 : Int) < (k : Int) := by omega
               have kz3 : ¬ ((s.length : Int) = 0) := by omega
               have kz4 : (((s.length : Int)) == 0) = false := by simpa using kz3
               clear kz1)
            | (have kz2 : ¬ (0 : Int) < (k : Int) := by omega
               have kz3 : decide ((0 : Int) < (k : Int)) = false := by simpa using kz2
               clear kz1)
          have KZ : Hid _ := kz
          clear kz
          go_wp2_with fail
          refine N1.mono ?_
          rintro e w5 ⟨rfl, hw5⟩
          have hw5' := hw5.symm
          subst hw5'
          clear hw5 N1
          go_wp2_with fail
          go_loopw [9] (fun si wr => ∃ j : Nat, j ≤ s.length ∧ si = .int .i64 j ∧ Below w4.heap.size w4 wr) (fun si _ => s.length - (intOf si).toNat)
          case atStart => exact ⟨0, Nat.zero_le _, rfl, Below.refl _ _⟩
          case round =>
            obtain ⟨j, hj, rfl, hB⟩ := hrel
            by_cases hjl : j < s.length
            · obtain ⟨g1, c1', hv1, _⟩ := own_nonempty o1' hjl
              obtain ⟨rfl, rfl⟩ : a1 = some ⟨g1, 0, none⟩ ∧ c1 = c1' := by simpa using hv1
              obtain ⟨x, hx⟩ : ∃ x, nth s j = x := ⟨_, rfl⟩
              obtain ⟨x0, x1, x2, x3, x4, x5⟩ := own_cell (own_below o1' hB) (x := x) hjl (by rw [← nth_get]; exact hx)
              obtain ⟨f1, f2⟩ := HF.out j hjl
              have hjl' : (j : Int) < (s.length : Int) := by omega
              rw [hx] at f1 f2
              by_cases hjm : j < (low s t).length
              · obtain ⟨g2, c2', hv2, _⟩ := own_nonempty o2 hjm
                obtain ⟨rfl, rfl⟩ : a2 = some ⟨g2, 0, none⟩ ∧ c2 = c2' := by simpa using hv2
                obtain ⟨y0, y1, y2, y3, y4, y5⟩ := own_cell (own_below o2 hB) (x := x) hjm (by rw [← nth_get]; exact f2 hjm)
                have ht := f1.2 hjm
                have hjm' : (j : Int) < ((low s t).length : Int) := by omega
                clear f1 f2 hx hv1 hv2
                obtain ⟨⟨b1, b2, b3⟩, b4, b5, b6⟩ := x
                dsimp only at x0 x1 x2 x3 x4 x5 y0 y1 y2 y3 y4 y5 ht
                go_wp2_with fail
                go_quiet (fail)
                go_wp2_with fail
                go_roundw
                case rel => exact ⟨j + 1, by omega, by go_num, below_drewN hB _⟩
                case measure => simp [intOf]; omega
              · have ht : ¬ x.1.1 < t := fun e => hjm (f1.1 e)
                have hjm' : ¬ (j : Int) < ((low s t).length : Int) := by omega
                have hjm2 : decide ((j : Int) < ((low s t).length : Int)) = false := by simpa using hjm'
                clear f1 f2 hx hv1
                obtain ⟨⟨b1, b2, b3⟩, b4, b5, b6⟩ := x
                dsimp only at x0 x1 x2 x3 x4 x5 ht
                have ht2 : decide (b1 < t) = false := by simpa using ht
                go_wp2_with fail
                go_quiet (fail)
                go_wp2_with fail
                go_roundw
                case rel => exact ⟨j + 1, by omega, by go_num, below_drewN hB _⟩
                case measure => simp [intOf]; omega
            · have hjd : j = s.length := by omega
              subst hjd
              have hjn : ¬ ((s.length : Int) < (s.length : Int)) := by omega
              have N2 := lnew (w := w) (W := wr) 1 (by unfold i64; omega) (bw4.trans (hB.mono bw4.size))
              rw [clamp1] at N2
              go_wp2_with fail
              refine N2.mono ?_
              rintro e w6 ⟨q1, rfl, h6, _⟩
              have P1 := lpush h6 zeroM zero_wf
              have e1 : pushC [] 1 zeroM = 0 := by decide
              rw [e1] at P1
              dsimp only [mv] at P1
              clear N2 e1
              go_wp2_with fail
              refine P1.mono ?_
              rintro e w7 ⟨rfl, h7⟩
              have hbel := h7.bel
              clear P1
              go_wp2_with fail
              go_ret
              exact ⟨rfl, hbel⟩
end Go.Proofs.Ytnldbnlbfmjcbaa
