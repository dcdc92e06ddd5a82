/- Proved: contracts of container/heap over the pile of prio. -/
import Derived.Test.YtkodjioofkdepaaQPopp
import Derived.Test.YtkodjioofkdepaaQHeapP
namespace Go.Proofs.Ytkodjioofkdepaa.Q
open Go.RowKit Go.Sort
set_option linter.unusedVariables false
set_option maxRecDepth 100000

theorem less_key {w : World} {pb mb : Nat} {v : Value} {d : List M} (h : IsP w pb mb v d) (i j : Nat) (hi : i < d.length) (hj : j < d.length) (a b : Int) (ha : a = i) (hb : b = j) :
    Calls Try.prog 110 #[.pointer (some ⟨pb, 0, none⟩), .int .i64 a, .int .i64 b] w fun e w' => e = .returned (.bool (klt (key d i) (key d j))) ∧ Below w.heap.size w w' := by
  subst ha hb
  have e1 : key d i = d[i].1 := by unfold key; rw [nth_get _ _ hi]
  have e2 : key d j = d[j].1 := by unfold key; rw [nth_get _ _ hj]
  rw [e1, e2]
  exact less_any h i j hi hj
theorem swap_key {w : World} {pb mb : Nat} {v : Value} {d : List M} (h : IsP w pb mb v d) (i j : Nat) (hi : i < d.length) (hj : j < d.length) (a b : Int) (ha : a = i) (hb : b = j) :
    Calls Try.prog 113 #[.pointer (some ⟨pb, 0, none⟩), .int .i64 a, .int .i64 b] w fun e w' => e = .returned (.tuple #[]) ∧ IsP w' pb mb v (swapL d i j) ∧ Fr (FP pb mb v) w w' := by
  subst ha hb
  exact swap_any h i j hi hj

set_option maxRecDepth 100000 in
set_option maxHeartbeats 1000000 in
theorem up_any {w : World} {pb mb : Nat} {v : Value} {d : List M} (h : IsP w pb mb v d) (n j : Nat) (hn : n ≤ d.length) (hj : j < n) (hu : UpOk d n j) :
    Calls Try.prog 81 #[.iface 93 (.pointer (some ⟨pb, 0, none⟩)), .int .i64 j] w fun e w' => e = .returned (.tuple #[]) ∧ ∃ d', IsP w' pb mb v d' ∧ Same n d d' ∧ OK d' n ∧ Fr (FP pb mb v) w w' := by
  have hl := h.len
  go_enter Try.func81, Try.ntmps81
  go_wp2_with fail
  go_loopw [1] (fun sj wr => ∃ (j : Nat) (dk : List M), sj = .int .i64 j ∧ j < n ∧ IsP wr pb mb v dk ∧ Same n d dk ∧ UpOk dk n j ∧ Fr (FP pb mb v) w wr) (fun sj _ => (intOf sj).toNat)
  case atStart => exact ⟨j, d, rfl, hj, h, Same.refl n d, hu, Fr.refl _ w⟩
  case round =>
    obtain ⟨j, dk, rfl, hjn, hp, hs, huk, hfr⟩ := hrel
    have hdl := hs.len
    have hds := hp.len
    by_cases j0 : j = 0
    · subst j0
      have R : OK dk n := huk.ok (fun h => absurd h (Nat.lt_irrefl 0))
      go_wp2_with fail
      go_end0
      exact ⟨rfl, dk, hp, hs, R, hfr⟩
    · obtain ⟨i, hi⟩ : ∃ i, i = (j - 1) / 2 := ⟨_, rfl⟩
      have hI : ((j : Int) - 1) / 2 = (i : Int) := by omega
      have hij : i < j := by omega
      have j1 : (1 : Int) ≤ (j : Int) := by omega
      have hne : ¬ ((i : Int) = (j : Int)) := by omega
      have hne2 : ((i : Int) == (j : Int)) = false := by simpa using hne
      have L := less_key hp j i (by omega) (by omega) _ _ rfl rfl
      cases hk : klt (key dk j) (key dk i)
      · rw [hk] at L
        have R : OK dk n := huk.ok (fun _ => by rw [← hi]; exact hk)
        have HI : Hid (i = (j - 1) / 2) := hi
        clear hi hk
        go_wp2_with (first | (show Calls Try.prog 110 _ _ _; refine L.mono ?_; rintro e w' ⟨rfl, hb⟩))
        go_end0
        exact ⟨rfl, dk, hp.below hb, hs, R, hfr.then (Fr.of_below hb)⟩
      · rw [hk] at L
        have R : UpOk (swapL dk i j) n i := by rw [hi] at hk ⊢; exact up_step (by omega) hjn (by omega) huk hk
        have HI : Hid (i = (j - 1) / 2) := hi
        clear hi hk
        go_wp2_with (first | (show Calls Try.prog 110 _ _ _; refine L.mono ?_; rintro e w' ⟨rfl, hb⟩) | (show Calls Try.prog 113 _ _ _; refine (swap_key (hp.below hb) i j (by omega) (by omega) _ _ rfl rfl).mono ?_; rintro e w2 ⟨rfl, hp2, hfr2⟩))
        go_roundw
        case rel => exact ⟨i, swapL dk i j, rfl, by omega, hp2, hs.trans (same_swap (by omega) hjn (by omega)), R, (hfr.then (Fr.of_below hb)).then hfr2⟩
        case measure => simp [intOf]; omega

set_option maxRecDepth 100000 in
set_option maxHeartbeats 2000000 in
theorem down_any {w : World} {pb mb : Nat} {v : Value} {d : List M} (h : IsP w pb mb v d) (n i0 : Nat) (hn : n ≤ d.length) (hi : i0 ≤ n) (hid : i0 < d.length) (hu : Exc d n i0) :
    Calls Try.prog 63 #[.iface 93 (.pointer (some ⟨pb, 0, none⟩)), .int .i64 i0, .int .i64 n] w fun e w' => ∃ b d', e = .returned (.bool b) ∧ IsP w' pb mb v d' ∧ Same n d d' ∧ (b = true → OK d' n) ∧ (b = false → UpOk d' n i0) ∧ Fr (FP pb mb v) w w' := by
  have hl := h.len
  go_enter Try.func63, Try.ntmps63
  go_wp2_with fail
  go_loopw [7] (fun si wr => ∃ (i : Nat) (dk : List M), si = .int .i64 i ∧ i0 ≤ i ∧ i ≤ n ∧ i < d.length ∧ IsP wr pb mb v dk ∧ Same n d dk ∧ Exc dk n i ∧ (i0 < i → Upper dk i) ∧ Fr (FP pb mb v) w wr) (fun si _ => n - (intOf si).toNat)
  case atStart => exact ⟨i0, d, rfl, Nat.le_refl _, hi, hid, h, Same.refl n d, hu, fun g => absurd g (Nat.lt_irrefl _), Fr.refl _ w⟩
  case round =>
    obtain ⟨i, dk, rfl, hi0, hin, hil, hp, hs, hx, hup, hfr⟩ := hrel
    have hdl := hs.len
    have hds := hp.len
    have fin : ∀ (wr : World), IsP wr pb mb v dk → Fr (FP pb mb v) w wr → (∀ c, 0 < c → c < n → (c - 1) / 2 = i → klt (key dk c) (key dk i) = false) → ∀ b : Bool, b = decide (i0 < i) →
        ∃ b' d', Ending.returned (.bool b) = .returned (.bool b') ∧ IsP wr pb mb v d' ∧ Same n d d' ∧ (b' = true → OK d' n) ∧ (b' = false → UpOk d' n i0) ∧ Fr (FP pb mb v) w wr := fun wr hp' hf' hc b hb => by
      refine ⟨b, dk, rfl, hp', hs, fun e => ?_, fun e => ?_, hf'⟩
      · rw [hb] at e
        have : i0 < i := by have := of_decide_eq_true e; omega
        exact UpOk.ok ⟨hx, hc⟩ (hup this)
      · rw [hb] at e
        have : i = i0 := by have := of_decide_eq_false e; omega
        subst this
        exact ⟨hx, hc⟩
    by_cases h1 : 2 * i + 1 < n
    · have p1 : (0 : Int) ≤ 2 * (i : Int) + 1 := by omega
      have g1 : ¬ (n : Int) ≤ 2 * (i : Int) + 1 := by omega
      have g2 : ¬ (2 * (i : Int) + 1 < 0) := by omega
      have par : ∀ c, 0 < c → (c - 1) / 2 = i → c = 2 * i + 1 ∨ c = 2 * i + 2 := fun c c0 cp => by omega
      -- the lesser one below
      by_cases h2 : 2 * i + 2 < n
      · have q2 : 2 * (i : Int) + 1 + 1 < (n : Int) := by omega
        have L1 := less_key hp (2 * i + 2) (2 * i + 1) (by omega) (by omega) (2 * (i : Int) + 1 + 1) (2 * (i : Int) + 1) (by omega) (by omega)
        cases hk1 : klt (key dk (2 * i + 2)) (key dk (2 * i + 1))
        · rw [hk1] at L1
          have L2 := fun (W : World) (hW : IsP W pb mb v dk) => less_key hW (2 * i + 1) i (by omega) (by omega) (2 * (i : Int) + 1) (i : Int) (by omega) rfl
          cases hk2 : klt (key dk (2 * i + 1)) (key dk i)
          · rw [hk2] at L2
            have FF : Aside _ := fun W hW hF => fin W hW hF (fun c c0 cn cp => by
              rcases par c c0 cp with rfl | rfl
              · exact hk2
              · exact kle_trans hk2 hk1)
            clear fin hk2 hk1
            go_wp2_with fail
            refine L1.mono ?_
            rintro e w1 ⟨rfl, hb1⟩
            have hp1 := hp.below hb1
            go_wp2_with fail
            refine (L2 _ hp1).mono ?_
            rintro e w' ⟨rfl, hb⟩
            go_wp2_with fail
            go_ret
            exact FF.out _ (hp1.below hb) ((hfr.then (Fr.of_below hb1)).then (Fr.of_below hb)) _ rfl
          · rw [hk2] at L2
            obtain ⟨R1, R2⟩ := down_step (j := 2 * i + 1) (by omega) (by omega) (by omega) (by omega) hx (fun c c0 cn cp => by
              rcases par c c0 cp with rfl | rfl
              · exact klt_irrefl _
              · exact hk1) hk2
            clear fin hk2 hk1
            go_wp2_with fail
            refine L1.mono ?_
            rintro e w1 ⟨rfl, hb1⟩
            have hp1 := hp.below hb1
            go_wp2_with fail
            refine (L2 _ hp1).mono ?_
            rintro e w' ⟨rfl, hb⟩
            go_wp2_with (show Calls Try.prog 113 _ _ _; refine (swap_key (hp1.below hb) i (2 * i + 1) (by omega) (by omega) _ _ rfl (by omega)).mono ?_; rintro e w2 ⟨rfl, hp2, hfr2⟩)
            go_roundw
            case rel => exact ⟨2 * i + 1, swapL dk i (2 * i + 1), by go_num, by omega, by omega, by omega, hp2, hs.trans (same_swap (by omega) (by omega) (by omega)), R1, fun _ => R2, ((hfr.then (Fr.of_below hb1)).then (Fr.of_below hb)).then hfr2⟩
            case measure => simp [intOf]; omega
        · rw [hk1] at L1
          have L2 := fun (W : World) (hW : IsP W pb mb v dk) => less_key hW (2 * i + 2) i (by omega) (by omega) (2 * (i : Int) + 1 + 1) (i : Int) (by omega) rfl
          cases hk2 : klt (key dk (2 * i + 2)) (key dk i)
          · rw [hk2] at L2
            have FF : Aside _ := fun W hW hF => fin W hW hF (fun c c0 cn cp => by
              rcases par c c0 cp with rfl | rfl
              · exact kle_trans hk2 (klt_asymm hk1)
              · exact hk2)
            clear fin hk2 hk1
            go_wp2_with fail
            refine L1.mono ?_
            rintro e w1 ⟨rfl, hb1⟩
            have hp1 := hp.below hb1
            go_wp2_with fail
            refine (L2 _ hp1).mono ?_
            rintro e w' ⟨rfl, hb⟩
            go_wp2_with fail
            go_ret
            exact FF.out _ (hp1.below hb) ((hfr.then (Fr.of_below hb1)).then (Fr.of_below hb)) _ rfl
          · rw [hk2] at L2
            obtain ⟨R1, R2⟩ := down_step (j := 2 * i + 2) (by omega) (by omega) (by omega) (by omega) hx (fun c c0 cn cp => by
              rcases par c c0 cp with rfl | rfl
              · exact klt_asymm hk1
              · exact klt_irrefl _) hk2
            clear fin hk2 hk1
            go_wp2_with fail
            refine L1.mono ?_
            rintro e w1 ⟨rfl, hb1⟩
            have hp1 := hp.below hb1
            go_wp2_with fail
            refine (L2 _ hp1).mono ?_
            rintro e w' ⟨rfl, hb⟩
            go_wp2_with (show Calls Try.prog 113 _ _ _; refine (swap_key (hp1.below hb) i (2 * i + 2) (by omega) (by omega) _ _ rfl (by omega)).mono ?_; rintro e w2 ⟨rfl, hp2, hfr2⟩)
            go_roundw
            case rel => exact ⟨2 * i + 2, swapL dk i (2 * i + 2), by go_num, by omega, by omega, by omega, hp2, hs.trans (same_swap (by omega) (by omega) (by omega)), R1, fun _ => R2, ((hfr.then (Fr.of_below hb1)).then (Fr.of_below hb)).then hfr2⟩
            case measure => simp [intOf]; omega
      · have q2 : ¬ (2 * (i : Int) + 1 + 1 < (n : Int)) := by omega
        have q3 : decide (2 * (i : Int) + 1 + 1 < (n : Int)) = false := by simpa using q2
        have L2 := fun (W : World) (hW : IsP W pb mb v dk) => less_key hW (2 * i + 1) i (by omega) (by omega) (2 * (i : Int) + 1) (i : Int) (by omega) rfl
        cases hk2 : klt (key dk (2 * i + 1)) (key dk i)
        · rw [hk2] at L2
          have FF : Aside _ := fun W hW hF => fin W hW hF (fun c c0 cn cp => by
            rcases par c c0 cp with rfl | rfl
            · exact hk2
            · omega)
          clear fin hk2
          go_wp2_with (first | (show Calls Try.prog 110 _ _ _; refine (L2 _ hp).mono ?_; rintro e w' ⟨rfl, hb⟩))
          go_ret
          exact FF.out _ (hp.below hb) (hfr.then (Fr.of_below hb)) _ rfl
        · rw [hk2] at L2
          obtain ⟨R1, R2⟩ := down_step (by omega) h1 (by omega) (by omega) hx (fun c c0 cn cp => by
            rcases par c c0 cp with rfl | rfl
            · exact klt_irrefl _
            · omega) hk2
          clear fin hk2
          go_wp2_with (first | (show Calls Try.prog 110 _ _ _; refine (L2 _ hp).mono ?_; rintro e w' ⟨rfl, hb⟩) | (show Calls Try.prog 113 _ _ _; refine (swap_key (hp.below hb) i (2 * i + 1) (by omega) (by omega) _ _ rfl (by omega)).mono ?_; rintro e w2 ⟨rfl, hp2, hfr2⟩))
          go_roundw
          case rel => exact ⟨2 * i + 1, swapL dk i (2 * i + 1), by go_num, by omega, by omega, by omega, hp2, hs.trans (same_swap (by omega) h1 (by omega)), R1, fun _ => R2, (hfr.then (Fr.of_below hb)).then hfr2⟩
          case measure => simp [intOf]; omega
    · have g1 : (n : Int) ≤ 2 * (i : Int) + 1 := by omega
      have FIN := fin wr hp hfr (fun c c0 cn cp => by omega)
      have FF : Aside _ := FIN
      clear fin FIN
      go_wp2_with fail
      go_ret
      exact FF.out _ rfl
end Go.Proofs.Ytkodjioofkdepaa.Q
