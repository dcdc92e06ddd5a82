/- Proved: contracts of container/heap's up, down, Push and Pop over the pile of solo. -/
import Derived.Test.YtmfcbalhabcodaaGreatHPi2
namespace Go.Proofs.YtmfcbalhabcodaaGreat.H
open Go.RowKit Go.Sort
set_option linter.unusedVariables false

theorem less_key {w : World} {pb : Nat} {v : Value} {d : List M} (h : IsP w pb v d) (i j : Nat) (hi : i < d.length) (hj : j < d.length) (a b : Int) (ha : a = i) (hb : b = j) :
    Calls Tryz.prog 157 #[.pointer (some ⟨pb, 0, none⟩), .int .i64 a, .int .i64 b] w fun e w' => e = .returned (.bool (klt (key d i) (key d j))) ∧ Below w.heap.size w w' := by
  subst ha hb
  have e1 : key d i = d[i] := by unfold key; rw [nth_get _ _ hi]
  have e2 : key d j = d[j] := by unfold key; rw [nth_get _ _ hj]
  rw [e1, e2]
  exact less_any h i j hi hj
theorem swap_key {w : World} {pb : Nat} {v : Value} {d : List M} (h : IsP w pb v d) (i j : Nat) (hi : i < d.length) (hj : j < d.length) (a b : Int) (ha : a = i) (hb : b = j) :
    Calls Tryz.prog 160 #[.pointer (some ⟨pb, 0, none⟩), .int .i64 a, .int .i64 b] w fun e w' => e = .returned (.tuple #[]) ∧ IsP w' pb v (swapL d i j) ∧ Fr (FP pb v) w w' := by
  subst ha hb
  exact swap_any h i j hi hj

set_option maxRecDepth 100000 in
set_option maxHeartbeats 1000000 in
theorem up_any {w : World} {pb : Nat} {v : Value} {d : List M} (h : IsP w pb v d) (n j : Nat) (hn : n ≤ d.length) (hj : j < n) (hu : UpOk d n j) :
    Calls Tryz.prog 81 #[.iface 66 (.pointer (some ⟨pb, 0, none⟩)), .int .i64 j] w fun e w' => e = .returned (.tuple #[]) ∧ ∃ d', IsP w' pb v d' ∧ Same n d d' ∧ OK d' n ∧ Fr (FP pb v) w w' := by
  have hl := h.len
  go_enter Tryz.func81, Tryz.ntmps81
  go_wp2_with fail
  go_loopw [1] (fun sj wr => ∃ (j : Nat) (dk : List M), sj = .int .i64 j ∧ j < n ∧ IsP wr pb v dk ∧ Same n d dk ∧ UpOk dk n j ∧ Fr (FP pb v) w wr) (fun sj _ => (intOf sj).toNat)
  case atStart => exact ⟨j, d, rfl, hj, h, Same.refl n d, hu, Fr.refl _ w⟩
  case round =>
    obtain ⟨j, dk, rfl, hjn, hp, hs, huk, hfr⟩ := hrel
    have hdl := hs.len
    have hds := hp.len
    by_cases j0 : j = 0
    · subst j0
      have R : OK dk n := huk.ok (fun h => absurd h (Nat.lt_irrefl 0))
      go_wp2_with fail
      go_end0
      exact ⟨rfl, dk, hp, hs, R, hfr⟩
    · obtain ⟨i, hi⟩ : ∃ i, i = (j - 1) / 2 := ⟨_, rfl⟩
      have hI : ((j : Int) - 1) / 2 = (i : Int) := by omega
      have hij : i < j := by omega
      have j1 : (1 : Int) ≤ (j : Int) := by omega
      have hne : ¬ ((i : Int) = (j : Int)) := by omega
      have hne2 : ((i : Int) == (j : Int)) = false := by simpa using hne
      have L := less_key hp j i (by omega) (by omega) _ _ rfl rfl
      cases hk : klt (key dk j) (key dk i)
      · rw [hk] at L
        have R : OK dk n := huk.ok (fun _ => by rw [← hi]; exact hk)
        have HI : Hid (i = (j - 1) / 2) := hi
        clear hi hk
        go_wp2_with (first | (show Calls Tryz.prog 157 _ _ _; refine L.mono ?_; rintro e w' ⟨rfl, hb⟩))
        go_end0
        exact ⟨rfl, dk, hp.below hb, hs, R, hfr.then (Fr.of_below hb)⟩
      · rw [hk] at L
        have R : UpOk (swapL dk i j) n i := by rw [hi] at hk ⊢; exact up_step (by omega) hjn (by omega) huk hk
        have HI : Hid (i = (j - 1) / 2) := hi
        clear hi hk
        go_wp2_with (first | (show Calls Tryz.prog 157 _ _ _; refine L.mono ?_; rintro e w' ⟨rfl, hb⟩) | (show Calls Tryz.prog 160 _ _ _; refine (swap_key (hp.below hb) i j (by omega) (by omega) _ _ rfl rfl).mono ?_; rintro e w2 ⟨rfl, hp2, hfr2⟩))
        go_roundw
        case rel => exact ⟨i, swapL dk i j, rfl, by omega, hp2, hs.trans (same_swap (by omega) hjn (by omega)), R, (hfr.then (Fr.of_below hb)).then hfr2⟩
        case measure => simp [intOf]; omega

set_option maxRecDepth 100000 in
set_option maxHeartbeats 2000000 in
theorem down_any {w : World} {pb : Nat} {v : Value} {d : List M} (h : IsP w pb v d) (n i0 : Nat) (hn : n ≤ d.length) (hi : i0 ≤ n) (hid : i0 < d.length) (hu : Exc d n i0) :
    Calls Tryz.prog 83 #[.iface 66 (.pointer (some ⟨pb, 0, none⟩)), .int .i64 i0, .int .i64 n] w fun e w' => ∃ b d', e = .returned (.bool b) ∧ IsP w' pb v d' ∧ Same n d d' ∧ (b = true → OK d' n) ∧ (b = false → UpOk d' n i0) ∧ Fr (FP pb v) w w' := by
  have hl := h.len
  go_enter Tryz.func83, Tryz.ntmps83
  go_wp2_with fail
  go_loopw [7] (fun si wr => ∃ (i : Nat) (dk : List M), si = .int .i64 i ∧ i0 ≤ i ∧ i ≤ n ∧ i < d.length ∧ IsP wr pb v dk ∧ Same n d dk ∧ Exc dk n i ∧ (i0 < i → Upper dk i) ∧ Fr (FP pb v) w wr) (fun si _ => n - (intOf si).toNat)
  case atStart => exact ⟨i0, d, rfl, Nat.le_refl _, hi, hid, h, Same.refl n d, hu, fun g => absurd g (Nat.lt_irrefl _), Fr.refl _ w⟩
  case round =>
    obtain ⟨i, dk, rfl, hi0, hin, hil, hp, hs, hx, hup, hfr⟩ := hrel
    have hdl := hs.len
    have hds := hp.len
    have fin : ∀ (wr : World), IsP wr pb v dk → Fr (FP pb v) w wr → (∀ c, 0 < c → c < n → (c - 1) / 2 = i → klt (key dk c) (key dk i) = false) → ∀ b : Bool, b = decide (i0 < i) →
        ∃ b' d', Ending.returned (.bool b) = .returned (.bool b') ∧ IsP wr pb v d' ∧ Same n d d' ∧ (b' = true → OK d' n) ∧ (b' = false → UpOk d' n i0) ∧ Fr (FP pb v) w wr := fun wr hp' hf' hc b hb => by
      refine ⟨b, dk, rfl, hp', hs, fun e => ?_, fun e => ?_, hf'⟩
      · rw [hb] at e
        have : i0 < i := by have := of_decide_eq_true e; omega
        exact UpOk.ok ⟨hx, hc⟩ (hup this)
      · rw [hb] at e
        have : i = i0 := by have := of_decide_eq_false e; omega
        subst this
        exact ⟨hx, hc⟩
    by_cases h1 : 2 * i + 1 < n
    · have p1 : (0 : Int) ≤ 2 * (i : Int) + 1 := by omega
      have g1 : ¬ (n : Int) ≤ 2 * (i : Int) + 1 := by omega
      have g2 : ¬ (2 * (i : Int) + 1 < 0) := by omega
      have par : ∀ c, 0 < c → (c - 1) / 2 = i → c = 2 * i + 1 ∨ c = 2 * i + 2 := fun c c0 cp => by omega
      -- the lesser one below
      by_cases h2 : 2 * i + 2 < n
      · have q2 : 2 * (i : Int) + 1 + 1 < (n : Int) := by omega
        have L1 := less_key hp (2 * i + 2) (2 * i + 1) (by omega) (by omega) (2 * (i : Int) + 1 + 1) (2 * (i : Int) + 1) (by omega) (by omega)
        cases hk1 : klt (key dk (2 * i + 2)) (key dk (2 * i + 1))
        · rw [hk1] at L1
          have L2 := fun (W : World) (hW : IsP W pb v dk) => less_key hW (2 * i + 1) i (by omega) (by omega) (2 * (i : Int) + 1) (i : Int) (by omega) rfl
          cases hk2 : klt (key dk (2 * i + 1)) (key dk i)
          · rw [hk2] at L2
            have FF : Aside _ := fun W hW hF => fin W hW hF (fun c c0 cn cp => by
              rcases par c c0 cp with rfl | rfl
              · exact hk2
              · exact kle_trans hk2 hk1)
            clear fin hk2 hk1
            go_wp2_with fail
            refine L1.mono ?_
            rintro e w1 ⟨rfl, hb1⟩
            have hp1 := hp.below hb1
            go_wp2_with fail
            refine (L2 _ hp1).mono ?_
            rintro e w' ⟨rfl, hb⟩
            go_wp2_with fail
            go_ret
            exact FF.out _ (hp1.below hb) ((hfr.then (Fr.of_below hb1)).then (Fr.of_below hb)) _ rfl
          · rw [hk2] at L2
            obtain ⟨R1, R2⟩ := down_step (j := 2 * i + 1) (by omega) (by omega) (by omega) (by omega) hx (fun c c0 cn cp => by
              rcases par c c0 cp with rfl | rfl
              · exact klt_irrefl _
              · exact hk1) hk2
            clear fin hk2 hk1
            go_wp2_with fail
            refine L1.mono ?_
            rintro e w1 ⟨rfl, hb1⟩
            have hp1 := hp.below hb1
            go_wp2_with fail
            refine (L2 _ hp1).mono ?_
            rintro e w' ⟨rfl, hb⟩
            go_wp2_with (show Calls Tryz.prog 160 _ _ _; refine (swap_key (hp1.below hb) i (2 * i + 1) (by omega) (by omega) _ _ rfl (by omega)).mono ?_; rintro e w2 ⟨rfl, hp2, hfr2⟩)
            go_roundw
            case rel => exact ⟨2 * i + 1, swapL dk i (2 * i + 1), by go_num, by omega, by omega, by omega, hp2, hs.trans (same_swap (by omega) (by omega) (by omega)), R1, fun _ => R2, ((hfr.then (Fr.of_below hb1)).then (Fr.of_below hb)).then hfr2⟩
            case measure => simp [intOf]; omega
        · rw [hk1] at L1
          have L2 := fun (W : World) (hW : IsP W pb v dk) => less_key hW (2 * i + 2) i (by omega) (by omega) (2 * (i : Int) + 1 + 1) (i : Int) (by omega) rfl
          cases hk2 : klt (key dk (2 * i + 2)) (key dk i)
          · rw [hk2] at L2
            have FF : Aside _ := fun W hW hF => fin W hW hF (fun c c0 cn cp => by
              rcases par c c0 cp with rfl | rfl
              · exact kle_trans hk2 (klt_asymm hk1)
              · exact hk2)
            clear fin hk2 hk1
            go_wp2_with fail
            refine L1.mono ?_
            rintro e w1 ⟨rfl, hb1⟩
            have hp1 := hp.below hb1
            go_wp2_with fail
            refine (L2 _ hp1).mono ?_
            rintro e w' ⟨rfl, hb⟩
            go_wp2_with fail
            go_ret
            exact FF.out _ (hp1.below hb) ((hfr.then (Fr.of_below hb1)).then (Fr.of_below hb)) _ rfl
          · rw [hk2] at L2
            obtain ⟨R1, R2⟩ := down_step (j := 2 * i + 2) (by omega) (by omega) (by omega) (by omega) hx (fun c c0 cn cp => by
              rcases par c c0 cp with rfl | rfl
              · exact klt_asymm hk1
              · exact klt_irrefl _) hk2
            clear fin hk2 hk1
            go_wp2_with fail
            refine L1.mono ?_
            rintro e w1 ⟨rfl, hb1⟩
            have hp1 := hp.below hb1
            go_wp2_with fail
            refine (L2 _ hp1).mono ?_
            rintro e w' ⟨rfl, hb⟩
            go_wp2_with (show Calls Tryz.prog 160 _ _ _; refine (swap_key (hp1.below hb) i (2 * i + 2) (by omega) (by omega) _ _ rfl (by omega)).mono ?_; rintro e w2 ⟨rfl, hp2, hfr2⟩)
            go_roundw
            case rel => exact ⟨2 * i + 2, swapL dk i (2 * i + 2), by go_num, by omega, by omega, by omega, hp2, hs.trans (same_swap (by omega) (by omega) (by omega)), R1, fun _ => R2, ((hfr.then (Fr.of_below hb1)).then (Fr.of_below hb)).then hfr2⟩
            case measure => simp [intOf]; omega
      · have q2 : ¬ (2 * (i : Int) + 1 + 1 < (n : Int)) := by omega
        have q3 : decide (2 * (i : Int) + 1 + 1 < (n : Int)) = false := by simpa using q2
        have L2 := fun (W : World) (hW : IsP W pb v dk) => less_key hW (2 * i + 1) i (by omega) (by omega) (2 * (i : Int) + 1) (i : Int) (by omega) rfl
        cases hk2 : klt (key dk (2 * i + 1)) (key dk i)
        · rw [hk2] at L2
          have FF : Aside _ := fun W hW hF => fin W hW hF (fun c c0 cn cp => by
            rcases par c c0 cp with rfl | rfl
            · exact hk2
            · omega)
          clear fin hk2
          go_wp2_with (first | (show Calls Tryz.prog 157 _ _ _; refine (L2 _ hp).mono ?_; rintro e w' ⟨rfl, hb⟩))
          go_ret
          exact FF.out _ (hp.below hb) (hfr.then (Fr.of_below hb)) _ rfl
        · rw [hk2] at L2
          obtain ⟨R1, R2⟩ := down_step (by omega) h1 (by omega) (by omega) hx (fun c c0 cn cp => by
            rcases par c c0 cp with rfl | rfl
            · exact klt_irrefl _
            · omega) hk2
          clear fin hk2
          go_wp2_with (first | (show Calls Tryz.prog 157 _ _ _; refine (L2 _ hp).mono ?_; rintro e w' ⟨rfl, hb⟩) | (show Calls Tryz.prog 160 _ _ _; refine (swap_key (hp.below hb) i (2 * i + 1) (by omega) (by omega) _ _ rfl (by omega)).mono ?_; rintro e w2 ⟨rfl, hp2, hfr2⟩))
          go_roundw
          case rel => exact ⟨2 * i + 1, swapL dk i (2 * i + 1), by go_num, by omega, by omega, by omega, hp2, hs.trans (same_swap (by omega) h1 (by omega)), R1, fun _ => R2, (hfr.then (Fr.of_below hb)).then hfr2⟩
          case measure => simp [intOf]; omega
    · have g1 : (n : Int) ≤ 2 * (i : Int) + 1 := by omega
      have FIN := fin wr hp hfr (fun c c0 cn cp => by omega)
      have FF : Aside _ := FIN
      clear fin FIN
      go_wp2_with fail
      go_ret
      exact FF.out _ rfl

theorem split_last {d : List M} {n : Nat} (h : d.length = n + 1) : d = d.take n ++ [nth d n] := by
  rw [nth_get d n (by omega)]
  have : d.take n ++ [d[n]] = d.take (n + 1) := (List.take_succ_eq_append_getElem (by omega)).symm
  rw [this, List.take_of_length_le (by omega)]
theorem ok_take {d : List M} {n : Nat} (h : OK d n) (hn : n ≤ d.length) : OK (d.take n) (d.take n).length := by
  have hl : (d.take n).length = n := by rw [List.length_take]; omega
  rw [hl]
  have ko : ∀ t, t < n → key (d.take n) t = key d t := fun t ht => by
    unfold key
    rw [nth_get _ _ (by omega), nth_get _ _ (by omega), List.getElem_take]
  intro c c0 cn
  rw [ko c cn, ko _ (by omega)]
  exact h c c0 cn
/-- The pile's state and what it may have become. -/
def After (w : World) (pb : Nat) (v : Value) (w' : World) (v' : Value) (d' : List M) : Prop := IsP w' pb v' d' ∧ OK d' d'.length ∧ Fr (FP pb v) w w' ∧ (∀ k, FP pb v' k → FP pb v k ∨ w.heap.size ≤ k)

set_option maxRecDepth 100000 in
set_option maxHeartbeats 1000000 in
theorem hpush_any {w : World} {pb : Nat} {v : Value} {d : List M} (h : IsP w pb v d) (ho : OK d d.length) (m : M) (hlen : d.length < 20000) :
    Calls Tryz.prog 53 #[.iface 66 (.pointer (some ⟨pb, 0, none⟩)), .iface 38 (mv m)] w fun e w' => e = .returned (.tuple #[]) ∧ ∃ v' d', After w pb v w' v' d' ∧ d'.Perm (d ++ [m]) := by
  have P := push_any h m hlen
  generalize mv m = mm at P ⊢
  go_enter Tryz.func53, Tryz.ntmps53
  go_wp2_with fail
  refine P.mono ?_
  rintro e w1 ⟨rfl, v1, h1, f1, s1⟩
  have hl1 : (d ++ [m]).length = d.length + 1 := by simp
  have L := plen_any h1
  have U := up_any h1 (d ++ [m]).length d.length (Nat.le_refl _) (by simp) (upok_append ho)
  rw [hl1] at L U
  go_wp2_with fail
  refine L.mono ?_
  rintro e w2 ⟨rfl, hw2⟩
  have hw2' := hw2.symm
  subst hw2'
  go_wp2_with fail
  refine U.mono ?_
  rintro e w3 ⟨rfl, d', hp, hs, hok, hf⟩
  go_wp2_with fail
  go_end0
  refine ⟨rfl, v1, d', ⟨hp, by rw [hs.len, hl1]; exact hok, f1.trans hf (fun i hi hk => (s1 i hk).elim id (fun g => by omega)), s1⟩, hs.1⟩

set_option maxRecDepth 100000 in
set_option maxHeartbeats 1000000 in
theorem hpop_any {w : World} {pb : Nat} {v : Value} {d : List M} (h : IsP w pb v d) (ho : OK d d.length) (hne : 0 < d.length) :
    Calls Tryz.prog 56 #[.iface 66 (.pointer (some ⟨pb, 0, none⟩))] w fun e w' => e = .returned (.iface 38 (mv (nth d 0))) ∧ ∃ v' d', After w pb v w' v' d' ∧ (d' ++ [nth d 0]).Perm d := by
  obtain ⟨n, hn⟩ : ∃ n, d.length = n + 1 := ⟨d.length - 1, by omega⟩
  have hl := h.len
  have L := plen_any h
  have S := swap_key h 0 n (by omega) (by omega) 0 n rfl rfl
  rw [hn] at L
  have n1 : ((n : Int) + 1) - 1 = n := by omega
  go_enter Tryz.func56, Tryz.ntmps56
  go_wp2_with fail
  refine L.mono ?_
  rintro e w2 ⟨rfl, hw2⟩
  have hw2' := hw2.symm
  subst hw2'
  go_wp2_with fail
  refine S.mono ?_
  rintro e w1 ⟨rfl, h1, f1⟩
  have hl1 : (swapL d 0 n).length = n + 1 := by rw [swapL_len, hn]
  have hexc : Exc (swapL d 0 n) n 0 := by
    by_cases n0 : n = 0
    · subst n0
      exact ⟨fun c c0 cn => by omega, fun i0 => by omega⟩
    · exact exc_swap (by omega) (by omega) (by rw [← hn]; exact ho)
  have D := down_any h1 n 0 (by omega) (Nat.zero_le _) (by omega) hexc
  go_wp2_with fail
  refine D.mono ?_
  rintro e w2 ⟨b, d2, rfl, h2, hs, hb1, hb2, f2⟩
  have hok : OK d2 n := by
    cases b
    · exact (hb2 rfl).ok (fun g => by omega)
    · exact hb1 rfl
  have hl2 : d2.length = n + 1 := by rw [hs.len, hl1]
  have hx : nth d2 n = nth d 0 := by
    rw [hs.2 n (Nat.le_refl _), nth_swapL d 0 n n (by omega) (by omega), if_pos rfl]
  have e2 := split_last hl2
  rw [hx] at e2
  have h2' := h2
  rw [e2] at h2'
  have PP := popp_any h2'
  have E2 : Hid _ := e2
  clear hx e2 h2'
  go_wp2_with fail
  refine PP.mono ?_
  rintro e w3 ⟨rfl, v', h3, f3, s3⟩
  go_wp2_with fail
  go_ret
  refine ⟨rfl, v', d2.take n, ⟨h3, ok_take hok (by omega), (f1.then f2).trans f3 (fun _ _ g => g), fun k hk => .inl (s3 k hk)⟩, ?_⟩
  rw [← E2.out]
  exact hs.1.trans (swapL_perm d 0 n (by omega) (by omega))

end Go.Proofs.YtmfcbalhabcodaaGreat.H
