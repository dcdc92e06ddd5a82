/- Proved: no two messages to one federate have one key as they start; the walk of the statement on it. -/
import Derived.Test.YtpifkoblcbjiiaaWCk
namespace Go.Proofs.Ytpifkoblcbjiiaa
open Go.RowKit Go.Shelf
set_option linter.unusedVariables false

/-- Of another federate, of another number, or to another one. -/
def Apt (x y : M) : Prop := x.fr ≠ y.fr ∨ x.sq ≠ y.sq ∨ x.dst ≠ y.dst
theorem oneM_mem {d : Wd} {f q n b : Int} {os : List O} {i : Nat} {x : M} (h : x ∈ oneM d f q n b os i) : x.fr = f ∧ x.sq = q + (i : Int) ∧ x.cl = (nthO os i).1 ∧ x.t = vadd n (nthO os i).2.1 ∧ x.dst ∈ rts d f (nthO os i).1 := by
  unfold oneM at h
  obtain ⟨t, ht, rfl⟩ := List.mem_map.1 h
  exact ⟨rfl, rfl, rfl, rfl, ht⟩
theorem sprF_mem {d : Wd} {f q n b : Int} {os : List O} {k : Nat} {x : M} (h : x ∈ sprF d f q n b os k) : ∃ i, i < k ∧ x ∈ oneM d f q n b os i := by
  unfold sprF at h
  obtain ⟨i, hi, hx⟩ := List.mem_flatMap.1 h
  exact ⟨i, by simpa using hi, hx⟩
theorem oneM_apart (d : Wd) (f q n b : Int) (os : List O) (i : Nat) : (oneM d f q n b os i).Pairwise Apt := by
  unfold oneM
  refine List.Pairwise.map _ (fun a c h => ?_) (rts_nodup d f (nthO os i).1)
  exact .inr (.inr h)
theorem sprF_apart (d : Wd) (f q n b : Int) (os : List O) (k : Nat) : (sprF d f q n b os k).Pairwise Apt := by
  induction k with
  | zero => simp [sprF]
  | succ k ih =>
    rw [sprF_succ, List.pairwise_append]
    refine ⟨ih, oneM_apart d f q n b os k, fun x hx y hy => ?_⟩
    obtain ⟨i, hi, hx⟩ := sprF_mem hx
    have h1 := (oneM_mem hx).2.1
    have h2 := (oneM_mem hy).2.1
    exact .inr (.inl (by rw [h1, h2]; omega))
theorem stsF_apart (d : Wd) (k : Nat) : (stsF d k).Pairwise Apt := by
  induction k with
  | zero => simp [stsF]
  | succ k ih =>
    rw [stsF_succ, List.pairwise_append]
    refine ⟨ih, sprF_apart _ _ _ _ _ _ _, fun x hx y hy => ?_⟩
    unfold stsF at hx
    obtain ⟨j, hj, hx⟩ := List.mem_flatMap.1 hx
    obtain ⟨i, _, hx⟩ := sprF_mem hx
    obtain ⟨i2, _, hy⟩ := sprF_mem hy
    have h1 := (oneM_mem hx).1
    have h2 := (oneM_mem hy).1
    have hj' : j < k := by simpa using hj
    exact .inl (by rw [h1, h2]; omega)
theorem sts_apart {d : Wd} {k i : Nat} (h : k < i) (hi : i < (sts d).length) : Apt (nthM (sts d) k) (nthM (sts d) i) := by
  have := (List.pairwise_iff_getElem.1 (stsF_apart d d.fs.length)) k i (by have : i < (stsF d d.fs.length).length := hi; omega) hi h
  unfold sts at hi ⊢
  simpa [nthM, hi, show k < (stsF d d.fs.length).length by omega] using this

set_option maxRecDepth 100000 in
set_option maxHeartbeats 4000000 in
theorem keys_walk (w : World) (D : Wd) (hp : RdI w w.heap.size D.pa D.ps) (hf : RdF w D.fa D.fs) :
    Calls Try.prog 6 #[wv D] w fun e w' => e = .returned (.bool true) ∧ Below w.heap.size w w' := by
  have mixed : Try.prog.follows .mixedOrders = true := by kernel_rfl
  have hb0 := al w (.cells (wcs D) 25)
  obtain ⟨⟨x0, x1, x2⟩, hp1, hf1⟩ := box_of hp hf
  have HV := heavy_any _ D hp1 hf1
  obtain ⟨B, hB⟩ : ∃ B, w.heap.size = B := ⟨_, rfl⟩
  rw [hB] at x0 x1 x2
  have lB := clt x0
  dsimp only at lB
  cases hh : hvyW D with
  | true =>
    rw [hh] at HV
    dsimp only [wv, wcs] at HV x0 x1 x2 lB hb0 ⊢
    clear hp hf hp1 hf1 hh
    go_enter Try.func6, Try.ntmps6
    go_wp2_with fail
    refine HV.mono ?_
    rintro e w1 ⟨rfl, hb1⟩
    have hb1' := hb0.trans (hb1.mono hb0.size)
    clear HV
    go_wp2_with fail
    refine (shown_any w1).mono ?_
    rintro e w2 ⟨rfl, hb2⟩
    go_wp2_with fail
    go_ret
    exact ⟨rfl, hb1'.trans (hb2.mono hb1'.size)⟩
  | false =>
    have hW := ww_of hp1 hf1 hh
    rw [hh] at HV
    have HX : Hid (∀ W, Below (w.alloc (.cells (wcs D) 25)).heap.size (w.alloc (.cells (wcs D) 25)) W → BoxW W B D) := fun W hW' => (BoxW.mk x0 x1 x2 hW).below hW'
    have hsl : (sts D).length ≤ 8000 := Nat.le_trans (stsF_len hW.fl hW.lt D.fs.length (Nat.le_refl _)) (by have := hW.fl; omega)
    have HAP : Hid (∀ k i, k < i → i < (sts D).length → Apt (nthM (sts D) k) (nthM (sts D) i)) := fun k i h1 h2 => sts_apart h1 h2
    obtain ⟨N, E, hNE⟩ : ∃ N E, wldE D = (N, E) := ⟨_, _, rfl⟩
    have HNE : Hid _ := hNE
    have hST := fun W (h : Ww W D) => starts_any W D h
    have hRS := fun W (h : Ww W D) => rstarts_any W D h
    obtain ⟨L, hL⟩ : ∃ L, sts D = L := ⟨_, rfl⟩
    simp only [hL] at hST hRS HAP hsl
    have HST : Hid _ := hST
    have HRS : Hid _ := hRS
    dsimp only [wv, wcs] at HV x0 x1 x2 lB hb0 HX HST HRS ⊢
    clear hp hf hp1 hf1 hh hW hNE hST hRS hL
    go_enter Try.func6, Try.ntmps6
    go_wp2_with fail
    refine HV.mono ?_
    rintro e w1 ⟨rfl, hb1⟩
    obtain ⟨x0, x1, x2, hW1⟩ := HX.out w1 hb1
    have C1 := wcheck_any w1 D hW1
    rw [HNE.out] at C1
    dsimp only [wv] at C1
    clear HV hW1
    go_wp2_with fail
    refine C1.mono ?_
    rintro e w2 ⟨rfl, hb2⟩
    have hb2' := hb1.trans (hb2.mono hb1.size)
    obtain ⟨x0, x1, x2, hW2⟩ := HX.out w2 hb2'
    have C2 := rwcheck_any w2 D hW2
    rw [HNE.out] at C2
    dsimp only [wv] at C2
    clear C1 hW2
    go_wp2_with fail
    refine C2.mono ?_
    rintro e w3 ⟨rfl, hb3⟩
    have hb3' := hb2'.trans (hb3.mono hb2'.size)
    have S := shown_any w3
    clear C2
    go_wp2_with fail
    refine S.mono ?_
    rintro e w4 ⟨rfl, hb4⟩
    have hb4' := hb3'.trans (hb4.mono hb3'.size)
    clear S
    by_cases e0 : E = 0
    · subst e0
      obtain ⟨x0, x1, x2, hW4⟩ := HX.out w4 hb4'
      have C5 := HST.out w4 hW4
      clear hW4
      go_wp2_with fail
      refine C5.mono ?_
      rintro e w5 ⟨v5, rfl, hr5⟩
      obtain ⟨a5, c5, rfl, hrd5⟩ := hr5.rd
      have hb5' := hb4'.trans (hr5.2.mono hb4'.size)
      have HR5 : Hid _ := hr5
      have HD5 : Hid _ := hrd5
      clear C5 hr5 hrd5 x0 x1 x2
      go_wp2_with fail
      clear hB
      go_loopw [8] (fun s8 wr => ∃ k : Nat, k ≤ L.length ∧ s8 = .int .i64 k ∧ Below w5.heap.size w5 wr) (fun s8 _ => L.length - (intOf s8).toNat)
      case atStart => exact ⟨0, Nat.zero_le _, rfl, Below.refl _ _⟩
      case round =>
        obtain ⟨k, hk, rfl, hbw⟩ := hrel
        by_cases hkl : k < L.length
        · have hk' : (k : Int) < (L.length : Int) := by omega
          go_wp2_with fail
          go_loopw [9] (fun s9 wq => ∃ j : Nat, j ≤ k ∧ s9 = .int .i64 j ∧ Below w5.heap.size w5 wq) (fun s9 _ => k - (intOf s9).toNat)
          case atStart => exact ⟨0, Nat.zero_le _, rfl, hbw⟩
          case round =>
            clear hbw
            obtain ⟨j, hj, rfl, hbq⟩ := hrel
            by_cases hjk : j < k
            · have hj' : (j : Int) < (k : Int) := by omega
              have hj2 : (j : Int) < (L.length : Int) := by omega
              obtain ⟨x, hx⟩ : ∃ x, nthM L k = x := ⟨_, rfl⟩
              obtain ⟨y, hy⟩ : ∃ y, nthM L j = y := ⟨_, rfl⟩
              have hap := HAP.out j k hjk hkl
              rw [hx, hy] at hap
              obtain ⟨b1, o1, rfl, _, p0, p1, p2, p3, p4, p5⟩ := (RdM.below HD5.out hbq).cells hkl hx
              obtain ⟨b2, o2, e, _, q0, q1, q2, q3, q4, q5⟩ := (RdM.below HD5.out hbq).cells (show j < L.length by omega) hy
              simp at e
              obtain ⟨rfl, rfl⟩ := e
              obtain ⟨t, fr, sq, dst, cl, bd⟩ := x
              obtain ⟨t', fr', sq', dst', cl', bd'⟩ := y
              dsimp only [Apt] at hap p0 p1 p2 p3 p4 p5 q0 q1 q2 q3 q4 q5
              clear hx hy
              by_cases c1 : t = t'
              · subst c1
                by_cases c2 : fr = fr'
                · subst c2
                  by_cases c3 : sq = sq'
                  · subst c3
                    have kd : (dst == dst') = false := by
                      rcases hap with h | h | h
                      · exact absurd rfl h
                      · exact absurd rfl h
                      · simpa using fun e => h e.symm
                    clear hap
                    go_wp2_with fail
                    go_quiet (fail)
                    go_wp2
                    go_roundw
                    case rel => exact ⟨j + 1, by omega, by go_num, hbq.trans (below_drewN _ _ _)⟩
                    case measure => simp [intOf]; omega
                  · have kb : (sq == sq') = false := by simpa using c3
                    clear hap
                    go_wp2_with fail
                    go_quiet (fail)
                    go_wp2
                    go_roundw
                    case rel => exact ⟨j + 1, by omega, by go_num, hbq.trans (below_drewN _ _ _)⟩
                    case measure => simp [intOf]; omega
                · have kb : (fr == fr') = false := by simpa using c2
                  clear hap
                  go_wp2_with fail
                  go_quiet (fail)
                  go_wp2
                  go_roundw
                  case rel => exact ⟨j + 1, by omega, by go_num, hbq.trans (below_drewN _ _ _)⟩
                  case measure => simp [intOf]; omega
              · have kb : (t == t') = false := by simpa using c1
                clear hap
                go_wp2_with fail
                go_quiet (fail)
                go_wp2
                go_roundw
                case rel => exact ⟨j + 1, by omega, by go_num, hbq.trans (below_drewN _ _ _)⟩
                case measure => simp [intOf]; omega
            · obtain rfl : j = k := by omega
              go_wp2_with fail
              go_roundw
              case rel => exact ⟨j + 1, by omega, by go_num, hbq⟩
              case measure => simp [intOf]; omega
        · obtain rfl : k = L.length := by omega
          have hb6 := hb5'.trans (hbw.mono hb5'.size)
          obtain ⟨x0, x1, x2, hW6⟩ := HX.out wr hb6
          have C6 := HRS.out wr hW6
          clear hW6
          go_wp2_with fail
          refine C6.mono ?_
          rintro e w7 ⟨v7, rfl, hr7⟩
          obtain ⟨a7, c7, rfl, hrd7⟩ := hr7.rd
          have hb7 := hb6.trans (hr7.2.mono hb6.size)
          have SM := same_yes w7 a5 a7 c5 c7 L (RowM.look HR5.out (hbw.trans (hr7.2.mono hbw.size))) hrd7 (by omega)
          clear C6 hr7 hrd7
          go_wp2_with fail
          refine SM.mono ?_
          rintro e w8 ⟨rfl, hb8⟩
          have hb8' := hb7.trans (hb8.mono hb7.size)
          clear SM
          go_wp2_with fail
          go_ret
          exact ⟨rfl, hb0.trans (hb8'.mono hb0.size)⟩
    · have ke : (E == 0) = false := by simpa using e0
      go_wp2_with fail
      go_ret
      exact ⟨rfl, hb0.trans (hb4'.mono hb0.size)⟩
end Go.Proofs.Ytpifkoblcbjiiaa
