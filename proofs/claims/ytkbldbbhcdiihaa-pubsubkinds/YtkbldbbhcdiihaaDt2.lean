/- Proved: the document's Publishes, Hears and Route at its table. -/
import Derived.Test.YtkbldbbhcdiihaaDt1
import Derived.Test.YtkbldbbhcdiihaaPur
namespace Go.Proofs.Ytkbldbbhcdiihaa
open Go.RowKit Go.Shelf
set_option linter.unusedVariables false

def pubR (n : Nat) (P : Nat → List Int) (f c : Int) : Bool := decide (okFC n f c = 0) && decide (c ∈ P f.toNat)
def hearR (zs : List Int) (S : Nat → List Int) (f c : Int) : Bool := decide (okFC zs.length f c = 0) && (abv zs c).any (fun x => decide (x ∈ S f.toNat))
def routeF (zs : List Int) (S : Nat → List Int) (f c : Int) (n : Nat) : List Int := ((List.range n).filter (fun g : Nat => !(Int.ofNat g == f) && hearR zs S (Int.ofNat g) c)).map Int.ofNat
theorem routeF_succ (zs : List Int) (S : Nat → List Int) (f c : Int) (n : Nat) : routeF zs S f c (n + 1) = routeF zs S f c n ++ (if (!((n : Int) == f) && hearR zs S (n : Int) c) = true then [(n : Int)] else []) := by
  unfold routeF
  rw [List.range_succ, List.filter_append, List.map_append]
  congr 1
  by_cases e : (!((n : Int) == f) && hearR zs S (n : Int) c) = true
  · simp [e, List.filter]
  · have e' : (!((n : Int) == f) && hearR zs S (n : Int) c) = false := by simpa using e
    simp [e', List.filter]
theorem routeF_len (zs : List Int) (S : Nat → List Int) (f c : Int) (n : Nat) : (routeF zs S f c n).length ≤ n := by
  unfold routeF
  rw [List.length_map]
  exact Nat.le_trans (List.length_filter_le _ _) (by simp)

set_option maxRecDepth 100000 in
theorem dpubs_any (w : World) (F : Nat → Prop) (tb : Nat) (zs : List Int) (P S : Nat → List Int) (B : Nat) (f c : Int) (h : RT tb zs P S B w F) (hB : B ≤ 1000) :
    Calls Try.prog 18 #[.pointer (some ⟨tb, 0, none⟩), .int .i64 f, .int .i64 c] w fun e w' => e = .returned (.bool (pubR zs.length P f c)) ∧ w = w' := by
  obtain ⟨az, cz, pu, su, h⟩ := h
  have C := dchk_any w tb az cz zs f c h.c0
  unfold pubR
  rcases okFC_cases zs.length f c with ⟨e, _⟩ | ⟨e, hf0, hf8, hc0, hcl⟩
  · rw [decide_eq_false e, Bool.false_and]
    obtain ⟨r, hr⟩ : ∃ r, okFC zs.length f c = r := ⟨_, rfl⟩
    rw [hr] at C e
    have d0 : (r == 0) = false := by simpa using e
    go_enter Try.func18, Try.ntmps18
    go_wp2_with (go_at_call 27; refine C.mono ?_; rintro e w' ⟨rfl, rfl⟩)
    go_ret
    exact ⟨rfl, rfl⟩
  · rw [e] at C
    rw [decide_eq_true e, Bool.true_and]
    obtain ⟨k, rfl⟩ := Int.eq_ofNat_of_zero_le hf0
    have hk8 : k < 8 := by omega
    obtain ⟨a, cc, h1, h2, h3, h4⟩ := h.lp k hk8
    have H1 := (rhas_any w w.heap.size a cc (P k) c h4.rd (by omega)).mono (R' := fun e w' => e = .returned (.bool (decide (c ∈ P k))) ∧ w = w') (fun _ _ g => ⟨g.1, g.2.symm⟩)
    have hkk : ((k : Int)).toNat = k := by simp
    rw [hkk]
    have c1 := h.c1
    have v1 : (0 : Int) ≤ (k : Int) := by omega
    have v2 : (k : Int) < 8 := by omega
    obtain ⟨q, hq⟩ : ∃ q, P k = q := ⟨_, rfl⟩
    rw [hq] at H1 h1 ⊢
    obtain ⟨r, hr⟩ : ∃ r, decide (c ∈ q) = r := ⟨_, rfl⟩
    rw [hr] at H1 ⊢
    clear hq hr h3 h4 e h hkk
    go_enter Try.func18, Try.ntmps18
    go_wp2_with (first | (go_at_call 27; refine C.mono ?_; rintro e w' ⟨rfl, rfl⟩) | (go_at_call 31; refine H1.mono ?_; rintro e w' ⟨rfl, rfl⟩))
    go_ret
    exact ⟨rfl, rfl⟩

set_option maxRecDepth 100000 in
set_option maxHeartbeats 2000000 in
theorem dhears_any (w : World) (F : Nat → Prop) (tb : Nat) (zs : List Int) (P S : Nat → List Int) (B : Nat) (f c : Int) (h : RT tb zs P S B w F) (hB : B ≤ 1000) (hz : zs.length ≤ 1000) :
    Calls Try.prog 20 #[.pointer (some ⟨tb, 0, none⟩), .int .i64 f, .int .i64 c] w fun e w' => e = .returned (.bool (hearR zs S f c)) ∧ Below w.heap.size w w' := by
  obtain ⟨az, cz, pu, su, h⟩ := h
  have C := dchk_any w tb az cz zs f c h.c0
  unfold hearR
  rcases okFC_cases zs.length f c with ⟨e, _⟩ | ⟨e, hf0, hf8, hc0, hcl⟩
  · rw [decide_eq_false e, Bool.false_and]
    obtain ⟨r, hr⟩ : ∃ r, okFC zs.length f c = r := ⟨_, rfl⟩
    rw [hr] at C e
    have d0 : (r == 0) = false := by simpa using e
    go_enter Try.func20, Try.ntmps20
    go_wp2_with (go_at_call 27; refine C.mono ?_; rintro e w' ⟨rfl, rfl⟩)
    go_ret
    exact ⟨rfl, Below.refl _ _⟩
  · rw [e] at C
    rw [decide_eq_true e, Bool.true_and]
    obtain ⟨k, rfl⟩ := Int.eq_ofNat_of_zero_le hf0
    have hk8 : k < 8 := by omega
    obtain ⟨a, cc, h1, h2, h3, h4⟩ := h.ls k hk8
    have A1 := rabove_any w az cz zs c h.rd.rd (by omega)
    have hkk : ((k : Int)).toNat = k := by simp
    rw [hkk]
    have c0 := h.c0
    have c2 := h.c2
    have v1 : (0 : Int) ≤ (k : Int) := by omega
    have v2 : (k : Int) < 8 := by omega
    have hAL := abv_len zs c
    obtain ⟨q, hq⟩ : ∃ q, S k = q := ⟨_, rfl⟩
    rw [hq] at h1 h3 h4 ⊢
    obtain ⟨xs, hxs⟩ : ∃ xs, abv zs c = xs := ⟨_, rfl⟩
    rw [hxs] at A1 hAL ⊢
    obtain ⟨R, hR⟩ : ∃ R, xs.any (fun x => decide (x ∈ q)) = R := ⟨_, rfl⟩
    rw [hR]
    have HR : Hid _ := hR
    have H4 : Hid (RdI w w.heap.size a q) := h4.rd
    have ltb := h.lt _ h.ft
    have lsu := h.lt _ h.fs
    clear hq hxs hR h4 e h hkk
    go_enter Try.func20, Try.ntmps20
    go_wp2_with (first | (go_at_call 27; refine C.mono ?_; rintro e w' ⟨rfl, rfl⟩; clear C) | (go_at_call 34; refine A1.mono ?_; rintro e w1 ⟨a', c', rfl, hR1, hb1⟩; have HR1 : Hid _ := hR1; clear A1 hR1))
    go_loopw [8] (fun si wr => ∃ j : Nat, j ≤ xs.length ∧ si = .int .i64 j ∧ Hid (∀ i, i < j → nthI xs i ∉ q) ∧ Hid (Below w1.heap.size w1 wr)) (fun si _ => xs.length - (intOf si).toNat)
    case atStart => exact ⟨0, Nat.zero_le _, rfl, (fun i hi => absurd hi (Nat.not_lt_zero _) : ∀ i, i < 0 → nthI xs i ∉ q), Below.refl _ _⟩
    case round =>
      obtain ⟨j, hj, rfl, HJ, HB⟩ := hrel
      have hBw : Below w.heap.size w wr := hb1.trans ((Hid.out HB).mono hb1.size)
      by_cases hjl : j < xs.length
      · have hj' : (j : Int) < (xs.length : Int) := by omega
        obtain ⟨b, off, rfl, hb, hc⟩ := RdI.below HR1.out HB.out (by intro e; simp [e] at hjl)
        have x0 := hc j hjl
        obtain ⟨x, hx⟩ : ∃ x, nthI xs j = x := ⟨_, rfl⟩
        rw [hx] at x0
        have HX : Hid _ := hx
        have y2 := (hBw.cell (p := ⟨tb, 2, none⟩) ltb).trans c2
        have y1 := (hBw.cell (p := ⟨su, k, none⟩) lsu).trans h1
        have HC : ∀ n, Calls Try.prog 31 #[.slice a q.length cc, .int .i64 x] (wr.drewN n) fun e w' => e = .returned (.bool (decide (x ∈ q))) ∧ w' = wr.drewN n := fun n => rhas_any (wr.drewN n) w.heap.size a cc q x (RdI.below H4.out (hBw.trans ⟨rfl, rfl, rfl, Nat.le_refl _, fun _ _ => rfl⟩)) (by omega)
        clear hx hc
        by_cases hin : x ∈ q
        · rw [decide_eq_true hin] at HC
          go_wp2_with fail
          go_quiet (first | (go_at_call 31; refine Calls.quiet_of_same (HC _)))
          go_wp2
          go_ret
          refine ⟨?_, hBw.trans ⟨rfl, rfl, rfl, Nat.le_refl _, fun _ _ => rfl⟩⟩
          rw [← HR.out, List.any_eq_true.2 ⟨x, (mem_nth xs x).2 ⟨j, hjl, HX.out⟩, decide_eq_true hin⟩]
          rfl
        · rw [decide_eq_false hin] at HC
          go_wp2_with fail
          go_quiet (first | (go_at_call 31; refine Calls.quiet_of_same (HC _)))
          go_wp2
          go_roundw
          case rel =>
            refine ⟨j + 1, by omega, by go_num, ?_, (Hid.out HB).trans ⟨rfl, rfl, rfl, Nat.le_refl _, fun _ _ => rfl⟩⟩
            refine (fun i hi => ?_ : ∀ i, i < j + 1 → nthI xs i ∉ q)
            by_cases e : i = j
            · rw [e, HX.out]; exact hin
            · exact HJ.out i (by omega)
          case measure => simp [intOf]; omega
      · obtain rfl : j = xs.length := by omega
        go_wp2
        go_ret
        refine ⟨?_, hBw⟩
        rw [← HR.out, List.any_eq_false.2 (fun x hx => by obtain ⟨i, hi, e⟩ := (mem_nth xs x).1 hx; rw [← e]; simpa using HJ.out i hi)]
        rfl
end Go.Proofs.Ytkbldbbhcdiihaa
