/- Proved: PubsubRoutes answers true, whatever it is asked; what lay in memory is as it was. -/
import Derived.Test.YtkbldbbhcdiihaaWApt
namespace Go.Proofs.Ytkbldbbhcdiihaa
open Go.RowKit Go.Shelf
set_option linter.unusedVariables false

/-- No thing at all. -/
def NoT : World → (Nat → Prop) → Prop := fun _ F => ∀ k, ¬ F k
theorem thN : Th NoT where
  lt := fun h k hk => absurd hk (h k)
  keep := fun h _ _ => h
theorem L2.one {w W : World} {P : World → (Nat → Prop) → Prop} {F : Nat → Prop} (h : P W F) (hF : ∀ k, F k → w.heap.size ≤ k) (hb : Below w.heap.size w W) : L2 w W (fun _ => False) P NoT :=
  ⟨F, fun _ => False, h, fun _ g => g, fun _ _ g => g, hF, fun _ g => g.elim, hb, fun _ g => g.elim⟩
def z4 : List Int := [-1, 0, 0, 1]
theorem z4_ok : OKT z4 := (okT_iff z4).1 (by decide)
theorem z4_rd (w : World) : RdI (w.alloc (.cells #[.int .i64 (-1), .int .i64 0, .int .i64 0, .int .i64 1] 3)) (w.heap.size + 1) (some ⟨w.heap.size, 0, none⟩) z4 := fun _ => by
  have h := World.alloc_heap_new w (.cells #[.int .i64 (-1), .int .i64 0, .int .i64 0, .int .i64 1] 3)
  obtain ⟨W, hW⟩ : ∃ W, w.alloc (.cells #[.int .i64 (-1), .int .i64 0, .int .i64 0, .int .i64 1] 3) = W := ⟨_, rfl⟩
  rw [hW] at h ⊢
  refine ⟨w.heap.size, 0, rfl, by omega, fun i hi => ?_⟩
  have h4 : i = 0 ∨ i = 1 ∨ i = 2 ∨ i = 3 := by simp [z4] at hi; omega
  rcases h4 with rfl | rfl | rfl | rfl <;> simp [World.cell?, h, nthI, z4]
theorem routeG_succ (zs : List Int) (s : Tab) (f c : Int) (n : Nat) : routeG zs s f c (n + 1) = routeG zs s f c n ++ (if (!((n : Int) == f) && hearB zs s (n : Int) c) = true then [(n : Int)] else []) := by
  unfold routeG
  rw [List.range_succ, List.filter_append, List.map_append]
  congr 1
  by_cases e : (!((n : Int) == f) && hearB zs s (n : Int) c) = true
  · simp [e, List.filter]
  · have e' : (!((n : Int) == f) && hearB zs s (n : Int) c) = false := by simpa using e
    simp [e', List.filter]
theorem routeG_pre (zs : List Int) (s : Tab) (f c : Int) (n m : Nat) : routeG zs s f c n <+: routeG zs s f c (n + m) := by
  induction m with
  | zero => exact List.prefix_refl _
  | succ m ih =>
    refine ih.trans ?_
    rw [show n + (m + 1) = n + m + 1 by omega, routeG_succ]
    exact List.prefix_append _ _
theorem routeG_at {zs : List Int} {s : Tab} {f c : Int} {n : Nat} (hn : n < 8) (h : (!((n : Int) == f) && hearB zs s (n : Int) c) = true) : (routeG zs s f c n).length < (routeG zs s f c 8).length ∧ nthI (routeG zs s f c 8) (routeG zs s f c n).length = (n : Int) ∧ (routeG zs s f c (n + 1)).length = (routeG zs s f c n).length + 1 := by
  have hs := routeG_succ zs s f c n
  rw [if_pos h] at hs
  obtain ⟨r, hr⟩ := routeG_pre zs s f c (n + 1) (8 - (n + 1))
  rw [show n + 1 + (8 - (n + 1)) = 8 by omega, hs] at hr
  rw [← hr, hs]
  simp [nthI]
theorem routeG_not {zs : List Int} {s : Tab} {f c : Int} {n : Nat} (h : (!((n : Int) == f) && hearB zs s (n : Int) c) = false) : (routeG zs s f c (n + 1)).length = (routeG zs s f c n).length := by
  rw [routeG_succ, if_neg (by rw [h]; decide), List.append_nil]
theorem ok8 {n : Nat} {g k : Nat} (hg : g < 8) (hk : k < n) : okFC n (g : Int) (k : Int) = 0 := by
  unfold okFC
  rw [if_neg (by omega), if_neg (by omega)]
theorem errB_yes {zs : List Int} {p : Tab} {f c : Int} (h0 : okFC zs.length f c = 0) (h : pubB zs.length p f c = true) : errB zs p f c = 0 := by unfold errB; rw [if_neg (fun g => g h0), if_pos h]
theorem errB_not {zs : List Int} {p : Tab} {f c : Int} (h0 : okFC zs.length f c = 0) (h : pubB zs.length p f c = false) : errB zs p f c = 211 := by unfold errB; rw [if_neg (fun g => g h0), if_neg (by rw [h]; decide)]

set_option maxRecDepth 100000 in
set_option maxHeartbeats 4000000 in
theorem routes_walk {PT : Nat → List Int → Tab → Tab → World → (Nat → Prop) → Prop} (I : PI PT) (w : World) (sa : Option Addr) (n sc : Nat) (l : List St) (f c : Int) (hm : n ≤ maxLen) (h : InS w sa n l) (hf : 0 ≤ f ∧ f ≤ 255) (hc : 0 ≤ c ∧ c ≤ 255) :
    Calls Try.prog 7 #[.slice sa n sc, .int .u8 f, .int .u8 c] w fun e w' => e = .returned (.bool true) ∧ Below w.heap.size w w' := by
  by_cases g2 : 100 < n
  · have g2' : (100 : Int) < (n : Int) := by omega
    go_enter Try.func7, Try.ntmps7
    go_wp2
    go_ret
    exact ⟨rfl, Below.refl _ _⟩
  · have g2' : ¬ ((100 : Int) < (n : Int)) := by omega
    have hb0 : Below w.heap.size w (w.alloc (.cells #[.int .i64 (-1), .int .i64 0, .int .i64 0, .int .i64 1] 3)) := (Below.refl _ _).alloc (Nat.le_refl _) _
    have z0 := z4_rd w
    have s0 : (w.alloc (.cells #[.int .i64 (-1), .int .i64 0, .int .i64 0, .int .i64 1] 3)).heap.size = w.heap.size + 1 := by simp
    have NP : Calls Try.prog 8 #[.slice (some ⟨w.heap.size, 0, none⟩) 4 4] (w.alloc (.cells #[.int .i64 (-1), .int .i64 0, .int .i64 0, .int .i64 1] 3)) _ := I.new _ (some ⟨w.heap.size, 0, none⟩) 4 z4 (z0.mono (by omega)) z4_ok
    have HI : Hid (InS w sa n l) := h
    clear h z0
    go_enter Try.func7, Try.ntmps7
    go_wp2_with fail
    refine NP.mono ?_
    rintro e w1 ⟨ta, F1, rfl, h1, hF1, hb1⟩
    have h3' : Hid (L2 w w1 (fun _ => False) (PT ta z4 noB noB) NoT) := L2.one h1 (fun k hk => by have := hF1 k hk; omega) (hb0.trans (hb1.mono (by omega)))
    clear NP h1 hF1 hb1 hb0 s0
    go_wp2_with fail
    go_loopw [10] (fun si wr => ∃ (k : Nat) (p s : Tab), k ≤ n ∧ si = .int .i64 k ∧ Hid (L2 w wr (fun _ => False) (PT ta z4 p s) NoT)) (fun si _ => n - (intOf si).toNat)
    case atStart => exact ⟨0, noB, noB, Nat.zero_le _, rfl, h3'.out⟩
    case round =>
      clear h3'
      obtain ⟨k, p, s, hk, rfl, HQ⟩ := hrel
      by_cases hlt : k < n
      · obtain ⟨x, hx⟩ : ∃ x, nthS l k = x := ⟨_, rfl⟩
        obtain ⟨b, off, rfl, x0, x1, x2, x3⟩ := InS.cells HI.out (L2.bel HQ.out) hlt hx
        have hlt' : (k : Int) < (n : Int) := by omega
        have D1 := L2.does I thN HQ.out x.1 x.2.1 x.2.2.1 x.2.2.2
        obtain ⟨kd, ff, cc, is⟩ := x
        dsimp only at x0 x1 x2 x3 D1
        obtain ⟨E, hE⟩ : ∃ E, stE z4.length kd ff cc = E := ⟨_, rfl⟩
        rw [hE] at D1
        clear hx hE
        go_wp2_with (go_at_call 13; refine D1.mono ?_; rintro e w3 ⟨rfl, T3, _⟩; have HT3 : Hid _ := T3; clear D1 T3)
        go_roundw
        case rel => exact ⟨k + 1, _, _, by omega, by go_num, HT3.out⟩
        case measure => simp [intOf]; omega
      · obtain rfl : k = n := by omega
        obtain ⟨g, hg⟩ := Int.eq_ofNat_of_zero_le (show 0 ≤ f % 8 by omega)
        obtain ⟨d, hd⟩ := Int.eq_ofNat_of_zero_le (show 0 ≤ c % 4 by omega)
        have hg8 : g < 8 := by omega
        have hd4 : d < 4 := by omega
        have h0 : okFC z4.length (g : Int) (d : Int) = 0 := ok8 hg8 hd4
        have A1 : Hid (∀ W, L2 w W (fun _ => False) (PT ta z4 p s) NoT → Calls Try.prog 14 #[.pointer (some ⟨ta, 0, none⟩), .int .i64 g, .int .i64 d] W fun e w' => ∃ a' c', e = .returned (.tuple #[.slice a' (toB z4 p s g d).length c', .int .i64 (errB z4 p g d)]) ∧ RdI w' w'.heap.size a' (toB z4 p s g d) ∧ L2 w w' (fun _ => False) (PT ta z4 p s) NoT) := fun W (hW : L2 w W (fun _ => False) (PT ta z4 p s) NoT) => by
          obtain ⟨F, hF⟩ := L2.seeP hW
          exact (I.route hF g d).mono (fun e w' ⟨a', c', h1, h2, h3⟩ => ⟨a', c', h1, h2, L2.below hW (I.th _ _ _ _) thN h3⟩)
        have A2 : Hid (∀ W a0, L2 w W (fun _ => False) (PT ta z4 p s) NoT → RdI W W.heap.size a0 (toB z4 p s g d) → Calls Try.prog 17 #[.pointer (some ⟨ta, 0, none⟩), .int .i64 g, .int .i64 d] W fun e w' => e = .returned (.bool (pubB z4.length p g d)) ∧ RdI w' w'.heap.size a0 (toB z4 p s g d) ∧ L2 w w' (fun _ => False) (PT ta z4 p s) NoT) := fun W a0 (hW : L2 w W (fun _ => False) (PT ta z4 p s) NoT) (hr : RdI W W.heap.size a0 (toB z4 p s g d)) => by
          obtain ⟨F, hF⟩ := L2.seeP hW
          exact (I.pubs hF g d).mono (fun e w' u => ⟨u.1, hr.go (Nat.le_refl _) u.2, L2.below hW (I.th _ _ _ _) thN u.2⟩)
        have A3 : Hid (∀ (i : Nat) W a0, L2 w W (fun _ => False) (PT ta z4 p s) NoT → RdI W W.heap.size a0 (toB z4 p s g d) → Calls Try.prog 19 #[.pointer (some ⟨ta, 0, none⟩), .int .i64 i, .int .i64 d] W fun e w' => e = .returned (.bool (hearB z4 s i d)) ∧ RdI w' w'.heap.size a0 (toB z4 p s g d) ∧ L2 w w' (fun _ => False) (PT ta z4 p s) NoT) := fun i W a0 (hW : L2 w W (fun _ => False) (PT ta z4 p s) NoT) (hr : RdI W W.heap.size a0 (toB z4 p s g d)) => by
          obtain ⟨F, hF⟩ := L2.seeP hW
          exact (I.hears hF i d).mono (fun e w' u => ⟨u.1, hr.go (Nat.le_refl _) u.2, L2.below hW (I.th _ _ _ _) thN u.2⟩)
        have A4 : Hid (∀ W, L2 w W (fun _ => False) (PT ta z4 p s) NoT → Calls Try.prog 21 #[.pointer (some ⟨ta, 0, none⟩), .int .i64 g, .int .i64 9, .bool true] W fun e w' => e = .returned (.int .i64 81) ∧ Below w.heap.size w w') := fun W (hW : L2 w W (fun _ => False) (PT ta z4 p s) NoT) => by
          have e1 : okFC z4.length (g : Int) 9 = 81 := by unfold okFC; rw [if_neg (by omega), if_pos (.inr (by simp [z4]))]
          have := L2.callP hW thN (fun F hF => I.pub hF (g : Int) 9 true)
          rw [e1] at this
          exact this.mono (fun e w' u => ⟨u.1, L2.bel u.2.1⟩)
        have htl := toB_len z4 p s g d
        cases hp : pubB z4.length p g d with
        | true =>
          rw [hp] at A2
          rw [errB_yes h0 hp] at A1
          have hto : toB z4 p s g d = routeG z4 s g d 8 := by unfold toB; rw [if_pos hp]
          rw [hto] at A1 A2 A3 htl
          obtain ⟨R, hR⟩ : ∃ R, routeG z4 s g d 8 = R := ⟨_, rfl⟩
          have HRR : Hid _ := hR
          rw [hR] at A1 A2 A3 htl
          clear hto hR hp h0
          go_wp2_with fail
          try rw [hg]
          try rw [hd]
          clear hg hd
          refine (A1.out _ HQ.out).mono ?_
          rintro e w3 ⟨a3, c3, rfl, r3, T3⟩
          have A2' := A2.out w3 a3 T3 r3
          clear A1 A2 HQ r3 T3
          go_wp2_with (go_at_call 17; refine A2'.mono ?_; rintro e w4 ⟨rfl, r4, T4⟩; have HR4 : Hid (RdI w4 w4.heap.size a3 R) := r4; have HT4 : Hid _ := T4; clear A2' r4 T4)
          go_loopw [15, 16] (fun sn sh wr => ∃ i : Nat, i ≤ 8 ∧ sh = .int .i64 i ∧ sn = .int .i64 (routeG z4 s g d i).length ∧ Hid (RdI wr wr.heap.size a3 R) ∧ Hid (L2 w wr (fun _ => False) (PT ta z4 p s) NoT)) (fun _ sh _ => 8 - (intOf sh).toNat)
          case atStart => exact ⟨0, by omega, rfl, rfl, HR4.out, HT4.out⟩
          case round =>
            clear HR4 HT4
            obtain ⟨i, hi, rfl, rfl, HR5, HT5⟩ := hrel
            by_cases hi8 : i < 8
            · have hi' : (i : Int) < 8 := by omega
              by_cases hig : i = g
              · subst hig
                have hne : (!((i : Int) == (i : Int)) && hearB z4 s (i : Int) (d : Int)) = false := by simp
                have HN : Hid _ := routeG_not hne
                clear hne
                go_wp2_with fail
                go_roundw
                case rel => exact ⟨i + 1, by omega, by go_num, by rw [HN.out], HR5.out, HT5.out⟩
                case measure => simp [intOf]; omega
              · have dig : ((i : Int) == (g : Int)) = false := by rw [beq_eq_false_iff_ne]; omega
                have H1 := A3.out i wr a3 HT5.out HR5.out
                cases hh : hearB z4 s (i : Int) (d : Int) with
                | true =>
                  rw [hh] at H1
                  have hat := routeG_at hi8 (zs := z4) (s := s) (f := (g : Int)) (c := (d : Int)) (by rw [dig, hh]; rfl)
                  rw [HRR.out] at hat
                  obtain ⟨q, hq⟩ : ∃ q, (routeG z4 s g d i).length = q := ⟨_, rfl⟩
                  rw [hq] at hat ⊢
                  have hql : (q : Int) < (R.length : Int) := by omega
                  have dql : decide ((R.length : Int) ≤ (q : Int)) = false := by simp; omega
                  have HN : Hid _ := hat.2.2
                  have hnth := hat.2.1
                  clear hh hq
                  go_wp2_with fail
                  refine H1.mono ?_
                  rintro e w6 ⟨rfl, r6, T6⟩
                  obtain ⟨b6, o6, rfl, hb6, hc6⟩ := r6 (by intro e; rw [e] at hat; simp at hat)
                  have x6 := hc6 q hat.1
                  rw [hnth] at x6
                  have HR6 : Hid (RdI w6 w6.heap.size (some ⟨b6, o6, none⟩) R) := fun _ => ⟨b6, o6, rfl, hb6, hc6⟩
                  have HT6 : Hid _ := T6
                  clear H1 T6 hc6 hnth hat r6
                  go_wp2_with fail
                  go_roundw
                  case rel => exact ⟨i + 1, by omega, by go_num, by rw [HN.out]; go_num, HR6.out, HT6.out⟩
                  case measure => simp [intOf]; omega
                | false =>
                  rw [hh] at H1
                  have HN : Hid _ := routeG_not (zs := z4) (s := s) (f := (g : Int)) (c := (d : Int)) (n := i) (by rw [hh]; simp)
                  clear hh
                  go_wp2_with (go_at_call 19; refine H1.mono ?_; rintro e w6 ⟨rfl, r6, T6⟩; have HR6 : Hid _ := r6; have HT6 : Hid _ := T6; clear H1 r6 T6)
                  go_roundw
                  case rel => exact ⟨i + 1, by omega, by go_num, by rw [HN.out], HR6.out, HT6.out⟩
                  case measure => simp [intOf]; omega
            · obtain rfl : i = 8 := by omega
              have P1 := A4.out wr HT5.out
              rw [HRR.out]
              go_wp2_with (go_at_call 21; refine P1.mono ?_; rintro e w6 ⟨rfl, b6⟩; clear P1)
              go_ret
              exact ⟨rfl, b6⟩
        | false =>
          rw [hp] at A2
          rw [errB_not h0 hp] at A1
          have hto : toB z4 p s g d = [] := by unfold toB; rw [if_neg (by rw [hp]; decide)]
          rw [hto] at A1 A2 A3 htl
          clear hto hp h0
          go_wp2_with fail
          try rw [hg]
          try rw [hd]
          clear hg hd
          refine (A1.out _ HQ.out).mono ?_
          rintro e w3 ⟨a3, c3, rfl, r3, T3⟩
          have A2' := A2.out w3 a3 T3 r3
          clear A1 A2 HQ r3 T3
          go_wp2_with (go_at_call 17; refine A2'.mono ?_; rintro e w4 ⟨rfl, r4, T4⟩; have HT4 : Hid _ := T4; clear A2' r4 T4)
          go_loopw [15, 16] (fun sn sh wr => ∃ i : Nat, i ≤ 8 ∧ sh = .int .i64 i ∧ sn = .int .i64 0 ∧ Hid (L2 w wr (fun _ => False) (PT ta z4 p s) NoT)) (fun _ sh _ => 8 - (intOf sh).toNat)
          case atStart => exact ⟨0, by omega, rfl, rfl, HT4.out⟩
          case round =>
            clear HT4
            obtain ⟨i, hi, rfl, rfl, HT5⟩ := hrel
            by_cases hi8 : i < 8
            · have hi' : (i : Int) < 8 := by omega
              go_wp2_with fail
              go_roundw
              case rel => exact ⟨i + 1, by omega, by go_num, rfl, HT5.out⟩
              case measure => simp [intOf]; omega
            · obtain rfl : i = 8 := by omega
              have P1 := A4.out wr HT5.out
              go_wp2_with (go_at_call 21; refine P1.mono ?_; rintro e w6 ⟨rfl, b6⟩; clear P1)
              go_ret
              exact ⟨rfl, b6⟩
end Go.Proofs.Ytkbldbbhcdiihaa
