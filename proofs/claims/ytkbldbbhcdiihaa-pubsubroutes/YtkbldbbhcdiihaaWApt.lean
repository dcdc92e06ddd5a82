/- Proved: PubsubApart answers true, whatever it is asked; what lay in memory is as it was. -/
import Derived.Test.YtkbldbbhcdiihaaWScr
namespace Go.Proofs.Ytkbldbbhcdiihaa
open Go.RowKit Go.Shelf
set_option linter.unusedVariables false

/-- Two tables that tell the same of all but one. -/
def Agr (o : Nat) (p q : Tab) : Prop := ∀ g c, g ≠ o → p g c = q g c
theorem Agr.put {o : Nat} {p q : Tab} (h : Agr o p q) (n : Nat) (f c : Int) (is : Bool) : Agr o (putB n p f c is) (putB n q f c is) := fun g d hg => by
  unfold putB
  split
  · unfold updB
    split
    · rfl
    · exact h g d hg
  · exact h g d hg
theorem Agr.out {o : Nat} {p q : Tab} (h : Agr o p q) (f : Int) : Agr o (outB p f) (outB q f) := fun g d hg => by
  unfold outB
  split
  · unfold clrB
    split
    · rfl
    · exact h g d hg
  · exact h g d hg
theorem Agr.put1 {o : Nat} {p q : Tab} (h : Agr o p q) (n : Nat) (c : Int) (is : Bool) : Agr o (putB n p (o : Int) c is) q := fun g d hg => by
  unfold putB
  split
  · unfold updB
    rw [if_neg (fun e => hg (by simpa using e.1))]
    exact h g d hg
  · exact h g d hg
theorem Agr.out1 {o : Nat} {p q : Tab} (h : Agr o p q) : Agr o (outB p (o : Int)) q := fun g d hg => by
  unfold outB
  split
  · unfold clrB
    rw [if_neg (fun e => hg (by simpa using e))]
    exact h g d hg
  · exact h g d hg
theorem Agr.stP {o : Nat} {p q : Tab} (h : Agr o p q) (n : Nat) (k f c : Int) (is : Bool) : Agr o (stP n p k f c is) (stP n q k f c is) := by
  unfold Go.Proofs.Ytkbldbbhcdiihaa.stP
  split
  · exact h.put n f c is
  · split
    · exact h
    · split
      · exact h.out f
      · exact h
theorem Agr.stS {o : Nat} {p q : Tab} (h : Agr o p q) (n : Nat) (k f c : Int) (is : Bool) : Agr o (stS n p k f c is) (stS n q k f c is) := by
  unfold Go.Proofs.Ytkbldbbhcdiihaa.stS
  split
  · exact h
  · split
    · exact h.put n f c is
    · split
      · exact h.out f
      · exact h
theorem Agr.stP1 {o : Nat} {p q : Tab} (h : Agr o p q) (n : Nat) (k c : Int) (is : Bool) : Agr o (Go.Proofs.Ytkbldbbhcdiihaa.stP n p k (o : Int) c is) q := by
  unfold Go.Proofs.Ytkbldbbhcdiihaa.stP
  split
  · exact h.put1 n c is
  · split
    · exact h
    · split
      · exact h.out1
      · exact h
theorem Agr.stS1 {o : Nat} {p q : Tab} (h : Agr o p q) (n : Nat) (k c : Int) (is : Bool) : Agr o (Go.Proofs.Ytkbldbbhcdiihaa.stS n p k (o : Int) c is) q := by
  unfold Go.Proofs.Ytkbldbbhcdiihaa.stS
  split
  · exact h
  · split
    · exact h.put1 n c is
    · split
      · exact h.out1
      · exact h
theorem Agr.pubB {o : Nat} {p q : Tab} (h : Agr o p q) (n : Nat) {g : Nat} (hg : g ≠ o) (c : Int) : pubB n p (g : Int) c = Go.Proofs.Ytkbldbbhcdiihaa.pubB n q (g : Int) c := by
  unfold Go.Proofs.Ytkbldbbhcdiihaa.pubB
  rw [show ((g : Int)).toNat = g by simp, h g c hg]
theorem Agr.hearB {o : Nat} {p q : Tab} (h : Agr o p q) (zs : List Int) {g : Nat} (hg : g ≠ o) (c : Int) : hearB zs p (g : Int) c = Go.Proofs.Ytkbldbbhcdiihaa.hearB zs q (g : Int) c := by
  unfold Go.Proofs.Ytkbldbbhcdiihaa.hearB
  rw [show ((g : Int)).toNat = g by simp]
  congr 1
  congr 1
  funext x
  exact h g x hg
def z6 : List Int := [-1, 0, 0, 1, 1, -1]
theorem z6_ok : OKT z6 := (okT_iff z6).1 (by decide)
theorem z6_rd (w : World) : RdI (w.alloc (.cells #[.int .i64 (-1), .int .i64 0, .int .i64 0, .int .i64 1, .int .i64 1, .int .i64 (-1)] 3)) (w.heap.size + 1) (some ⟨w.heap.size, 0, none⟩) z6 := fun _ => by
  have h := World.alloc_heap_new w (.cells #[.int .i64 (-1), .int .i64 0, .int .i64 0, .int .i64 1, .int .i64 1, .int .i64 (-1)] 3)
  obtain ⟨W, hW⟩ : ∃ W, w.alloc (.cells #[.int .i64 (-1), .int .i64 0, .int .i64 0, .int .i64 1, .int .i64 1, .int .i64 (-1)] 3) = W := ⟨_, rfl⟩
  rw [hW] at h ⊢
  refine ⟨w.heap.size, 0, rfl, by omega, fun i hi => ?_⟩
  have h6 : i = 0 ∨ i = 1 ∨ i = 2 ∨ i = 3 ∨ i = 4 ∨ i = 5 := by simp [z6] at hi; omega
  rcases h6 with rfl | rfl | rfl | rfl | rfl | rfl <;> simp [World.cell?, h, nthI, z6]

set_option maxRecDepth 100000 in
set_option maxHeartbeats 4000000 in
theorem apart_walk {PT : Nat → List Int → Tab → Tab → World → (Nat → Prop) → Prop} (I : PI PT) (w : World) (sa : Option Addr) (n sc : Nat) (l : List St) (f : Int) (hm : n ≤ maxLen) (h : InS w sa n l) (hf : 0 ≤ f ∧ f ≤ 255) :
    Calls Try.prog 4 #[.slice sa n sc, .int .u8 f] w fun e w' => e = .returned (.bool true) ∧ Below w.heap.size w w' := by
  by_cases g2 : 100 < n
  · have g2' : (100 : Int) < (n : Int) := by omega
    go_enter Try.func4, Try.ntmps4
    go_wp2
    go_ret
    exact ⟨rfl, Below.refl _ _⟩
  · have g2' : ¬ ((100 : Int) < (n : Int)) := by omega
    have hb0 : Below w.heap.size w (w.alloc (.cells #[.int .i64 (-1), .int .i64 0, .int .i64 0, .int .i64 1, .int .i64 1, .int .i64 (-1)] 3)) := (Below.refl _ _).alloc (Nat.le_refl _) _
    have z0 := z6_rd w
    have s0 : (w.alloc (.cells #[.int .i64 (-1), .int .i64 0, .int .i64 0, .int .i64 1, .int .i64 1, .int .i64 (-1)] 3)).heap.size = w.heap.size + 1 := by simp
    have NP : Calls Try.prog 8 #[.slice (some ⟨w.heap.size, 0, none⟩) 6 6] (w.alloc (.cells #[.int .i64 (-1), .int .i64 0, .int .i64 0, .int .i64 1, .int .i64 1, .int .i64 (-1)] 3)) _ := I.new _ (some ⟨w.heap.size, 0, none⟩) 6 z6 (z0.mono (by omega)) z6_ok
    have NQ : Hid (∀ W, Below (w.heap.size + 1) (w.alloc (.cells #[.int .i64 (-1), .int .i64 0, .int .i64 0, .int .i64 1, .int .i64 1, .int .i64 (-1)] 3)) W → Calls Try.prog 8 #[.slice (some ⟨w.heap.size, 0, none⟩) 6 6] W _) := fun W (hb : Below (w.heap.size + 1) (w.alloc (.cells #[.int .i64 (-1), .int .i64 0, .int .i64 0, .int .i64 1, .int .i64 1, .int .i64 (-1)] 3)) W) => I.new W (some ⟨w.heap.size, 0, none⟩) 6 z6 ((z0.below hb).mono (by have := hb.size; simp at this; omega)) z6_ok
    have HI : Hid (InS w sa n l) := h
    clear h z0
    go_enter Try.func4, Try.ntmps4
    go_wp2_with fail
    refine NP.mono ?_
    rintro e w1 ⟨ta, F1, rfl, h1, hF1, hb1⟩
    have R1 := NQ.out w1 (by rw [s0] at hb1; exact hb1)
    clear NP NQ
    go_wp2_with fail
    refine R1.mono ?_
    rintro e w2 ⟨tb, F2, rfl, h2, hF2, hb2⟩
    have h3' : Hid (L2 w w2 (fun _ => False) (PT ta z6 noB noB) (PT tb z6 noB noB)) := L2.start (I.th _ _ _ _) h1 (fun k hk => by have := hF1 k hk; omega) (hb0.trans (hb1.mono (by omega))) h2 hF2 hb2
    clear R1 h1 h2 hF1 hF2 hb1 hb2 hb0 s0
    obtain ⟨o, ho⟩ := Int.eq_ofNat_of_zero_le (show 0 ≤ f % 8 by omega)
    have ho8 : o < 8 := by omega
    go_wp2_with fail
    rw [ho]
    clear ho
    go_loopw [11] (fun si wr => ∃ (k : Nat) (p s q t : Tab), k ≤ n ∧ si = .int .i64 k ∧ Hid (L2 w wr (fun _ => False) (PT ta z6 p s) (PT tb z6 q t)) ∧ Hid (Agr o p q ∧ Agr o s t)) (fun si _ => n - (intOf si).toNat)
    case atStart => exact ⟨0, noB, noB, noB, noB, Nat.zero_le _, rfl, h3'.out, (⟨fun _ _ _ => rfl, fun _ _ _ => rfl⟩ : Agr o noB noB ∧ Agr o noB noB)⟩
    case round =>
      clear h3'
      obtain ⟨k, p, s, q, t, hk, rfl, HQ, HA⟩ := hrel
      by_cases hlt : k < n
      · obtain ⟨x, hx⟩ : ∃ x, nthS l k = x := ⟨_, rfl⟩
        obtain ⟨b, off, rfl, x0, x1, x2, x3⟩ := InS.cells HI.out (L2.bel HQ.out) hlt hx
        have hlt' : (k : Int) < (n : Int) := by omega
        have D1 := L2.does I (I.th _ _ _ _) HQ.out x.1 x.2.1 x.2.2.1 x.2.2.2
        have HX : Hid (∀ W, Below w.heap.size w W → _) := fun W (hb : Below w.heap.size w W) => InS.cells HI.out hb hlt hx
        obtain ⟨kd, ff, cc, is⟩ := x
        dsimp only at x0 x1 x2 x3 D1 HX
        obtain ⟨E, hE⟩ : ∃ E, stE z6.length kd ff cc = E := ⟨_, rfl⟩
        rw [hE] at D1
        have HE : Hid _ := hE
        clear hx hE
        go_wp2_with fail
        refine D1.mono ?_
        rintro e w3 ⟨rfl, T3, _⟩
        obtain ⟨b', off', e', y0, y1, y2, y3⟩ := HX.out w3 (L2.bel T3)
        obtain ⟨rfl, rfl⟩ : b = b' ∧ off = off' := by simpa using e'
        clear D1 e'
        by_cases hfo : ff = (o : Int)
        · subst hfo
          have HT3 : Hid _ := T3
          clear T3
          go_wp2_with fail
          go_roundw
          case rel => exact ⟨k + 1, _, _, q, t, by omega, by go_num, HT3.out, (⟨HA.out.1.stP1 z6.length kd cc is, HA.out.2.stS1 z6.length kd cc is⟩ : Agr o _ q ∧ Agr o _ t)⟩
          case measure => simp [intOf]; omega
        · have dfo : (ff == (o : Int)) = false := by simpa using hfo
          have D2 := L2.does I (I.th _ _ _ _) T3.swap kd ff cc is
          rw [HE.out] at D2
          clear T3
          go_wp2_with (go_at_call 13; refine D2.mono ?_; rintro e w4 ⟨rfl, T4, _⟩; have HT4 : Hid _ := T4; clear D2 T4)
          go_roundw
          case rel => exact ⟨k + 1, _, _, _, _, by omega, by go_num, L2.swap HT4.out, (⟨HA.out.1.stP z6.length kd ff cc is, HA.out.2.stS z6.length kd ff cc is⟩ : Agr o _ _ ∧ Agr o _ _)⟩
          case measure => simp [intOf]; omega
      · obtain rfl : k = n := by omega
        go_wp2_with fail
        go_loopw [13] (fun sg wr => ∃ g : Nat, g ≤ 8 ∧ sg = .int .i64 g ∧ Hid (L2 w wr (fun _ => False) (PT ta z6 p s) (PT tb z6 q t))) (fun sg _ => 8 - (intOf sg).toNat)
        case atStart => exact ⟨0, by omega, rfl, HQ.out⟩
        case round =>
          clear HQ
          obtain ⟨g, hg, rfl, HG⟩ := hrel
          by_cases hg8 : g < 8
          · have hg' : (g : Int) < 8 := by omega
            go_wp2_with fail
            go_loopw [14] (fun sc' wr => ∃ j : Nat, j ≤ 6 ∧ sc' = .int .i64 j ∧ Hid (L2 w wr (fun _ => False) (PT ta z6 p s) (PT tb z6 q t))) (fun sc' _ => 6 - (intOf sc').toNat)
            case atStart => exact ⟨0, by omega, rfl, HG.out⟩
            case round =>
              clear HG
              obtain ⟨j, hj, rfl, HJ⟩ := hrel
              by_cases hj6 : j < 6
              · have hj' : (j : Int) < 6 := by omega
                by_cases hgo : g = o
                · subst hgo
                  go_wp2_with fail
                  go_roundw
                  case rel => exact ⟨j + 1, by omega, by go_num, HJ.out⟩
                  case measure => simp [intOf]; omega
                · have dgo : ((g : Int) == (o : Int)) = false := by rw [beq_eq_false_iff_ne]; omega
                  have A1 : Hid (∀ W, L2 w W (fun _ => False) (PT ta z6 p s) (PT tb z6 q t) → Calls Try.prog 17 #[.pointer (some ⟨ta, 0, none⟩), .int .i64 g, .int .i64 j] W fun e w' => e = .returned (.bool (pubB z6.length q g j)) ∧ L2 w w' (fun _ => False) (PT ta z6 p s) (PT tb z6 q t)) := fun W (hW : L2 w W (fun _ => False) (PT ta z6 p s) (PT tb z6 q t)) => by
                    obtain ⟨F, hF⟩ := L2.seeP hW
                    exact (I.pubs hF g j).mono (fun e w' u => ⟨by rw [u.1, HA.out.1.pubB z6.length hgo], L2.below hW (I.th _ _ _ _) (I.th _ _ _ _) u.2⟩)
                  have A2 : Hid (∀ W, L2 w W (fun _ => False) (PT ta z6 p s) (PT tb z6 q t) → Calls Try.prog 17 #[.pointer (some ⟨tb, 0, none⟩), .int .i64 g, .int .i64 j] W fun e w' => e = .returned (.bool (pubB z6.length q g j)) ∧ L2 w w' (fun _ => False) (PT ta z6 p s) (PT tb z6 q t)) := fun W (hW : L2 w W (fun _ => False) (PT ta z6 p s) (PT tb z6 q t)) => by
                    obtain ⟨F, hF⟩ := L2.seeQ hW
                    exact (I.pubs hF g j).mono (fun e w' u => ⟨u.1, L2.below hW (I.th _ _ _ _) (I.th _ _ _ _) u.2⟩)
                  have A3 : Hid (∀ W, L2 w W (fun _ => False) (PT ta z6 p s) (PT tb z6 q t) → Calls Try.prog 19 #[.pointer (some ⟨ta, 0, none⟩), .int .i64 g, .int .i64 j] W fun e w' => e = .returned (.bool (hearB z6 t g j)) ∧ L2 w w' (fun _ => False) (PT ta z6 p s) (PT tb z6 q t)) := fun W (hW : L2 w W (fun _ => False) (PT ta z6 p s) (PT tb z6 q t)) => by
                    obtain ⟨F, hF⟩ := L2.seeP hW
                    exact (I.hears hF g j).mono (fun e w' u => ⟨by rw [u.1, HA.out.2.hearB z6 hgo], L2.below hW (I.th _ _ _ _) (I.th _ _ _ _) u.2⟩)
                  have A4 : Hid (∀ W, L2 w W (fun _ => False) (PT ta z6 p s) (PT tb z6 q t) → Calls Try.prog 19 #[.pointer (some ⟨tb, 0, none⟩), .int .i64 g, .int .i64 j] W fun e w' => e = .returned (.bool (hearB z6 t g j)) ∧ L2 w w' (fun _ => False) (PT ta z6 p s) (PT tb z6 q t)) := fun W (hW : L2 w W (fun _ => False) (PT ta z6 p s) (PT tb z6 q t)) => by
                    obtain ⟨F, hF⟩ := L2.seeQ hW
                    exact (I.hears hF g j).mono (fun e w' u => ⟨u.1, L2.below hW (I.th _ _ _ _) (I.th _ _ _ _) u.2⟩)
                  obtain ⟨pp, hpp⟩ : ∃ pp, pubB z6.length q g j = pp := ⟨_, rfl⟩
                  rw [hpp] at A1 A2
                  obtain ⟨hh, hhh⟩ : ∃ hh, hearB z6 t g j = hh := ⟨_, rfl⟩
                  rw [hhh] at A3 A4
                  clear hpp hhh
                  go_wp2_with (first
                    | (go_at_call 17; refine (A2.out w5 HT5.out).mono ?_; rintro e w6 ⟨rfl, T6⟩; have HT6 : Hid _ := T6; clear A2 T6)
                    | (go_at_call 17; refine (A1.out _ HJ.out).mono ?_; rintro e w5 ⟨rfl, T5⟩; have HT5 : Hid _ := T5; clear A1 T5)
                    | (go_at_call 19; refine (A4.out w7 HT7.out).mono ?_; rintro e w8 ⟨rfl, T8⟩; have HT8 : Hid _ := T8; clear A4 T8)
                    | (go_at_call 19; refine (A3.out w6 HT6.out).mono ?_; rintro e w7 ⟨rfl, T7⟩; have HT7 : Hid _ := T7; clear A3 T7))
                  go_roundw
                  case rel => exact ⟨j + 1, by omega, by go_num, HT8.out⟩
                  case measure => simp [intOf]; omega
              · obtain rfl : j = 6 := by omega
                go_wp2_with fail
                go_roundw
                case rel => exact ⟨g + 1, by omega, by go_num, HJ.out⟩
                case measure => simp [intOf]; omega
          · obtain rfl : g = 8 := by omega
            have e1 : okFC z6.length (o : Int) 9 = 81 := by unfold okFC; rw [if_neg (by omega), if_pos (.inr (by simp [z6]))]
            have e2 : okFC z6.length 99 0 = 1 := by decide
            have P1 := L2.callP HG.out (I.th _ _ _ _) (fun F hF => I.pub hF (o : Int) 9 true)
            have P2 : Hid (∀ W p2, L2 w W (fun _ => False) (PT ta z6 p2 s) (PT tb z6 q t) → Calls Try.prog 21 #[.pointer (some ⟨ta, 0, none⟩), .int .i64 99, .int .i64 0, .bool true] W _) := fun W p2 (hW : L2 w W (fun _ => False) (PT ta z6 p2 s) (PT tb z6 q t)) => L2.callP hW (I.th _ _ _ _) (fun F hF => I.pub hF 99 0 true)
            rw [e1] at P1
            rw [e2] at P2
            clear e1 e2
            go_wp2_with (first
              | (go_at_call 21; refine (P2.out w5 _ HT5.out).mono ?_; rintro e w6 ⟨rfl, T6, _⟩; have HT6 : Hid _ := T6; clear P2 T6)
              | (go_at_call 21; refine P1.mono ?_; rintro e w5 ⟨rfl, T5, _⟩; have HT5 : Hid _ := T5; clear P1 T5))
            go_ret
            exact ⟨rfl, L2.bel HT6.out⟩
end Go.Proofs.Ytkbldbbhcdiihaa
