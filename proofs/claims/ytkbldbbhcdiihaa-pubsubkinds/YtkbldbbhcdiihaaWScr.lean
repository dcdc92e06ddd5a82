/- Proved: PubsubScript answers true, whatever it is asked; what lay in memory is as it was. -/
import Derived.Test.YtkbldbbhcdiihaaStp
namespace Go.Proofs.Ytkbldbbhcdiihaa
open Go.RowKit Go.Shelf
set_option linter.unusedVariables false

theorem st0 (n : Nat) (p s : Tab) (f c : Int) (is : Bool) : stE n 0 f c = okFC n f c ∧ stP n p 0 f c is = putB n p f c is ∧ stS n s 0 f c is = s := ⟨rfl, rfl, rfl⟩
theorem st1 (n : Nat) (p s : Tab) (f c : Int) (is : Bool) : stE n 1 f c = okFC n f c ∧ stP n p 1 f c is = p ∧ stS n s 1 f c is = putB n s f c is := ⟨rfl, rfl, rfl⟩
theorem st2 (n : Nat) (p s : Tab) (f c : Int) (is : Bool) : stE n 2 f c = okF f ∧ stP n p 2 f c is = outB p f ∧ stS n s 2 f c is = outB s f := ⟨rfl, rfl, rfl⟩
theorem stx (n : Nat) (p s : Tab) (k f c : Int) (is : Bool) (h0 : ¬ k = 0) (h1 : ¬ k = 1) (h2 : ¬ k = 2) : stE n k f c = 0 ∧ stP n p k f c is = p ∧ stS n s k f c is = s := by
  unfold stE stP stS
  refine ⟨?_, ?_, ?_⟩ <;> rw [if_neg h0, if_neg h1, if_neg h2]
theorem L2.more {w W : World} {Z : Nat → Prop} {P : World → (Nat → Prop) → Prop} {rb : Nat} {zs : List Int} {p s : Tab} {B : Nat} (h : L2 w W Z P (RB rb zs p s B)) : L2 w W Z P (RB rb zs p s (B + 1)) := by
  obtain ⟨F, G, h1, ⟨P2, S2, h2, e1, e2⟩, h3, h4, h5, h6, h7⟩ := h
  exact ⟨F, G, h1, ⟨P2, S2, h2.more (by omega), e1, e2⟩, h3, h4, h5, h6, h7⟩
/-- The program's does, beside another thing. -/
theorem L2.does {PT : Nat → List Int → Tab → Tab → World → (Nat → Prop) → Prop} (I : PI PT) {w W : World} {Z : Nat → Prop} {tb : Nat} {zs : List Int} {p s : Tab} {Q : World → (Nat → Prop) → Prop} (hQ : Th Q) (h : L2 w W Z (PT tb zs p s) Q) (k f c : Int) (is : Bool) :
    Calls Try.prog 13 #[.pointer (some ⟨tb, 0, none⟩), .agg #[.int .i64 k, .int .i64 f, .int .i64 c, .bool is]] W fun e w' => e = .returned (.int .i64 (stE zs.length k f c)) ∧ L2 w w' Z (PT tb zs (stP zs.length p k f c is) (stS zs.length s k f c is)) Q ∧ Fr (fun k => ¬ Z k) W w' :=
  h.callP hQ (fun F hF => does_any I hF k f c is)

set_option maxRecDepth 100000 in
set_option maxHeartbeats 4000000 in
theorem script_walk {PT : Nat → List Int → Tab → Tab → World → (Nat → Prop) → Prop} (I : PI PT) (w : World) (a : Option Addr) (c : Nat) (zs : List Int) (sa : Option Addr) (n sc : Nat) (l : List St) (hn : zs.length ≤ maxLen) (hz : RdI w w.heap.size a zs) (hm : n ≤ maxLen) (h : InS w sa n l) :
    Calls Try.prog 3 #[.slice a zs.length c, .slice sa n sc] w fun e w' => e = .returned (.bool true) ∧ Below w.heap.size w w' := by
  by_cases g1 : 100 < zs.length
  · have g1' : (100 : Int) < (zs.length : Int) := by omega
    have d1 : decide ((100 : Int) < (zs.length : Int)) = true := by simpa using g1'
    go_enter Try.func3, Try.ntmps3
    go_wp2
    go_ret
    exact ⟨rfl, Below.refl _ _⟩
  · have d1 : decide ((100 : Int) < (zs.length : Int)) = false := by simp; omega
    by_cases g2 : 100 < n
    · have g2' : (100 : Int) < (n : Int) := by omega
      have d2 : decide ((100 : Int) < (n : Int)) = true := by simpa using g2'
      go_enter Try.func3, Try.ntmps3
      go_wp2
      go_ret
      exact ⟨rfl, Below.refl _ _⟩
    · have d2 : decide ((100 : Int) < (n : Int)) = false := by simp; omega
      by_cases hok : OKT zs
      · have NP := I.new w a c zs hz hok
        have NR : Hid (∀ W, Below w.heap.size w W → Calls Try.prog 9 #[.slice a zs.length c] W _) := fun W (hb : Below w.heap.size w W) => bnew W a c zs (hz.go (Nat.le_refl _) hb) hok
        have hz16 := hok.2.1
        have HI : Hid (InS w sa n l) := h
        clear h hok hz
        go_enter Try.func3, Try.ntmps3
        go_wp2_with fail
        refine NP.mono ?_
        rintro e w1 ⟨tb, F1, rfl, h1, hF1, hb1⟩
        have R1 := NR.out w1 hb1
        clear NP NR
        go_wp2_with fail
        refine R1.mono ?_
        rintro e w2 ⟨rb, F2, rfl, h2, hF2, hb2⟩
        have h3' : Hid (L2 w w2 (fun _ => False) (PT tb zs noB noB) (RB rb zs noB noB 0)) := L2.start (I.th _ _ _ _) h1 hF1 hb1 h2 hF2 hb2
        clear R1 h1 h2 hF1 hF2 hb1 hb2
        go_wp2_with fail
        go_loopw [9] (fun si wr => ∃ (k : Nat) (p s : Tab), k ≤ n ∧ si = .int .i64 k ∧ Hid (L2 w wr (fun _ => False) (PT tb zs p s) (RB rb zs p s k))) (fun si _ => n - (intOf si).toNat)
        case atStart => exact ⟨0, noB, noB, Nat.zero_le _, rfl, h3'.out⟩
        case round =>
          clear h3'
          obtain ⟨k, p, s, hk, rfl, HQ⟩ := hrel
          by_cases hlt : k < n
          · obtain ⟨x, hx⟩ : ∃ x, nthS l k = x := ⟨_, rfl⟩
            obtain ⟨b, off, rfl, x0, x1, x2, x3⟩ := InS.cells HI.out (L2.bel HQ.out) hlt hx
            have hlt' : (k : Int) < (n : Int) := by omega
            obtain ⟨kd, ff, cc, is⟩ := x
            dsimp only at x0 x1 x2 x3
            clear hx
            by_cases k0 : kd = 0
            · subst k0
              have W1b : Below wr.heap.size wr (wr.alloc (.cells #[.int .i64 0, .int .i64 ff, .int .i64 cc, .bool is] 32)) := (Below.refl _ _).alloc (Nat.le_refl _) _
              have T1 := L2.news HQ.out (I.th _ _ _ _) (thB _ _ _ _ _) W1b wr.heap.size (Nat.le_refl _) (by simp)
              have bx := BoxS.made wr 0 ff cc is 32
              have Q1 := L2.callQ T1 (I.th _ _ _ _) (fun F hF => bpub hF (by omega) ff cc is)
              obtain ⟨R, hR⟩ : ∃ R, okFC zs.length ff cc = R := ⟨_, rfl⟩
              rw [hR] at Q1
              have BX : Hid (BoxS (wr.alloc (.cells #[.int .i64 0, .int .i64 ff, .int .i64 cc, .bool is] 32)) wr.heap.size (0, ff, cc, is)) := bx
              have HRR : Hid _ := hR
              clear T1 bx hR
              go_wp2_with fail
              refine Q1.mono ?_
              rintro e w3 ⟨rfl, T2, hf⟩
              obtain ⟨y0, y1, y2, y3⟩ := BoxS.keep BX.out hf (fun g => g rfl)
              dsimp only at y0 y1 y2 y3
              have D1 := L2.does I (thB _ _ _ _ _) T2 0 ff cc is
              rw [(st0 zs.length p s ff cc is).1, (st0 zs.length p s ff cc is).2.1, (st0 zs.length p s ff cc is).2.2, HRR.out] at D1
              clear Q1 T2 hf BX
              go_wp2_with (go_at_call 13; refine D1.mono ?_; rintro e w4 ⟨rfl, T3, _⟩; have HT3 : Hid _ := T3; clear D1 T3)
              go_roundw
              case rel => exact ⟨k + 1, putB zs.length p ff cc is, s, by omega, by go_num, L2.bare HT3.out⟩
              case measure => simp [intOf]; omega
            · have e0 : (kd == 0) = false := by simpa using k0
              by_cases k1 : kd = 1
              · subst k1
                have W1b : Below wr.heap.size wr (wr.alloc (.cells #[.int .i64 1, .int .i64 ff, .int .i64 cc, .bool is] 32)) := (Below.refl _ _).alloc (Nat.le_refl _) _
                have T1 := L2.news HQ.out (I.th _ _ _ _) (thB _ _ _ _ _) W1b wr.heap.size (Nat.le_refl _) (by simp)
                have bx := BoxS.made wr 1 ff cc is 32
                have Q1 := L2.callQ T1 (I.th _ _ _ _) (fun F hF => bsub hF (by omega) ff cc is)
                obtain ⟨R, hR⟩ : ∃ R, okFC zs.length ff cc = R := ⟨_, rfl⟩
                rw [hR] at Q1
                have BX : Hid (BoxS (wr.alloc (.cells #[.int .i64 1, .int .i64 ff, .int .i64 cc, .bool is] 32)) wr.heap.size (1, ff, cc, is)) := bx
                have HRR : Hid _ := hR
                clear T1 bx hR
                go_wp2_with fail
                refine Q1.mono ?_
                rintro e w3 ⟨rfl, T2, hf⟩
                obtain ⟨y0, y1, y2, y3⟩ := BoxS.keep BX.out hf (fun g => g rfl)
                dsimp only at y0 y1 y2 y3
                have D1 := L2.does I (thB _ _ _ _ _) T2 1 ff cc is
                rw [(st1 zs.length p s ff cc is).1, (st1 zs.length p s ff cc is).2.1, (st1 zs.length p s ff cc is).2.2, HRR.out] at D1
                clear Q1 T2 hf BX
                go_wp2_with (go_at_call 13; refine D1.mono ?_; rintro e w4 ⟨rfl, T3, _⟩; have HT3 : Hid _ := T3; clear D1 T3)
                go_roundw
                case rel => exact ⟨k + 1, p, putB zs.length s ff cc is, by omega, by go_num, L2.bare HT3.out⟩
                case measure => simp [intOf]; omega
              · have e1 : (kd == 1) = false := by simpa using k1
                by_cases k2 : kd = 2
                · subst k2
                  have W1b : Below wr.heap.size wr (wr.alloc (.cells #[.int .i64 2, .int .i64 ff, .int .i64 cc, .bool is] 32)) := (Below.refl _ _).alloc (Nat.le_refl _) _
                  have T1 := L2.news HQ.out (I.th _ _ _ _) (thB _ _ _ _ _) W1b wr.heap.size (Nat.le_refl _) (by simp)
                  have bx := BoxS.made wr 2 ff cc is 32
                  have Q1 := L2.callQ T1 (I.th _ _ _ _) (fun F hF => bleave hF ff)
                  obtain ⟨R, hR⟩ : ∃ R, okF ff = R := ⟨_, rfl⟩
                  rw [hR] at Q1
                  have BX : Hid (BoxS (wr.alloc (.cells #[.int .i64 2, .int .i64 ff, .int .i64 cc, .bool is] 32)) wr.heap.size (2, ff, cc, is)) := bx
                  have HRR : Hid _ := hR
                  clear T1 bx hR
                  go_wp2_with fail
                  refine Q1.mono ?_
                  rintro e w3 ⟨rfl, T2, hf⟩
                  obtain ⟨y0, y1, y2, y3⟩ := BoxS.keep BX.out hf (fun g => g rfl)
                  dsimp only at y0 y1 y2 y3
                  have D1 := L2.does I (thB _ _ _ _ _) T2 2 ff cc is
                  rw [(st2 zs.length p s ff cc is).1, (st2 zs.length p s ff cc is).2.1, (st2 zs.length p s ff cc is).2.2, HRR.out] at D1
                  clear Q1 T2 hf BX
                  go_wp2_with (go_at_call 13; refine D1.mono ?_; rintro e w4 ⟨rfl, T3, _⟩; have HT3 : Hid _ := T3; clear D1 T3)
                  go_roundw
                  case rel => exact ⟨k + 1, outB p ff, outB s ff, by omega, by go_num, L2.bare HT3.out⟩
                  case measure => simp [intOf]; omega
                · have e2 : (kd == 2) = false := by simpa using k2
                  have W1b : Below wr.heap.size wr (wr.alloc (.cells #[.int .i64 kd, .int .i64 ff, .int .i64 cc, .bool is] 32)) := (Below.refl _ _).alloc (Nat.le_refl _) _
                  have T1 := L2.news HQ.out (I.th _ _ _ _) (thB _ _ _ _ _) W1b wr.heap.size (Nat.le_refl _) (by simp)
                  have bx := BoxS.made wr kd ff cc is 32
                  obtain ⟨y0, y1, y2, y3⟩ := bx
                  dsimp only at y0 y1 y2 y3
                  have D1 := L2.does I (thB _ _ _ _ _) T1 kd ff cc is
                  rw [(stx zs.length p s kd ff cc is k0 k1 k2).1, (stx zs.length p s kd ff cc is k0 k1 k2).2.1, (stx zs.length p s kd ff cc is k0 k1 k2).2.2] at D1
                  clear T1
                  go_wp2_with (go_at_call 13; refine D1.mono ?_; rintro e w4 ⟨rfl, T3, _⟩; have HT3 : Hid _ := T3; clear D1 T3)
                  go_roundw
                  case rel => exact ⟨k + 1, p, s, by omega, by go_num, L2.more (L2.bare HT3.out)⟩
                  case measure => simp [intOf]; omega
          · obtain rfl : k = n := by omega
            go_wp2_with fail
            go_loopw [12] (fun sg wr => ∃ g : Nat, g ≤ 10 ∧ sg = .int .i64 ((g : Int) - 1) ∧ Hid (L2 w wr (fun _ => False) (PT tb zs p s) (RB rb zs p s k))) (fun sg _ => 10 - (intOf sg + 1).toNat)
            case atStart => exact ⟨0, by omega, rfl, HQ.out⟩
            case round =>
              clear HQ
              obtain ⟨g, hg, rfl, HG⟩ := hrel
              by_cases hg9 : g < 10
              · have hg' : (g : Int) - 1 ≤ 8 := by omega
                go_wp2_with fail
                go_loopw [13] (fun sc' wr => ∃ j : Nat, j ≤ zs.length + 2 ∧ sc' = .int .i64 ((j : Int) - 1) ∧ Hid (L2 w wr (fun _ => False) (PT tb zs p s) (RB rb zs p s k))) (fun sc' _ => zs.length + 2 - (intOf sc' + 1).toNat)
                case atStart => exact ⟨0, by omega, rfl, HG.out⟩
                case round =>
                  clear HG
                  obtain ⟨j, hj, rfl, HJ⟩ := hrel
                  by_cases hj9 : j < zs.length + 2
                  · have hj' : (j : Int) - 1 ≤ (zs.length : Int) := by omega
                    have A1 : Hid (∀ W, L2 w W (fun _ => False) (PT tb zs p s) (RB rb zs p s k) → Calls Try.prog 14 #[.pointer (some ⟨tb, 0, none⟩), .int .i64 ((g : Int) - 1), .int .i64 ((j : Int) - 1)] W _) := fun W (hW : L2 w W (fun _ => False) (PT tb zs p s) (RB rb zs p s k)) => by
                      obtain ⟨F, hF⟩ := L2.seeP hW
                      exact (I.route hF ((g : Int) - 1) ((j : Int) - 1)).mono (R' := fun e w' => ∃ a' c', e = .returned (.tuple #[.slice a' (toB zs p s ((g : Int) - 1) ((j : Int) - 1)).length c', .int .i64 (errB zs p ((g : Int) - 1) ((j : Int) - 1))]) ∧ RdI w' w'.heap.size a' (toB zs p s ((g : Int) - 1) ((j : Int) - 1)) ∧ L2 w w' (fun _ => False) (PT tb zs p s) (RB rb zs p s k)) (fun e w' ⟨a', c', h1, h2, h3⟩ => ⟨a', c', h1, h2, L2.below hW (I.th _ _ _ _) (thB _ _ _ _ _) h3⟩)
                    have A2 : Hid (∀ W a0, L2 w W (fun _ => False) (PT tb zs p s) (RB rb zs p s k) → RdI W W.heap.size a0 (toB zs p s ((g : Int) - 1) ((j : Int) - 1)) → Calls Try.prog 15 #[.pointer (some ⟨rb, 0, none⟩), .int .i64 ((g : Int) - 1), .int .i64 ((j : Int) - 1)] W _) := fun W a0 (hW : L2 w W (fun _ => False) (PT tb zs p s) (RB rb zs p s k)) (h0 : RdI W W.heap.size a0 (toB zs p s ((g : Int) - 1) ((j : Int) - 1))) => by
                      obtain ⟨F, hF⟩ := L2.seeQ hW
                      exact (broute hF (by omega) (by omega) ((g : Int) - 1) ((j : Int) - 1)).mono (R' := fun e w' => ∃ a' c', e = .returned (.tuple #[.slice a' (toB zs p s ((g : Int) - 1) ((j : Int) - 1)).length c', .int .i64 (errB zs p ((g : Int) - 1) ((j : Int) - 1))]) ∧ RdI w' w'.heap.size a' (toB zs p s ((g : Int) - 1) ((j : Int) - 1)) ∧ RdI w' w'.heap.size a0 (toB zs p s ((g : Int) - 1) ((j : Int) - 1)) ∧ L2 w w' (fun _ => False) (PT tb zs p s) (RB rb zs p s k)) (fun e w' ⟨a', c', h1, h2, h3⟩ => ⟨a', c', h1, h2, h0.go (Nat.le_refl _) h3, L2.below hW (I.th _ _ _ _) (thB _ _ _ _ _) h3⟩)
                    have A3 : Hid (∀ W a0 c0 a1 c1, L2 w W (fun _ => False) (PT tb zs p s) (RB rb zs p s k) → RdI W W.heap.size a0 (toB zs p s ((g : Int) - 1) ((j : Int) - 1)) → RdI W W.heap.size a1 (toB zs p s ((g : Int) - 1) ((j : Int) - 1)) → Calls Try.prog 16 #[.slice a0 (toB zs p s ((g : Int) - 1) ((j : Int) - 1)).length c0, .slice a1 (toB zs p s ((g : Int) - 1) ((j : Int) - 1)).length c1] W fun e w' => e = .returned (.bool true) ∧ L2 w w' (fun _ => False) (PT tb zs p s) (RB rb zs p s k)) := fun W a0 c0 a1 c1 (hW : L2 w W (fun _ => False) (PT tb zs p s) (RB rb zs p s k)) (h0 : RdI W W.heap.size a0 (toB zs p s ((g : Int) - 1) ((j : Int) - 1))) (h1 : RdI W W.heap.size a1 (toB zs p s ((g : Int) - 1) ((j : Int) - 1))) =>
                      (same_yes W W.heap.size a0 a1 c0 c1 _ (Nat.le_refl _) h0 h1 (by have := toB_len zs p s ((g : Int) - 1) ((j : Int) - 1); omega)).mono (fun e w' g => ⟨g.1, L2.below hW (I.th _ _ _ _) (thB _ _ _ _ _) g.2⟩)
                    have A4 : Hid (∀ W, L2 w W (fun _ => False) (PT tb zs p s) (RB rb zs p s k) → Calls Try.prog 17 #[.pointer (some ⟨tb, 0, none⟩), .int .i64 ((g : Int) - 1), .int .i64 ((j : Int) - 1)] W fun e w' => e = .returned (.bool (pubB zs.length p ((g : Int) - 1) ((j : Int) - 1))) ∧ L2 w w' (fun _ => False) (PT tb zs p s) (RB rb zs p s k)) := fun W (hW : L2 w W (fun _ => False) (PT tb zs p s) (RB rb zs p s k)) => by
                      obtain ⟨F, hF⟩ := L2.seeP hW
                      exact (I.pubs hF ((g : Int) - 1) ((j : Int) - 1)).mono (fun e w' g => ⟨g.1, L2.below hW (I.th _ _ _ _) (thB _ _ _ _ _) g.2⟩)
                    have A5 : Hid (∀ W, L2 w W (fun _ => False) (PT tb zs p s) (RB rb zs p s k) → Calls Try.prog 18 #[.pointer (some ⟨rb, 0, none⟩), .int .i64 ((g : Int) - 1), .int .i64 ((j : Int) - 1)] W fun e w' => e = .returned (.bool (pubB zs.length p ((g : Int) - 1) ((j : Int) - 1))) ∧ L2 w w' (fun _ => False) (PT tb zs p s) (RB rb zs p s k)) := fun W (hW : L2 w W (fun _ => False) (PT tb zs p s) (RB rb zs p s k)) => by
                      obtain ⟨F, hF⟩ := L2.seeQ hW
                      exact (bpubs hF (by omega) ((g : Int) - 1) ((j : Int) - 1)).mono (fun e w' g => ⟨g.1, L2.below hW (I.th _ _ _ _) (thB _ _ _ _ _) g.2⟩)
                    have A6 : Hid (∀ W, L2 w W (fun _ => False) (PT tb zs p s) (RB rb zs p s k) → Calls Try.prog 19 #[.pointer (some ⟨tb, 0, none⟩), .int .i64 ((g : Int) - 1), .int .i64 ((j : Int) - 1)] W fun e w' => e = .returned (.bool (hearB zs s ((g : Int) - 1) ((j : Int) - 1))) ∧ L2 w w' (fun _ => False) (PT tb zs p s) (RB rb zs p s k)) := fun W (hW : L2 w W (fun _ => False) (PT tb zs p s) (RB rb zs p s k)) => by
                      obtain ⟨F, hF⟩ := L2.seeP hW
                      exact (I.hears hF ((g : Int) - 1) ((j : Int) - 1)).mono (fun e w' g => ⟨g.1, L2.below hW (I.th _ _ _ _) (thB _ _ _ _ _) g.2⟩)
                    have A7 : Hid (∀ W, L2 w W (fun _ => False) (PT tb zs p s) (RB rb zs p s k) → Calls Try.prog 20 #[.pointer (some ⟨rb, 0, none⟩), .int .i64 ((g : Int) - 1), .int .i64 ((j : Int) - 1)] W fun e w' => e = .returned (.bool (hearB zs s ((g : Int) - 1) ((j : Int) - 1))) ∧ L2 w w' (fun _ => False) (PT tb zs p s) (RB rb zs p s k)) := fun W (hW : L2 w W (fun _ => False) (PT tb zs p s) (RB rb zs p s k)) => by
                      obtain ⟨F, hF⟩ := L2.seeQ hW
                      exact (bhears hF (by omega) (by omega) ((g : Int) - 1) ((j : Int) - 1)).mono (fun e w' g => ⟨g.1, L2.below hW (I.th _ _ _ _) (thB _ _ _ _ _) g.2⟩)
                    obtain ⟨xs, hxs⟩ : ∃ xs, toB zs p s ((g : Int) - 1) ((j : Int) - 1) = xs := ⟨_, rfl⟩
                    rw [hxs] at A1 A2 A3
                    obtain ⟨ee, hee⟩ : ∃ ee, errB zs p ((g : Int) - 1) ((j : Int) - 1) = ee := ⟨_, rfl⟩
                    rw [hee] at A1 A2
                    obtain ⟨pp, hpp⟩ : ∃ pp, pubB zs.length p ((g : Int) - 1) ((j : Int) - 1) = pp := ⟨_, rfl⟩
                    rw [hpp] at A4 A5
                    obtain ⟨hh, hhh⟩ : ∃ hh, hearB zs s ((g : Int) - 1) ((j : Int) - 1) = hh := ⟨_, rfl⟩
                    rw [hhh] at A6 A7
                    clear hxs hee hpp hhh
                    go_wp2_with (first
                      | (go_at_call 14; refine (A1.out _ HJ.out).mono ?_; rintro e w3 ⟨a3, c3, rfl, r3, T3⟩; have HR3 : Hid _ := r3; have HT3 : Hid _ := T3; clear A1 r3 T3)
                      | (go_at_call 15; refine (A2.out w3 a3 HT3.out HR3.out).mono ?_; rintro e w4 ⟨a4, c4, rfl, r4, r3, T4⟩; have HT4 : Hid _ := T4; have HR4 : Hid _ := r4; have HR5 : Hid _ := r3; clear A2 r4 r3 T4)
                      | (go_at_call 16; refine (A3.out w4 a3 c3 a4 c4 HT4.out HR5.out HR4.out).mono ?_; rintro e w5 ⟨rfl, T5⟩; have HT5 : Hid _ := T5; clear A3 T5)
                      | (go_at_call 17; refine (A4.out w5 HT5.out).mono ?_; rintro e w6 ⟨rfl, T6⟩; have HT6 : Hid _ := T6; clear A4 T6)
                      | (go_at_call 18; refine (A5.out w6 HT6.out).mono ?_; rintro e w7 ⟨rfl, T7⟩; have HT7 : Hid _ := T7; clear A5 T7)
                      | (go_at_call 19; refine (A6.out w7 HT7.out).mono ?_; rintro e w8 ⟨rfl, T8⟩; have HT8 : Hid _ := T8; clear A6 T8)
                      | (go_at_call 20; refine (A7.out w8 HT8.out).mono ?_; rintro e w9 ⟨rfl, T9⟩; have HT9 : Hid _ := T9; clear A7 T9))
                    go_roundw
                    case rel => exact ⟨j + 1, by omega, by go_num, HT9.out⟩
                    case measure => simp [intOf]; omega
                  · have hj' : ¬ ((j : Int) - 1 ≤ (zs.length : Int)) := by omega
                    go_wp2_with fail
                    go_roundw
                    case rel => exact ⟨g + 1, by omega, by go_num, HJ.out⟩
                    case measure => simp [intOf]; omega
              · have hg' : ¬ ((g : Int) - 1 ≤ 8) := by omega
                go_wp2
                go_ret
                exact ⟨rfl, L2.bel HG.out⟩
      · have NP := I.no w a c zs hz (by omega) hok
        have NR : Hid (∀ W, Below w.heap.size w W → Calls Try.prog 9 #[.slice a zs.length c] W _) := fun W (hb : Below w.heap.size w W) => dnew_no W a c zs (hz.go (Nat.le_refl _) hb) (by omega) hok
        clear h hok hz
        go_enter Try.func3, Try.ntmps3
        go_wp2_with (first
          | (go_at_call 8; refine NP.mono ?_; rintro e w1 ⟨rfl, hb1⟩; clear NP)
          | (go_at_call 9; refine (NR.out w1 hb1).mono ?_; rintro e w2 ⟨rfl, rfl⟩; clear NR))
        go_ret
        exact ⟨rfl, hb1⟩
end Go.Proofs.Ytkbldbbhcdiihaa
