/- Proved: PubsubLeave answers true, whatever it is asked; what lay in memory is as it was. -/
import Derived.Test.YtkbldbbhcdiihaaWRou
import Derived.Deep.RegionHeld3
namespace Go.Proofs.Ytkbldbbhcdiihaa
open Go.RowKit Go.Shelf
set_option linter.unusedVariables false

/-- One has nothing. -/
def Off (o : Nat) (q : Tab) : Prop := ∀ c, q o c = false
theorem Off.put {o : Nat} {q : Tab} (h : Off o q) (n : Nat) {f : Int} (hf : ¬ f = (o : Int)) (c : Int) (is : Bool) : Off o (putB n q f c is) := fun d => by
  unfold putB
  split
  · rename_i e
    unfold updB
    rw [if_neg (fun g => by
      rcases okFC_cases n f c with u | u
      · exact u.1 e
      · have := g.1; omega)]
    exact h d
  · exact h d
theorem Off.out {o : Nat} {q : Tab} (h : Off o q) (f : Int) : Off o (outB q f) := fun d => by
  unfold outB
  split
  · unfold clrB
    split
    · rfl
    · exact h d
  · exact h d
theorem Off.stP {o : Nat} {q : Tab} (h : Off o q) (n : Nat) (k : Int) {f : Int} (hf : ¬ f = (o : Int)) (c : Int) (is : Bool) : Off o (stP n q k f c is) := by
  unfold Go.Proofs.Ytkbldbbhcdiihaa.stP
  split
  · exact h.put n hf c is
  · split
    · exact h
    · split
      · exact h.out f
      · exact h
theorem Off.stS {o : Nat} {q : Tab} (h : Off o q) (n : Nat) (k : Int) {f : Int} (hf : ¬ f = (o : Int)) (c : Int) (is : Bool) : Off o (stS n q k f c is) := by
  unfold Go.Proofs.Ytkbldbbhcdiihaa.stS
  split
  · exact h
  · split
    · exact h.put n hf c is
    · split
      · exact h.out f
      · exact h
theorem leave_same {o : Nat} {p q : Tab} (ho : o < 8) (h : Agr o p q) (g : Off o q) : outB p (o : Int) = q := by
  have e0 : okF (o : Int) = 0 := by unfold okF; rw [if_neg (by omega)]
  funext f c
  unfold outB
  rw [if_pos e0]
  unfold clrB
  by_cases e : f = o
  · rw [if_pos (by simpa using e), e, g c]
  · rw [if_neg (by simpa using e), h f c e]

set_option maxRecDepth 100000 in
set_option maxHeartbeats 4000000 in
theorem leave_walk {PT : Nat → List Int → Tab → Tab → World → (Nat → Prop) → Prop} (I : PI PT) (w : World) (sa : Option Addr) (n sc : Nat) (l : List St) (f : Int) (hm : n ≤ maxLen) (h : InS w sa n l) (hf : 0 ≤ f ∧ f ≤ 255) :
    Calls Try.prog 6 #[.slice sa n sc, .int .u8 f] w fun e w' => e = .returned (.bool true) ∧ Below w.heap.size w w' := by
  by_cases g2 : 100 < n
  · have g2' : (100 : Int) < (n : Int) := by omega
    go_enter Try.func6, Try.ntmps6
    go_wp2
    go_ret
    exact ⟨rfl, Below.refl _ _⟩
  · have g2' : ¬ ((100 : Int) < (n : Int)) := by omega
    have hb0 : Below w.heap.size w (w.alloc (.cells #[.int .i64 (-1), .int .i64 0, .int .i64 0, .int .i64 1] 3)) := (Below.refl _ _).alloc (Nat.le_refl _) _
    have z0 := z4_rd w
    have s0 : (w.alloc (.cells #[.int .i64 (-1), .int .i64 0, .int .i64 0, .int .i64 1] 3)).heap.size = w.heap.size + 1 := by simp
    have NP : Calls Try.prog 8 #[.slice (some ⟨w.heap.size, 0, none⟩) 4 4] (w.alloc (.cells #[.int .i64 (-1), .int .i64 0, .int .i64 0, .int .i64 1] 3)) _ := I.new _ (some ⟨w.heap.size, 0, none⟩) 4 z4 (z0.mono (by omega)) z4_ok
    have NQ : Hid (∀ W, Below (w.heap.size + 1) (w.alloc (.cells #[.int .i64 (-1), .int .i64 0, .int .i64 0, .int .i64 1] 3)) W → Calls Try.prog 9 #[.slice (some ⟨w.heap.size, 0, none⟩) 4 4] W _) := fun W (hb : Below (w.heap.size + 1) (w.alloc (.cells #[.int .i64 (-1), .int .i64 0, .int .i64 0, .int .i64 1] 3)) W) => bnew W (some ⟨w.heap.size, 0, none⟩) 4 z4 ((z0.below hb).mono (by have := hb.size; simp at this; omega)) z4_ok
    have HI : Hid (InS w sa n l) := h
    clear h z0
    go_enter Try.func6, Try.ntmps6
    go_wp2_with fail
    refine NP.mono ?_
    rintro e w1 ⟨ta, F1, rfl, h1, hF1, hb1⟩
    have R1 := NQ.out w1 (by rw [s0] at hb1; exact hb1)
    clear NP NQ
    go_wp2_with fail
    refine R1.mono ?_
    rintro e w2 ⟨rb, F2, rfl, h2, hF2, hb2⟩
    have h3' : Hid (L2 w w2 (fun _ => False) (PT ta z4 noB noB) (RB rb z4 noB noB 0)) := L2.start (I.th _ _ _ _) h1 (fun k hk => by have := hF1 k hk; omega) (hb0.trans (hb1.mono (by omega))) h2 hF2 hb2
    clear R1 h1 h2 hF1 hF2 hb1 hb2 hb0 s0
    obtain ⟨o, ho⟩ := Int.eq_ofNat_of_zero_le (show 0 ≤ f % 8 by omega)
    have ho8 : o < 8 := by omega
    go_wp2_with fail
    try rw [ho]
    clear ho
    go_loopw [11] (fun si wr => ∃ (k : Nat) (p s q t : Tab), k ≤ n ∧ si = .int .i64 k ∧ Hid (L2 w wr (fun _ => False) (PT ta z4 p s) (RB rb z4 q t k)) ∧ Hid ((Agr o p q ∧ Agr o s t) ∧ Off o q ∧ Off o t)) (fun si _ => n - (intOf si).toNat)
    case atStart => exact ⟨0, noB, noB, noB, noB, Nat.zero_le _, rfl, h3'.out, (⟨⟨fun _ _ _ => rfl, fun _ _ _ => rfl⟩, fun _ => rfl, fun _ => rfl⟩ : (Agr o noB noB ∧ Agr o noB noB) ∧ Off o noB ∧ Off o noB)⟩
    case round =>
      clear h3'
      obtain ⟨k, p, s, q, t, hk, rfl, HQ, HA⟩ := hrel
      by_cases hlt : k < n
      · obtain ⟨x, hx⟩ : ∃ x, nthS l k = x := ⟨_, rfl⟩
        obtain ⟨b, off, rfl, x0, x1, x2, x3⟩ := InS.cells HI.out (L2.bel HQ.out) hlt hx
        have hlt' : (k : Int) < (n : Int) := by omega
        have D1 := L2.does I (thB _ _ _ _ _) HQ.out x.1 x.2.1 x.2.2.1 x.2.2.2
        have HX : Hid (∀ W, Below w.heap.size w W → W.cell? ⟨b, off + k * 4, none⟩ = some (.int .i64 x.1) ∧ W.cell? ⟨b, off + k * 4 + 1, none⟩ = some (.int .i64 x.2.1) ∧ W.cell? ⟨b, off + k * 4 + 2, none⟩ = some (.int .i64 x.2.2.1) ∧ W.cell? ⟨b, off + k * 4 + 3, none⟩ = some (.bool x.2.2.2)) := fun W (hb : Below w.heap.size w W) => by
          obtain ⟨b', off', e', y⟩ := InS.cells HI.out hb hlt hx
          obtain ⟨rfl, rfl⟩ : b = b' ∧ off = off' := by simpa using e'
          exact y
        obtain ⟨kd, ff, cc, is⟩ := x
        dsimp only at x0 x1 x2 x3 D1 HX
        clear hx
        go_wp2_with fail
        refine D1.mono ?_
        rintro e w3 ⟨rfl, T3, _⟩
        obtain ⟨y0, y1, y2, y3⟩ := HX.out w3 (L2.bel T3)
        clear D1
        by_cases hfo : ff = (o : Int)
        · subst hfo
          have HT3 : Hid _ := T3
          clear T3
          go_wp2_with fail
          go_roundw
          case rel => exact ⟨k + 1, _, _, q, t, by omega, by go_num, L2.more HT3.out, (⟨⟨HA.out.1.1.stP1 z4.length kd cc is, HA.out.1.2.stS1 z4.length kd cc is⟩, HA.out.2⟩ : (Agr o _ q ∧ Agr o _ t) ∧ Off o q ∧ Off o t)⟩
          case measure => simp [intOf]; omega
        · have dfo : (ff == (o : Int)) = false := by simpa using hfo
          have HA2 : Hid ((Agr o (stP z4.length p kd ff cc is) (stP z4.length q kd ff cc is) ∧ Agr o (stS z4.length s kd ff cc is) (stS z4.length t kd ff cc is)) ∧ Off o (stP z4.length q kd ff cc is) ∧ Off o (stS z4.length t kd ff cc is)) := ⟨⟨HA.out.1.1.stP z4.length kd ff cc is, HA.out.1.2.stS z4.length kd ff cc is⟩, HA.out.2.1.stP z4.length kd hfo cc is, HA.out.2.2.stS z4.length kd hfo cc is⟩
          by_cases k0 : kd = 0
          · subst k0
            have TD := L2.below T3 (I.th _ _ _ _) (thB _ _ _ _ _) (Below.refl _ w3).drew
            have Q1 := L2.callQ TD (I.th _ _ _ _) (fun F hF => bpub hF (by omega) ff cc is)
            obtain ⟨R, hR⟩ : ∃ R, okFC z4.length ff cc = R := ⟨_, rfl⟩
            rw [hR] at Q1
            have HT3 : Hid _ := T3
            clear T3 TD hR
            go_wp2_with fail
            go_region_held3 (fun w' => w'.cell? ⟨b, off + k * 4 + 1, none⟩ = some (.int .i64 ff) ∧ w'.cell? ⟨b, off + k * 4 + 2, none⟩ = some (.int .i64 cc) ∧ w'.cell? ⟨b, off + k * 4 + 3, none⟩ = some (.bool is)) (go_keep) (first | (go_at_call 10; refine Q1.mono ?_; rintro e w4 ⟨rfl, T4, _⟩; obtain ⟨_, v1, v2, v3⟩ := HX.out w4 (L2.bel T4)))
            have HT4 : Hid _ := T4
            clear Q1 T4
            go_wp2_with fail
            go_roundw
            case rel => exact ⟨k + 1, _, _, _, _, by omega, by go_num, HT4.out, HA2.out⟩
            case measure => simp [intOf]; omega
          · have e0 : (kd == 0) = false := by simpa using k0
            by_cases k1 : kd = 1
            · subst k1
              have TD := L2.below T3 (I.th _ _ _ _) (thB _ _ _ _ _) (Below.refl _ w3).drew
              have Q1 := L2.callQ TD (I.th _ _ _ _) (fun F hF => bsub hF (by omega) ff cc is)
              obtain ⟨R, hR⟩ : ∃ R, okFC z4.length ff cc = R := ⟨_, rfl⟩
              rw [hR] at Q1
              have HT3 : Hid _ := T3
              clear T3 TD hR
              go_wp2_with fail
              go_region_held3 (fun w' => w'.cell? ⟨b, off + k * 4 + 1, none⟩ = some (.int .i64 ff) ∧ w'.cell? ⟨b, off + k * 4 + 2, none⟩ = some (.int .i64 cc) ∧ w'.cell? ⟨b, off + k * 4 + 3, none⟩ = some (.bool is)) (go_keep) (first | (go_at_call 11; refine Q1.mono ?_; rintro e w4 ⟨rfl, T4, _⟩; obtain ⟨_, v1, v2, v3⟩ := HX.out w4 (L2.bel T4)))
              have HT4 : Hid _ := T4
              clear Q1 T4
              go_wp2_with fail
              go_roundw
              case rel => exact ⟨k + 1, _, _, _, _, by omega, by go_num, HT4.out, HA2.out⟩
              case measure => simp [intOf]; omega
            · have e1 : (kd == 1) = false := by simpa using k1
              by_cases k2 : kd = 2
              · subst k2
                have Q1 := L2.callQ T3 (I.th _ _ _ _) (fun F hF => bleave hF ff)
                obtain ⟨R, hR⟩ : ∃ R, okF ff = R := ⟨_, rfl⟩
                rw [hR] at Q1
                have HT3 : Hid _ := T3
                clear T3 hR
                go_wp2_with (go_at_call 12; refine Q1.mono ?_; rintro e w4 ⟨rfl, T4, _⟩; have HT4 : Hid _ := T4; clear Q1 T4)
                go_roundw
                case rel => exact ⟨k + 1, _, _, _, _, by omega, by go_num, HT4.out, HA2.out⟩
                case measure => simp [intOf]; omega
              · have e2 : (kd == 2) = false := by simpa using k2
                have HT3 : Hid _ := T3
                have hx := stx z4.length q t kd ff cc is k0 k1 k2
                rw [hx.2.1, hx.2.2] at HA2
                clear T3 hx
                go_wp2_with fail
                go_roundw
                case rel => exact ⟨k + 1, _, _, _, _, by omega, by go_num, L2.more HT3.out, HA2.out⟩
                case measure => simp [intOf]; omega
      · obtain rfl : k = n := by omega
        have L1 := L2.callP HQ.out (thB _ _ _ _ _) (fun F hF => I.leave hF (o : Int))
        have e1 : okF (o : Int) = 0 := by unfold okF; rw [if_neg (by omega)]
        rw [e1, leave_same ho8 HA.out.1.1 HA.out.2.1, leave_same ho8 HA.out.1.2 HA.out.2.2] at L1
        have L8 : Hid (∀ W, L2 w W (fun _ => False) (PT ta z4 q t) (RB rb z4 q t k) → Calls Try.prog 23 #[.pointer (some ⟨ta, 0, none⟩), .int .i64 8] W fun e w' => e = .returned (.int .i64 1) ∧ L2 w w' (fun _ => False) (PT ta z4 q t) (RB rb z4 q t k)) := fun W (hW : L2 w W (fun _ => False) (PT ta z4 q t) (RB rb z4 q t k)) => by
          have := L2.callP hW (thB _ _ _ _ _) (fun F hF => I.leave hF 8)
          exact this.mono (fun e w' u => ⟨u.1, u.2.1⟩)
        clear e1
        go_wp2_with (first
          | (go_at_call 23; refine (L8.out w3 HT3.out).mono ?_; rintro e w4 ⟨rfl, T4⟩; have HT4 : Hid _ := T4; clear L8 T4)
          | (go_at_call 23; refine L1.mono ?_; rintro e w3 ⟨rfl, T3, _⟩; have HT3 : Hid _ := T3; clear L1 T3))
        go_loopw [12] (fun sg wr => ∃ g : Nat, g ≤ 8 ∧ sg = .int .i64 g ∧ Hid (L2 w wr (fun _ => False) (PT ta z4 q t) (RB rb z4 q t k))) (fun sg _ => 8 - (intOf sg).toNat)
        case atStart => exact ⟨0, by omega, rfl, HT4.out⟩
        case round =>
          clear HQ HT3 HT4
          obtain ⟨g, hg, rfl, HG⟩ := hrel
          by_cases hg8 : g < 8
          · have hg' : (g : Int) < 8 := by omega
            go_wp2_with fail
            go_loopw [13] (fun sc' wr => ∃ j : Nat, j ≤ 4 ∧ sc' = .int .i64 j ∧ Hid (L2 w wr (fun _ => False) (PT ta z4 q t) (RB rb z4 q t k))) (fun sc' _ => 4 - (intOf sc').toNat)
            case atStart => exact ⟨0, by omega, rfl, HG.out⟩
            case round =>
              clear HG
              obtain ⟨j, hj, rfl, HJ⟩ := hrel
              by_cases hj4 : j < 4
              · have hj' : (j : Int) < 4 := by omega
                have A1 : Hid (∀ W, L2 w W (fun _ => False) (PT ta z4 q t) (RB rb z4 q t k) → Calls Try.prog 14 #[.pointer (some ⟨ta, 0, none⟩), .int .i64 (g : Int), .int .i64 (j : Int)] W _) := fun W (hW : L2 w W (fun _ => False) (PT ta z4 q t) (RB rb z4 q t k)) => by
                  obtain ⟨F, hF⟩ := L2.seeP hW
                  exact (I.route hF (g : Int) (j : Int)).mono (R' := fun e w' => ∃ a' c', e = .returned (.tuple #[.slice a' (toB z4 q t (g : Int) (j : Int)).length c', .int .i64 (errB z4 q (g : Int) (j : Int))]) ∧ RdI w' w'.heap.size a' (toB z4 q t (g : Int) (j : Int)) ∧ L2 w w' (fun _ => False) (PT ta z4 q t) (RB rb z4 q t k)) (fun e w' ⟨a', c', h1, h2, h3⟩ => ⟨a', c', h1, h2, L2.below hW (I.th _ _ _ _) (thB _ _ _ _ _) h3⟩)
                have A2 : Hid (∀ W a0, L2 w W (fun _ => False) (PT ta z4 q t) (RB rb z4 q t k) → RdI W W.heap.size a0 (toB z4 q t (g : Int) (j : Int)) → Calls Try.prog 15 #[.pointer (some ⟨rb, 0, none⟩), .int .i64 (g : Int), .int .i64 (j : Int)] W _) := fun W a0 (hW : L2 w W (fun _ => False) (PT ta z4 q t) (RB rb z4 q t k)) (h0 : RdI W W.heap.size a0 (toB z4 q t (g : Int) (j : Int))) => by
                  obtain ⟨F, hF⟩ := L2.seeQ hW
                  exact (broute hF (by omega) (by decide) (g : Int) (j : Int)).mono (R' := fun e w' => ∃ a' c', e = .returned (.tuple #[.slice a' (toB z4 q t (g : Int) (j : Int)).length c', .int .i64 (errB z4 q (g : Int) (j : Int))]) ∧ RdI w' w'.heap.size a' (toB z4 q t (g : Int) (j : Int)) ∧ RdI w' w'.heap.size a0 (toB z4 q t (g : Int) (j : Int)) ∧ L2 w w' (fun _ => False) (PT ta z4 q t) (RB rb z4 q t k)) (fun e w' ⟨a', c', h1, h2, h3⟩ => ⟨a', c', h1, h2, h0.go (Nat.le_refl _) h3, L2.below hW (I.th _ _ _ _) (thB _ _ _ _ _) h3⟩)
                have A3 : Hid (∀ W a0 c0 a1 c1, L2 w W (fun _ => False) (PT ta z4 q t) (RB rb z4 q t k) → RdI W W.heap.size a0 (toB z4 q t (g : Int) (j : Int)) → RdI W W.heap.size a1 (toB z4 q t (g : Int) (j : Int)) → Calls Try.prog 16 #[.slice a0 (toB z4 q t (g : Int) (j : Int)).length c0, .slice a1 (toB z4 q t (g : Int) (j : Int)).length c1] W fun e w' => e = .returned (.bool true) ∧ L2 w w' (fun _ => False) (PT ta z4 q t) (RB rb z4 q t k)) := fun W a0 c0 a1 c1 (hW : L2 w W (fun _ => False) (PT ta z4 q t) (RB rb z4 q t k)) (h0 : RdI W W.heap.size a0 (toB z4 q t (g : Int) (j : Int))) (h1 : RdI W W.heap.size a1 (toB z4 q t (g : Int) (j : Int))) =>
                  (same_yes W W.heap.size a0 a1 c0 c1 _ (Nat.le_refl _) h0 h1 (by have := toB_len z4 q t (g : Int) (j : Int); omega)).mono (fun e w' g => ⟨g.1, L2.below hW (I.th _ _ _ _) (thB _ _ _ _ _) g.2⟩)
                have A6 : Hid (∀ W, L2 w W (fun _ => False) (PT ta z4 q t) (RB rb z4 q t k) → Calls Try.prog 19 #[.pointer (some ⟨ta, 0, none⟩), .int .i64 (g : Int), .int .i64 (j : Int)] W fun e w' => e = .returned (.bool (hearB z4 t (g : Int) (j : Int))) ∧ L2 w w' (fun _ => False) (PT ta z4 q t) (RB rb z4 q t k)) := fun W (hW : L2 w W (fun _ => False) (PT ta z4 q t) (RB rb z4 q t k)) => by
                  obtain ⟨F, hF⟩ := L2.seeP hW
                  exact (I.hears hF (g : Int) (j : Int)).mono (fun e w' g => ⟨g.1, L2.below hW (I.th _ _ _ _) (thB _ _ _ _ _) g.2⟩)
                have A7 : Hid (∀ W, L2 w W (fun _ => False) (PT ta z4 q t) (RB rb z4 q t k) → Calls Try.prog 20 #[.pointer (some ⟨rb, 0, none⟩), .int .i64 (g : Int), .int .i64 (j : Int)] W fun e w' => e = .returned (.bool (hearB z4 t (g : Int) (j : Int))) ∧ L2 w w' (fun _ => False) (PT ta z4 q t) (RB rb z4 q t k)) := fun W (hW : L2 w W (fun _ => False) (PT ta z4 q t) (RB rb z4 q t k)) => by
                  obtain ⟨F, hF⟩ := L2.seeQ hW
                  exact (bhears hF (by omega) (by decide) (g : Int) (j : Int)).mono (fun e w' g => ⟨g.1, L2.below hW (I.th _ _ _ _) (thB _ _ _ _ _) g.2⟩)
                obtain ⟨xs, hxs⟩ : ∃ xs, toB z4 q t (g : Int) (j : Int) = xs := ⟨_, rfl⟩
                rw [hxs] at A1 A2 A3
                obtain ⟨ee, hee⟩ : ∃ ee, errB z4 q (g : Int) (j : Int) = ee := ⟨_, rfl⟩
                rw [hee] at A1 A2
                obtain ⟨hh, hhh⟩ : ∃ hh, hearB z4 t (g : Int) (j : Int) = hh := ⟨_, rfl⟩
                rw [hhh] at A6 A7
                clear hxs hee hhh
                go_wp2_with (first
                  | (go_at_call 14; refine (A1.out _ HJ.out).mono ?_; rintro e w3 ⟨a3, c3, rfl, r3, T3⟩; have HR3 : Hid _ := r3; have HT3 : Hid _ := T3; clear A1 r3 T3)
                  | (go_at_call 15; refine (A2.out w3 a3 HT3.out HR3.out).mono ?_; rintro e w4 ⟨a4, c4, rfl, r4, r3, T4⟩; have HT4 : Hid _ := T4; have HR4 : Hid _ := r4; have HR5 : Hid _ := r3; clear A2 r4 r3 T4)
                  | (go_at_call 16; refine (A3.out w4 a3 c3 a4 c4 HT4.out HR5.out HR4.out).mono ?_; rintro e w5 ⟨rfl, T5⟩; have HT5 : Hid _ := T5; clear A3 T5)
                  | (go_at_call 19; refine (A6.out w5 HT5.out).mono ?_; rintro e w8 ⟨rfl, T8⟩; have HT8 : Hid _ := T8; clear A6 T8)
                  | (go_at_call 20; refine (A7.out w8 HT8.out).mono ?_; rintro e w9 ⟨rfl, T9⟩; have HT9 : Hid _ := T9; clear A7 T9))
                go_roundw
                case rel => exact ⟨j + 1, by omega, by go_num, HT9.out⟩
                case measure => simp [intOf]; omega
              · obtain rfl : j = 4 := by omega
                go_wp2_with fail
                go_roundw
                case rel => exact ⟨g + 1, by omega, by go_num, HJ.out⟩
                case measure => simp [intOf]; omega
          · obtain rfl : g = 8 := by omega
            go_wp2
            go_ret
            exact ⟨rfl, L2.bel HG.out⟩
end Go.Proofs.Ytkbldbbhcdiihaa
