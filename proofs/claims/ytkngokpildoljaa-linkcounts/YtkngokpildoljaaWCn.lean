/- Proved: the walk of LinkCounts. -/
import Derived.Test.YtkngokpildoljaaPrm
namespace Go.Proofs.Ytkngokpildoljaa
open Go.RowKit Go.Shelf
set_option linter.unusedVariables false

/-- The second row alone. -/
theorem Bd.two {w W : World} {n room : Nat} {L : Ln} {B : Nat} {v1 v2 : Value} {l1 l2 : List It} (h : Bd w W n room L B v1 l1 v2 l2) : Bd w W n room L B v2 l2 (.slice none 0 0) [] :=
  ⟨h.net, h.r2, RwT.nil _ _, h.d2, by simp [Value.ownBlock], by simp [Value.ownBlock]⟩
/-- A new second row. -/
theorem Bd.fresh {w W : World} {n room : Nat} {L : Ln} {B : Nat} {v1 v2 : Value} {l1 l2 : List It} (h : Bd w W n room L B v1 l1 v2 l2) : Bd w (W.alloc (.cells #[] 35)) n room L B v1 l1 (.slice (some ⟨W.heap.size, 0, none⟩) 0 0) [] :=
  have hlt := h.net.net.lt
  ⟨h.net.on (al _ _), h.r1.below (al _ _), RwT.empty _ _ h.net.bel.size, h.d1, by simp [Value.ownBlock]; omega, fun g e1 e2 => by have := (h.r1.ge e1).2; simp [Value.ownBlock] at e2; omega⟩
theorem Bd.push2x {w W : World} {n room : Nat} {L : Ln} {B : Nat} {v1 v2 : Value} {l1 l2 : List It} (h : Bd w W n room L B v1 l1 v2 l2) {Bx Y : Nat} {x y : It} (hx : BoxT W Bx x) (hl : l2.length ≤ 100000) (ty : TypeId) (hy : BoxT W Y y) (hn : v2.ownBlock ≠ some Y) :
    ∃ a' c' w', (Builtin.append_ #[45, 45] ty #[v2, .slice (some ⟨Bx, 0, none⟩) 1 1]).run Try.prog W = .ok (.slice a' (l2.length + 1) c') w' ∧ Bd w w' n room L B v1 l1 (.slice a' (l2.length + 1) c') (l2 ++ [x]) ∧ BoxT w' Y y ∧ (Value.slice a' (l2.length + 1) c').ownBlock ≠ some Y := by
  obtain ⟨a', c', w', hr, h1, hg, ho⟩ := append_T (c := 1) h.r2 h.net.bel.size hx.rd hl (by simp) ty (l2 ++ [x]) rfl
  rw [show (l2 ++ [x]).length = l2.length + 1 by simp] at hr h1 ho
  have hf : Fr (fun k => v2.ownBlock = some k) W w' := Fr.of_grown hg (fun k e => e)
  have hnB : (Value.slice a' (l2.length + 1) c').ownBlock ≠ some B := by
    rcases ho with e | e
    · rw [e]; exact h.d2
    · rw [e]; intro e2; have := h.net.net.lt; simp at e2; omega
  refine ⟨a', c', w', hr, ⟨⟨h.net.net.keep hf h.d2, h.net.lo, h.net.bel.trans (hf.below h.net.bel.size (fun i e => (h.r2.ge e).1))⟩, h.r1.keep hf (fun g e e2 => h.d12 g e e2), h1, h.d1, hnB, fun g e1 e2 => ?_⟩, hy.keep hf hn, ?_⟩
  · rcases ho with e | e
    · exact h.d12 g e1 (by rw [← e]; exact e2)
    · rw [e] at e2
      have := (h.r1.ge e1).2
      simp at e2
      omega
  · rcases ho with e | e
    · rw [e]; exact hn
    · rw [e]; intro e2; have := hy.lt; simp at e2; omega
theorem Bd.carried {w W : World} {n room : Nat} {L : Ln} {B : Nat} {v1 v2 : Value} {l1 l2 : List It} {i : Int} (h : Bd w W n room L B v1 l1 v2 l2) (ho : On n L l1 i) (c : Int) :
    Calls Try.prog 22 #[.pointer (some ⟨B, 0, none⟩), .int .i64 c] W fun e w' => e = .returned (.int .i64 (carr c l1)) ∧ Bd w w' n room L B v1 l1 v2 l2 := by
  rw [← ho.carr c]
  exact (carried_any h.net.net c).mono fun e w' ⟨he, hb⟩ => ⟨he, h.on hb⟩
theorem Bd.all {w W : World} {n room : Nat} {L : Ln} {B : Nat} {v1 v2 : Value} {l1 l2 : List It} {i : Int} (h : Bd w W n room L B v1 l1 v2 l2) (ho : On n L l1 i) :
    Calls Try.prog 20 #[.pointer (some ⟨B, 0, none⟩)] W fun e w' => e = .returned (.int .i64 l1.length) ∧ Bd w w' n room L B v1 l1 v2 l2 := by
  rw [← ho.all]
  exact (all_any h.net.net).mono fun e w' ⟨he, hb⟩ => ⟨he, h.on hb⟩
theorem Bd.least {w W : World} {n room : Nat} {L : Ln} {B : Nat} {v1 v2 : Value} {l1 l2 : List It} (h : Bd w W n room L B v1 l1 v2 l2) :
    Calls Try.prog 24 #[.pointer (some ⟨B, 0, none⟩)] W fun e w' => e = .returned (.int .i64 (lstI (tms (itms n L)))) ∧ Bd w w' n room L B v1 l1 v2 l2 :=
  (least_net h.net.net).mono fun e w' ⟨he, hb⟩ => ⟨he, h.on hb⟩

set_option maxRecDepth 100000 in
set_option maxHeartbeats 8000000 in
theorem counts_walk (w : World) (sa : Option Addr) (sc : Nat) (z : List St) (hz : RdS w sa z) (hn : z.length ≤ maxLen) :
    Calls Try.prog 6 #[.slice sa z.length sc] w fun e w' => e = .returned (.bool true) ∧ Below w.heap.size w w' := by
  by_cases hlong : 200 < z.length
  · have hl' : (200 : Int) < (z.length : Int) := by omega
    unfold maxLen at hn
    clear hz
    go_enter Try.func6, Try.ntmps6
    go_wp2
    go_ret
    exact ⟨rfl, Below.refl _ _⟩
  have hz2 : z.length ≤ 200 := by omega
  have hl' : ¬ (200 : Int) < (z.length : Int) := by omega
  obtain ⟨B, hB⟩ : ∃ B, w.heap.size = B := ⟨_, rfl⟩
  have NW : Calls Try.prog 8 #[.int .i64 4, .int .i64 16] w fun e w' => e = .returned (.tuple #[.pointer (some ⟨B, 0, none⟩), .int .i64 0]) ∧ N1 w w' 4 16 noL B := by
    rw [← hB]
    exact (new_ok w 4 16 (by omega) (by omega) (by omega) (by omega)).mono fun e w' ⟨he, h1, h2⟩ => ⟨he, h1, Nat.le_refl _, h2⟩
  have HZ : Hid _ := hz
  clear hB hz hn hlong
  go_enter Try.func6, Try.ntmps6
  go_wp2_with (go_at_call 8; refine NW.mono ?_; rintro e w1 ⟨rfl, h1⟩; have H1 : Hid _ := h1; clear h1 NW)
  have HB0 : Hid (Bd w (w1.alloc (.cells #[] 35)) 4 16 noL B (.slice (some ⟨w1.heap.size, 0, none⟩) 0 0) [] (.slice none 0 0) []) := by
    have h1 := H1.out
    have hlt := h1.net.lt
    have hsz := h1.bel.size
    exact ⟨h1.on (al _ _), RwT.empty w.heap.size w1 hsz, RwT.nil _ _, by simp [Value.ownBlock]; omega, by simp [Value.ownBlock], by simp [Value.ownBlock]⟩
  obtain ⟨W0, hW0⟩ : ∃ W0, w1.alloc (.cells #[] 35) = W0 := ⟨_, rfl⟩
  rw [hW0] at HB0 ⊢
  clear hW0 H1
  go_loopw [5, 6] (fun s5 s6 wr => ∃ (i : Nat) (L : Ln) (l : List It), s6 = .int .i64 i ∧ i ≤ z.length ∧ Hid (l.length ≤ i) ∧ Hid (On 4 L l (i : Int)) ∧ Hid (Bd w wr 4 16 L B s5 l (.slice none 0 0) [])) (fun _ s6 _ => z.length - (intOf s6).toNat)
  case atStart => exact ⟨0, noL, [], rfl, Nat.zero_le _, Nat.le_refl _, On.start 4, HB0.out⟩
  case round =>
    obtain ⟨i, L, l, rfl, hi, HLI, HO, HN⟩ := hrel
    by_cases hlt : i < z.length
    · have hlt' : (i : Int) < (z.length : Int) := by omega
      obtain ⟨b, off, rfl, hb, hcs⟩ := RdS.cells HZ.out hlt
      obtain ⟨c0, c1, c2, c3, c4, c5, c6, c7, c8, c9, c10⟩ := hcs _ HN.out.net.bel
      obtain ⟨s, hs⟩ : ∃ s, nthS z i = s := ⟨_, rfl⟩
      simp only [hs] at c0 c1 c2 c3 c4 c5 c6 c7 c8 c9 c10
      clear hcs hs
      obtain ⟨sk, sA, sB, ⟨xk, xt, xf, xq, xd, xc, xb, xo⟩⟩ := s
      dsimp only at c0 c1 c2 c3 c4 c5 c6 c7 c8 c9 c10
      have hBl := HN.out.net.net.lt
      obtain ⟨y, hy⟩ : ∃ y : It, y = ⟨xk, xt, xf, xq, xd, xc, (i : Int), xo⟩ := ⟨_, rfl⟩
      have HX : Hid (BoxS (wr.alloc (.cells #[.int .i64 sk, .int .i64 sA, .int .i64 sB, .int .i64 xk, .int .i64 xt, .int .i64 xf, .int .i64 xq, .int .i64 xd, .int .i64 xc, .int .i64 (i : Int), .int .i64 xo] 37)) wr.heap.size ⟨sk, sA, sB, y⟩) := by rw [hy]; exact BoxS.new wr ⟨sk, sA, sB, ⟨xk, xt, xf, xq, xd, xc, (i : Int), xo⟩⟩
      have HM : Hid _ := HN.out.on (al wr (.cells #[.int .i64 sk, .int .i64 sA, .int .i64 sB, .int .i64 xk, .int .i64 xt, .int .i64 xf, .int .i64 xq, .int .i64 xd, .int .i64 xc, .int .i64 (i : Int), .int .i64 xo] 37))
      by_cases hk0 : sk = 0
      · have dk0 : (sk == 0) = true := by simpa using hk0
        have dk1 : (sk == 1) = false := by rw [hk0]; rfl
        clear hk0
        have SX := Bd.send HM.out sA sB y
        by_cases hge : sndE 4 16 L sA sB y = 0
        · rw [hge] at SX
          have HO2 : Hid (On 4 (sndL 4 16 L sA sB y) (l ++ [y]) ((i : Int) + 1)) := HO.out.send (by rw [hy]) hge
          obtain ⟨L', hL'⟩ : ∃ L', sndL 4 16 L sA sB y = L' := ⟨_, rfl⟩
          rw [hL'] at SX HO2
          clear hge hL' HO
          have HPU : Hid (∀ w3, Bd w w3 4 16 L' B u5 l (.slice none 0 0) [] → BoxS w3 wr.heap.size ⟨sk, sA, sB, ⟨xk, xt, xf, xq, xd, xc, (i : Int), xo⟩⟩ → ∃ a' c' w', (Builtin.append_ #[45, 45] 45 #[u5, .slice (some ⟨w3.heap.size, 0, none⟩) 1 1]).run Try.prog (w3.alloc (.cells #[.int .i64 xk, .int .i64 xt, .int .i64 xf, .int .i64 xq, .int .i64 xd, .int .i64 xc, .int .i64 (i : Int), .int .i64 xo] 35)) = .ok (.slice a' (l.length + 1) c') w' ∧ Bd w w' 4 16 L' B (.slice a' (l.length + 1) c') (l ++ [y]) (.slice none 0 0) [] ∧ BoxS w' wr.heap.size ⟨sk, sA, sB, ⟨xk, xt, xf, xq, xd, xc, (i : Int), xo⟩⟩) := fun w3 h3 bx => by
            obtain ⟨a', c', w', h1, h2, h4⟩ := (h3.on (al w3 (.cells (ics y) 35))).push1 (BoxT.new w3 y) (by have := HLI.out; omega) 45
            refine ⟨a', c', w', ?_, h2, (bx.below (al w3 (.cells (ics y) 35))).keep h4 (fun e => by have := (HN.out.r1.ge e).2; omega)⟩
            rw [hy] at h1
            exact h1
          have HLN : Hid ((l ++ [y]).length = l.length + 1 ∧ l.length + 1 ≤ i + 1) := by
            have := HLI.out
            constructor
            · simp
            · omega
          obtain ⟨lp, hlp⟩ : ∃ lp, l ++ [y] = lp := ⟨_, rfl⟩
          simp only [hlp] at HPU HLN HO2
          have SX2 : Calls Try.prog 10 #[.pointer (some ⟨B, 0, none⟩), .int .i64 sA, .int .i64 sB, .agg #[.int .i64 xk, .int .i64 xt, .int .i64 xf, .int .i64 xq, .int .i64 xd, .int .i64 xc, .int .i64 (i : Int), .int .i64 xo]] (wr.alloc (.cells #[.int .i64 sk, .int .i64 sA, .int .i64 sB, .int .i64 xk, .int .i64 xt, .int .i64 xf, .int .i64 xq, .int .i64 xd, .int .i64 xc, .int .i64 (i : Int), .int .i64 xo] 37)) fun e w' => e = .returned (.int .i64 0) ∧ Bd w w' 4 16 L' B u5 l (.slice none 0 0) [] ∧ BoxS w' wr.heap.size ⟨sk, sA, sB, ⟨xk, xt, xf, xq, xd, xc, (i : Int), xo⟩⟩ := by
            have h := SX.mono (R' := fun e w' => e = .returned (.int .i64 0) ∧ Bd w w' 4 16 L' B u5 l (.slice none 0 0) [] ∧ BoxS w' wr.heap.size ⟨sk, sA, sB, y⟩) (fun e w' ⟨he, h3, f3⟩ => ⟨he, h3, HX.out.keep f3 (by omega)⟩)
            rw [hy] at h
            exact h
          clear SX hlp hy HX HM HN
          go_wp2_with (first | (go_at_call 10; refine SX2.mono ?_; rintro e w3 ⟨rfl, h3, bx⟩; obtain ⟨e0, e1, e2, e3, e4, e5, e6, e7, e8, e9, e10⟩ := bx.cells; dsimp only at e0 e1 e2 e3 e4 e5 e6 e7 e8 e9 e10; obtain ⟨a1, cp1, w4, hrun, h4, b4⟩ := HPU.out w3 h3 bx; have H4 : Hid _ := h4; obtain ⟨j0, _⟩ := b4.cells; dsimp only at j0; clear h3 h4 SX2 bx b4 HPU) | (at_builtin; refine wpList_append_run _ rfl _ _ 45 rfl rfl rfl hrun ?_))
          go_loop [12, 13, 14, 15] (fun s12 s13 s14 s15 => ∃ k : Nat, k ≤ (l.length + 1) ∧ s15 = .int .i64 k ∧ s12 = .int .i64 (carr 0 (lp.take k) : Int) ∧ s13 = .int .i64 (carr 1 (lp.take k) : Int) ∧ s14 = .int .i64 (gmin (lp.take k))) (fun _ _ _ s15 => (l.length + 1) - (intOf s15).toNat)
          case atStart => exact ⟨0, Nat.zero_le _, rfl, rfl, rfl, rfl⟩
          case round =>
            obtain ⟨k, hk, rfl, rfl, rfl, rfl⟩ := hrel
            have hN2 : (l.length + 1) ≤ 200 := by have := HLN.out; omega
            by_cases hkN : k < (l.length + 1)
            · have hkN' : (k : Int) < (((l.length + 1) : Nat) : Int) := by omega
              obtain ⟨q1, p1, q2, q3⟩ := H4.out.r1.rd
              simp at q2
              have q4 := q3.cells (i := k) (x := nthT lp k) (by have := HLN.out; omega) rfl
              obtain ⟨b1, o1, q5, hb1, x0, x1, x2, x3, x4, x5, x6, x7⟩ := q4
              have q6 := q2.1.trans q5
              clear q2 q3 q5
              have hok := HO2.out.ok (nthT lp k) (by have := HLN.out; rw [nthT, List.getD_eq_getElem?_getD, List.getElem?_eq_getElem (by omega)]; exact List.getElem_mem _)
              have hck := take_succ' lp k (by have := HLN.out; omega)
              have ha0 := carr_app 0 (lp.take k) (nthT lp k)
              have ha1 := carr_app 1 (lp.take k) (nthT lp k)
              have hga := gmin_app (lp.take k) (nthT lp k)
              have hl0 := carr_le 0 (lp.take k)
              have hl1 := carr_le 1 (lp.take k)
              rw [List.length_take] at hl0 hl1
              rw [← hck] at ha0 ha1 hga
              obtain ⟨x, hx⟩ : ∃ x, nthT lp k = x := ⟨_, rfl⟩
              obtain ⟨n0, hn0⟩ : ∃ n0, carr 0 (lp.take k) = n0 := ⟨_, rfl⟩
              obtain ⟨m0, hm0⟩ : ∃ m0, carr 1 (lp.take k) = m0 := ⟨_, rfl⟩
              obtain ⟨g0, hg0⟩ : ∃ g0, gmin (lp.take k) = g0 := ⟨_, rfl⟩
              rw [hx] at x0 x1 x2 x3 x4 x5 x6 x7 hok ha0 ha1 hga
              rw [hn0] at ha0 hl0 ⊢
              rw [hm0] at ha1 hl1 ⊢
              rw [hg0] at hga ⊢
              have hn1 : (n0 : Int) ≤ 200 := by omega
              have hm1 : (m0 : Int) ≤ 200 := by omega
              have HA0 : Hid _ := ha0
              have HA1 : Hid _ := ha1
              have HGA : Hid _ := hga
              clear hck ha0 ha1 hga hl0 hl1 hx hn0 hm0 hg0
              have hq : a1 = some ⟨b1, o1, none⟩ := by simpa using q6
              subst hq
              by_cases hk2 : x.k = 2
              · have d1 : (x.k != 2) = false := by simpa using hk2
                have i0 : isC 0 x = false := by simp [isC, d1]
                have i1 : isC 1 x = false := by simp [isC, d1]
                go_wp2
                go_round
                case rel => exact ⟨k + 1, by omega, by go_num, by rw [HA0.out, i0]; rfl, by rw [HA1.out, i1]; rfl, by rw [HGA.out, d1]; rfl⟩
                case measure => simp [intOf]; omega
              · have d1 : (x.k != 2) = true := by simpa using hk2
                by_cases hc0 : x.co = 0
                · have d2 : (x.co == 0) = true := by simpa using hc0
                  have i0 : isC 0 x = true := by simp [isC, d1, hc0]
                  have i1 : isC 1 x = false := by simp [isC, hc0]
                  go_wp2
                  go_round
                  case rel => exact ⟨k + 1, by omega, by go_num, by rw [HA0.out, i0]; go_num, by rw [HA1.out, i1]; rfl, by rw [HGA.out, d1]; rfl⟩
                  case measure => simp [intOf]; omega
                · have d2 : (x.co == 0) = false := by simpa using hc0
                  have hc1 : x.co = 1 := (ok_co hok).resolve_left hc0
                  have i0 : isC 0 x = false := by simp [isC, d2]
                  have i1 : isC 1 x = true := by simp [isC, d1, hc1]
                  go_wp2
                  go_round
                  case rel => exact ⟨k + 1, by omega, by go_num, by rw [HA0.out, i0]; rfl, by rw [HA1.out, i1]; go_num, by rw [HGA.out, d1]; rfl⟩
                  case measure => simp [intOf]; omega
            · obtain rfl : k = (l.length + 1) := by omega
              have htk : lp.take ((l.length + 1)) = lp := List.take_of_length_le (by have := HLN.out; omega)
              rw [htk]
              have C0 := Bd.carried H4.out HO2.out 0
              have C1 : ∀ W, Bd w W 4 16 L' B (.slice a1 (l.length + 1) cp1) lp (.slice none 0 0) [] → _ := fun W h => Bd.carried h HO2.out 1
              have AL : ∀ W, Bd w W 4 16 L' B (.slice a1 (l.length + 1) cp1) lp (.slice none 0 0) [] → _ := fun W h => Bd.all h HO2.out
              have LE : ∀ W, Bd w W 4 16 L' B (.slice a1 (l.length + 1) cp1) lp (.slice none 0 0) [] → _ := fun W h => Bd.least h
              have hle := fun hg => HO2.out.least hg
              obtain ⟨n0, hn0⟩ : ∃ n0, carr 0 lp = n0 := ⟨_, rfl⟩
              obtain ⟨m0, hm0⟩ : ∃ m0, carr 1 lp = m0 := ⟨_, rfl⟩
              obtain ⟨g0, hg0⟩ : ∃ g0, gmin lp = g0 := ⟨_, rfl⟩
              obtain ⟨s0, hs0⟩ : ∃ s0, lstI (tms (itms 4 L')) = s0 := ⟨_, rfl⟩
              have hll : lp.length = (l.length + 1) := by have := HLN.out; omega
              simp only [hn0, hm0, hg0, hs0, hll] at C0 C1 AL LE hle ⊢
              have HC1 : Hid _ := C1
              have HAL : Hid _ := AL
              have HLE : Hid _ := LE
              clear C1 AL LE hn0 hm0 hg0 hs0 hll htk
              have hfin : (s0 = g0) ∨ ((s0 != g0) = true ∧ decide (g0 ≤ 1099511627776) = false) := by
                by_cases hg : g0 ≤ 1099511627776
                · exact .inl (hle hg)
                · by_cases he : s0 = g0
                  · exact .inl he
                  · exact .inr ⟨by simpa using he, by simpa using hg⟩
              clear hle
              rcases hfin with rfl | ⟨d1, d2⟩
              · go_wp2_with (first | (go_at_call 22; first | (refine (Hid.out HC1 _ (Hid.out K1)).mono ?_; rintro e k2 ⟨rfl, h2⟩; have K2 : Hid _ := h2; clear h2 HC1) | (refine C0.mono ?_; rintro e k1 ⟨rfl, h1⟩; have K1 : Hid _ := h1; clear h1 C0)) | (go_at_call 20; refine (Hid.out HAL _ (Hid.out K2)).mono ?_; rintro e k3 ⟨rfl, h3⟩; have K3 : Hid _ := h3; clear h3 HAL) | (go_at_call 24; refine (Hid.out HLE _ (Hid.out K3)).mono ?_; rintro e k4 ⟨rfl, h4⟩; have K4 : Hid _ := h4; clear h4 HLE))
                go_roundw
                case rel => exact ⟨i + 1, L', lp, by go_num, by omega, by have := HLN.out; show _ ≤ _; omega, HO2.out, K4.out⟩
                case measure => simp [intOf]; omega
              · go_wp2_with (first | (go_at_call 22; first | (refine (Hid.out HC1 _ (Hid.out K1)).mono ?_; rintro e k2 ⟨rfl, h2⟩; have K2 : Hid _ := h2; clear h2 HC1) | (refine C0.mono ?_; rintro e k1 ⟨rfl, h1⟩; have K1 : Hid _ := h1; clear h1 C0)) | (go_at_call 20; refine (Hid.out HAL _ (Hid.out K2)).mono ?_; rintro e k3 ⟨rfl, h3⟩; have K3 : Hid _ := h3; clear h3 HAL) | (go_at_call 24; refine (Hid.out HLE _ (Hid.out K3)).mono ?_; rintro e k4 ⟨rfl, h4⟩; have K4 : Hid _ := h4; clear h4 HLE))
                go_roundw
                case rel => exact ⟨i + 1, L', lp, by go_num, by omega, by have := HLN.out; show _ ≤ _; omega, HO2.out, K4.out⟩
                case measure => simp [intOf]; omega
        · have hL' : sndL 4 16 L sA sB y = L := by unfold sndL; rw [if_neg hge]
          rw [hL'] at SX
          have HO2 : Hid (On 4 L l ((i : Int) + 1)) := HO.out.up
          obtain ⟨g, hg⟩ : ∃ g, sndE 4 16 L sA sB y = g := ⟨_, rfl⟩
          rw [hg] at SX hge
          have dg : (g == 0) = false := by simpa using hge
          clear hge hg hL' HO
          have SX2 : Calls Try.prog 10 #[.pointer (some ⟨B, 0, none⟩), .int .i64 sA, .int .i64 sB, .agg #[.int .i64 xk, .int .i64 xt, .int .i64 xf, .int .i64 xq, .int .i64 xd, .int .i64 xc, .int .i64 (i : Int), .int .i64 xo]] (wr.alloc (.cells #[.int .i64 sk, .int .i64 sA, .int .i64 sB, .int .i64 xk, .int .i64 xt, .int .i64 xf, .int .i64 xq, .int .i64 xd, .int .i64 xc, .int .i64 (i : Int), .int .i64 xo] 37)) fun e w' => e = .returned (.int .i64 g) ∧ Bd w w' 4 16 L B u5 l (.slice none 0 0) [] ∧ BoxS w' wr.heap.size ⟨sk, sA, sB, ⟨xk, xt, xf, xq, xd, xc, (i : Int), xo⟩⟩ := by
            have h := SX.mono (R' := fun e w' => e = .returned (.int .i64 g) ∧ Bd w w' 4 16 L B u5 l (.slice none 0 0) [] ∧ BoxS w' wr.heap.size ⟨sk, sA, sB, y⟩) (fun e w' ⟨he, h3, f3⟩ => ⟨he, h3, HX.out.keep f3 (by omega)⟩)
            rw [hy] at h
            exact h
          have HLN : Hid (l.length = l.length ∧ l.length ≤ i + 1) := by
            have := HLI.out
            constructor
            · rfl
            · omega
          obtain ⟨a1, cp1, hs5, _⟩ := HN.out.r1.rd
          subst hs5
          clear SX hy HX HM HN
          go_wp2_with (go_at_call 10; refine SX2.mono ?_; rintro e w3 ⟨rfl, h3, bx⟩; obtain ⟨e0, e1, e2, e3, e4, e5, e6, e7, e8, e9, e10⟩ := bx.cells; dsimp only at e0 e1 e2 e3 e4 e5 e6 e7 e8 e9 e10; have H3 : Hid _ := h3; clear h3 SX2 bx)
          go_loop [12, 13, 14, 15] (fun s12 s13 s14 s15 => ∃ k : Nat, k ≤ l.length ∧ s15 = .int .i64 k ∧ s12 = .int .i64 (carr 0 (l.take k) : Int) ∧ s13 = .int .i64 (carr 1 (l.take k) : Int) ∧ s14 = .int .i64 (gmin (l.take k))) (fun _ _ _ s15 => l.length - (intOf s15).toNat)
          case atStart => exact ⟨0, Nat.zero_le _, rfl, rfl, rfl, rfl⟩
          case round =>
            obtain ⟨k, hk, rfl, rfl, rfl, rfl⟩ := hrel
            have hN2 : l.length ≤ 200 := by have := HLN.out; omega
            by_cases hkN : k < l.length
            · have hkN' : (k : Int) < ((l.length : Nat) : Int) := by omega
              obtain ⟨q1, p1, q2, q3⟩ := H3.out.r1.rd
              simp at q2
              have q4 := q3.cells (i := k) (x := nthT l k) (by have := HLN.out; omega) rfl
              obtain ⟨b1, o1, q5, hb1, x0, x1, x2, x3, x4, x5, x6, x7⟩ := q4
              have q6 := q2.1.trans q5
              clear q2 q3 q5
              have hok := HO2.out.ok (nthT l k) (by have := HLN.out; rw [nthT, List.getD_eq_getElem?_getD, List.getElem?_eq_getElem (by omega)]; exact List.getElem_mem _)
              have hck := take_succ' l k (by have := HLN.out; omega)
              have ha0 := carr_app 0 (l.take k) (nthT l k)
              have ha1 := carr_app 1 (l.take k) (nthT l k)
              have hga := gmin_app (l.take k) (nthT l k)
              have hl0 := carr_le 0 (l.take k)
              have hl1 := carr_le 1 (l.take k)
              rw [List.length_take] at hl0 hl1
              rw [← hck] at ha0 ha1 hga
              obtain ⟨x, hx⟩ : ∃ x, nthT l k = x := ⟨_, rfl⟩
              obtain ⟨n0, hn0⟩ : ∃ n0, carr 0 (l.take k) = n0 := ⟨_, rfl⟩
              obtain ⟨m0, hm0⟩ : ∃ m0, carr 1 (l.take k) = m0 := ⟨_, rfl⟩
              obtain ⟨g0, hg0⟩ : ∃ g0, gmin (l.take k) = g0 := ⟨_, rfl⟩
              rw [hx] at x0 x1 x2 x3 x4 x5 x6 x7 hok ha0 ha1 hga
              rw [hn0] at ha0 hl0 ⊢
              rw [hm0] at ha1 hl1 ⊢
              rw [hg0] at hga ⊢
              have hn1 : (n0 : Int) ≤ 200 := by omega
              have hm1 : (m0 : Int) ≤ 200 := by omega
              have HA0 : Hid _ := ha0
              have HA1 : Hid _ := ha1
              have HGA : Hid _ := hga
              clear hck ha0 ha1 hga hl0 hl1 hx hn0 hm0 hg0
              have hq : a1 = some ⟨b1, o1, none⟩ := by simpa using q6
              subst hq
              by_cases hk2 : x.k = 2
              · have d1 : (x.k != 2) = false := by simpa using hk2
                have i0 : isC 0 x = false := by simp [isC, d1]
                have i1 : isC 1 x = false := by simp [isC, d1]
                go_wp2
                go_round
                case rel => exact ⟨k + 1, by omega, by go_num, by rw [HA0.out, i0]; rfl, by rw [HA1.out, i1]; rfl, by rw [HGA.out, d1]; rfl⟩
                case measure => simp [intOf]; omega
              · have d1 : (x.k != 2) = true := by simpa using hk2
                by_cases hc0 : x.co = 0
                · have d2 : (x.co == 0) = true := by simpa using hc0
                  have i0 : isC 0 x = true := by simp [isC, d1, hc0]
                  have i1 : isC 1 x = false := by simp [isC, hc0]
                  go_wp2
                  go_round
                  case rel => exact ⟨k + 1, by omega, by go_num, by rw [HA0.out, i0]; go_num, by rw [HA1.out, i1]; rfl, by rw [HGA.out, d1]; rfl⟩
                  case measure => simp [intOf]; omega
                · have d2 : (x.co == 0) = false := by simpa using hc0
                  have hc1 : x.co = 1 := (ok_co hok).resolve_left hc0
                  have i0 : isC 0 x = false := by simp [isC, d2]
                  have i1 : isC 1 x = true := by simp [isC, d1, hc1]
                  go_wp2
                  go_round
                  case rel => exact ⟨k + 1, by omega, by go_num, by rw [HA0.out, i0]; rfl, by rw [HA1.out, i1]; go_num, by rw [HGA.out, d1]; rfl⟩
                  case measure => simp [intOf]; omega
            · obtain rfl : k = l.length := by omega
              have htk : l.take (l.length) = l := List.take_of_length_le (by have := HLN.out; omega)
              rw [htk]
              have C0 := Bd.carried H3.out HO2.out 0
              have C1 : ∀ W, Bd w W 4 16 L B (.slice a1 l.length cp1) l (.slice none 0 0) [] → _ := fun W h => Bd.carried h HO2.out 1
              have AL : ∀ W, Bd w W 4 16 L B (.slice a1 l.length cp1) l (.slice none 0 0) [] → _ := fun W h => Bd.all h HO2.out
              have LE : ∀ W, Bd w W 4 16 L B (.slice a1 l.length cp1) l (.slice none 0 0) [] → _ := fun W h => Bd.least h
              have hle := fun hg => HO2.out.least hg
              obtain ⟨n0, hn0⟩ : ∃ n0, carr 0 l = n0 := ⟨_, rfl⟩
              obtain ⟨m0, hm0⟩ : ∃ m0, carr 1 l = m0 := ⟨_, rfl⟩
              obtain ⟨g0, hg0⟩ : ∃ g0, gmin l = g0 := ⟨_, rfl⟩
              obtain ⟨s0, hs0⟩ : ∃ s0, lstI (tms (itms 4 L)) = s0 := ⟨_, rfl⟩
              have hll : l.length = l.length := by have := HLN.out; omega
              simp only [hn0, hm0, hg0, hs0] at C0 C1 AL LE hle ⊢
              have HC1 : Hid _ := C1
              have HAL : Hid _ := AL
              have HLE : Hid _ := LE
              clear C1 AL LE hn0 hm0 hg0 hs0 hll htk
              have hfin : (s0 = g0) ∨ ((s0 != g0) = true ∧ decide (g0 ≤ 1099511627776) = false) := by
                by_cases hg : g0 ≤ 1099511627776
                · exact .inl (hle hg)
                · by_cases he : s0 = g0
                  · exact .inl he
                  · exact .inr ⟨by simpa using he, by simpa using hg⟩
              clear hle
              rcases hfin with rfl | ⟨d1, d2⟩
              · go_wp2_with (first | (go_at_call 22; first | (refine (Hid.out HC1 _ (Hid.out K1)).mono ?_; rintro e k2 ⟨rfl, h2⟩; have K2 : Hid _ := h2; clear h2 HC1) | (refine C0.mono ?_; rintro e k1 ⟨rfl, h1⟩; have K1 : Hid _ := h1; clear h1 C0)) | (go_at_call 20; refine (Hid.out HAL _ (Hid.out K2)).mono ?_; rintro e k3 ⟨rfl, h3⟩; have K3 : Hid _ := h3; clear h3 HAL) | (go_at_call 24; refine (Hid.out HLE _ (Hid.out K3)).mono ?_; rintro e k4 ⟨rfl, h4⟩; have K4 : Hid _ := h4; clear h4 HLE))
                go_roundw
                case rel => exact ⟨i + 1, L, l, by go_num, by omega, by have := HLN.out; show _ ≤ _; omega, HO2.out, K4.out⟩
                case measure => simp [intOf]; omega
              · go_wp2_with (first | (go_at_call 22; first | (refine (Hid.out HC1 _ (Hid.out K1)).mono ?_; rintro e k2 ⟨rfl, h2⟩; have K2 : Hid _ := h2; clear h2 HC1) | (refine C0.mono ?_; rintro e k1 ⟨rfl, h1⟩; have K1 : Hid _ := h1; clear h1 C0)) | (go_at_call 20; refine (Hid.out HAL _ (Hid.out K2)).mono ?_; rintro e k3 ⟨rfl, h3⟩; have K3 : Hid _ := h3; clear h3 HAL) | (go_at_call 24; refine (Hid.out HLE _ (Hid.out K3)).mono ?_; rintro e k4 ⟨rfl, h4⟩; have K4 : Hid _ := h4; clear h4 HLE))
                go_roundw
                case rel => exact ⟨i + 1, L, l, by go_num, by omega, by have := HLN.out; show _ ≤ _; omega, HO2.out, K4.out⟩
                case measure => simp [intOf]; omega
      · have dk0 : (sk == 0) = false := by simpa using hk0
        by_cases hk1 : sk = 1
        · have dk1 : (sk == 1) = true := by simpa using hk1
          clear hk0 hk1
          have SX := Bd.recv HM.out sA sB
          have hokL := HN.out.net.net.ok
          obtain ⟨u, hu⟩ : ∃ u, nthT (L sA sB) 0 = u := ⟨_, rfl⟩
          cases hv : fstB (L sA sB)
          · have he : rcvL L sA sB = L := by
              have e0 := no_head hv
              unfold rcvL
              rw [show (L sA sB).tail = L sA sB by rw [e0]; rfl, updL_self]
            rw [hu, hv, he] at SX
            have HO2 : Hid (On 4 L l ((i : Int) + 1)) := HO.out.up
            clear hu hv he hokL HO
            obtain ⟨a1, cp1, hs5, _⟩ := HN.out.r1.rd
            subst hs5
            have hl2 : l.length ≤ 200 := by have := HLI.out; omega
            have hl2' : (l.length : Int) ≤ 200 := by omega
            clear hy HX HM HN
            go_wp2_with (go_at_call 14; refine SX.mono ?_; rintro e w3 ⟨rfl, h3, f3⟩; have H3 : Hid _ := (h3.on (al w3 (.cells (ics u) 35))).fresh; have HY : Hid _ := (BoxT.new w3 u).below (al _ (.cells #[] 35)); clear h3 f3 SX)
            simp only [World.size_alloc] at H3
            obtain ⟨Y, hY⟩ : ∃ Y, w3.heap.size = Y := ⟨_, rfl⟩
            simp only [hY] at H3 HY ⊢
            clear hY
            obtain ⟨W1, hW1⟩ : ∃ W1, W1 = (w3.alloc (.cells (ics u) 35)).alloc (.cells #[] 35) := ⟨_, rfl⟩
            rw [← hW1] at H3 HY
            simp only [ics] at hW1
            rw [← hW1]
            clear hW1
            go_loopw [10, 11] (fun s10 s11 wr => ∃ (k : Nat) (l2 : List It), s11 = .int .i64 k ∧ k ≤ l.length ∧ Hid (l2 = l.take k) ∧ Hid (Bd w wr 4 16 L B (.slice a1 l.length cp1) l s10 l2) ∧ Hid (BoxT wr Y u ∧ s10.ownBlock ≠ some Y)) (fun _ s11 _ => l.length - (intOf s11).toNat)
            case atStart => exact ⟨0, [], rfl, Nat.zero_le _, rfl, H3.out, HY.out, by simp [Value.ownBlock]⟩
            case round =>
              obtain ⟨k, l2, rfl, hk, HL2, HN, HYY⟩ := hrel
              by_cases hkl : k < l.length
              · have hkl' : (k : Int) < (l.length : Int) := by omega
                obtain ⟨x, hx⟩ : ∃ x, nthT l k = x := ⟨_, rfl⟩
                obtain ⟨q1, p1, q2, q3⟩ := HN.out.r1.rd
                simp at q2
                obtain ⟨rfl, rfl⟩ := q2
                obtain ⟨b1, o1, rfl, hb1, x0, x1, x2, x3, x4, x5, x6, x7⟩ := q3.cells hkl hx
                obtain ⟨y0, y1, y2, y3, y4, y5, y6, y7⟩ := HYY.out.1.cells
                have hYl := HYY.out.1.lt
                have hck := take_succ' l k hkl
                rw [hx] at hck
                have HCK : Hid _ := hck
                have hl3 : l2.length ≤ 200 := by rw [HL2.out]; rw [List.length_take]; omega
                have HP := Bd.push2x ((HN.out.on ((Below.refl _ _).drew)).on (al wr.drew (.cells (ics x) 35))) (BoxT.new wr.drew x) (by omega) 45 ((HYY.out.1.drew).below (al wr.drew (.cells (ics x) 35))) HYY.out.2
                clear q3 hck hx
                obtain ⟨a', c', w4, hrun, h4, b4, n4⟩ := HP
                have H4 : Hid _ := h4
                have B4 : Hid _ := And.intro b4 n4
                clear h4 b4 n4
                go_wp2
                go_region
                go_wp2_with (at_builtin; refine wpList_append_run _ rfl _ _ 45 rfl rfl rfl hrun ?_)
                go_roundw
                case rel => exact ⟨k + 1, l2 ++ [x], by go_num, by omega, by show _ = _; rw [HCK.out, HL2.out], H4.out, B4.out⟩
                case measure => simp [intOf]; omega
              · obtain rfl : k = l.length := by omega
                obtain ⟨a2, cp2, hs2, _⟩ := HN.out.r2.rd
                subst hs2
                have H5 : Hid _ := HN.out.two
                have hll : l2 = l := by rw [HL2.out, List.take_length]
                subst hll
                have HLN : Hid (l2.length = l2.length ∧ l2.length ≤ i + 1) := by
                  have := HLI.out
                  constructor
                  · rfl
                  · omega
                clear HL2 HN HYY
                go_wp2
                go_loop [12, 13, 14, 15] (fun s12 s13 s14 s15 => ∃ k : Nat, k ≤ l2.length ∧ s15 = .int .i64 k ∧ s12 = .int .i64 (carr 0 (l2.take k) : Int) ∧ s13 = .int .i64 (carr 1 (l2.take k) : Int) ∧ s14 = .int .i64 (gmin (l2.take k))) (fun _ _ _ s15 => l2.length - (intOf s15).toNat)
                case atStart => exact ⟨0, Nat.zero_le _, rfl, rfl, rfl, rfl⟩
                case round =>
                  obtain ⟨k, hk, rfl, rfl, rfl, rfl⟩ := hrel
                  have hN2 : l2.length ≤ 200 := by have := HLN.out; omega
                  by_cases hkN : k < l2.length
                  · have hkN' : (k : Int) < ((l2.length : Nat) : Int) := by omega
                    obtain ⟨q1, p1, q2, q3⟩ := H5.out.r1.rd
                    simp at q2
                    have q4 := q3.cells (i := k) (x := nthT l2 k) (by have := HLN.out; omega) rfl
                    obtain ⟨b1, o1, q5, hb1, x0, x1, x2, x3, x4, x5, x6, x7⟩ := q4
                    have q6 := q2.1.trans q5
                    clear q2 q3 q5
                    have hok := HO2.out.ok (nthT l2 k) (by have := HLN.out; rw [nthT, List.getD_eq_getElem?_getD, List.getElem?_eq_getElem (by omega)]; exact List.getElem_mem _)
                    have hck := take_succ' l2 k (by have := HLN.out; omega)
                    have ha0 := carr_app 0 (l2.take k) (nthT l2 k)
                    have ha1 := carr_app 1 (l2.take k) (nthT l2 k)
                    have hga := gmin_app (l2.take k) (nthT l2 k)
                    have hl0 := carr_le 0 (l2.take k)
                    have hl1 := carr_le 1 (l2.take k)
                    rw [List.length_take] at hl0 hl1
                    rw [← hck] at ha0 ha1 hga
                    obtain ⟨x, hx⟩ : ∃ x, nthT l2 k = x := ⟨_, rfl⟩
                    obtain ⟨n0, hn0⟩ : ∃ n0, carr 0 (l2.take k) = n0 := ⟨_, rfl⟩
                    obtain ⟨m0, hm0⟩ : ∃ m0, carr 1 (l2.take k) = m0 := ⟨_, rfl⟩
                    obtain ⟨g0, hg0⟩ : ∃ g0, gmin (l2.take k) = g0 := ⟨_, rfl⟩
                    rw [hx] at x0 x1 x2 x3 x4 x5 x6 x7 hok ha0 ha1 hga
                    rw [hn0] at ha0 hl0 ⊢
                    rw [hm0] at ha1 hl1 ⊢
                    rw [hg0] at hga ⊢
                    have hn1 : (n0 : Int) ≤ 200 := by omega
                    have hm1 : (m0 : Int) ≤ 200 := by omega
                    have HA0 : Hid _ := ha0
                    have HA1 : Hid _ := ha1
                    have HGA : Hid _ := hga
                    clear hck ha0 ha1 hga hl0 hl1 hx hn0 hm0 hg0
                    have hq : a2 = some ⟨b1, o1, none⟩ := by simpa using q6
                    subst hq
                    by_cases hk2 : x.k = 2
                    · have d1 : (x.k != 2) = false := by simpa using hk2
                      have i0 : isC 0 x = false := by simp [isC, d1]
                      have i1 : isC 1 x = false := by simp [isC, d1]
                      go_wp2
                      go_round
                      case rel => exact ⟨k + 1, by omega, by go_num, by rw [HA0.out, i0]; rfl, by rw [HA1.out, i1]; rfl, by rw [HGA.out, d1]; rfl⟩
                      case measure => simp [intOf]; omega
                    · have d1 : (x.k != 2) = true := by simpa using hk2
                      by_cases hc0 : x.co = 0
                      · have d2 : (x.co == 0) = true := by simpa using hc0
                        have i0 : isC 0 x = true := by simp [isC, d1, hc0]
                        have i1 : isC 1 x = false := by simp [isC, hc0]
                        go_wp2
                        go_round
                        case rel => exact ⟨k + 1, by omega, by go_num, by rw [HA0.out, i0]; go_num, by rw [HA1.out, i1]; rfl, by rw [HGA.out, d1]; rfl⟩
                        case measure => simp [intOf]; omega
                      · have d2 : (x.co == 0) = false := by simpa using hc0
                        have hc1 : x.co = 1 := (ok_co hok).resolve_left hc0
                        have i0 : isC 0 x = false := by simp [isC, d2]
                        have i1 : isC 1 x = true := by simp [isC, d1, hc1]
                        go_wp2
                        go_round
                        case rel => exact ⟨k + 1, by omega, by go_num, by rw [HA0.out, i0]; rfl, by rw [HA1.out, i1]; go_num, by rw [HGA.out, d1]; rfl⟩
                        case measure => simp [intOf]; omega
                  · obtain rfl : k = l2.length := by omega
                    have htk : l2.take (l2.length) = l2 := List.take_of_length_le (by have := HLN.out; omega)
                    rw [htk]
                    have C0 := Bd.carried H5.out HO2.out 0
                    have C1 : ∀ W, Bd w W 4 16 L B (.slice a2 l2.length cp2) l2 (.slice none 0 0) [] → _ := fun W h => Bd.carried h HO2.out 1
                    have AL : ∀ W, Bd w W 4 16 L B (.slice a2 l2.length cp2) l2 (.slice none 0 0) [] → _ := fun W h => Bd.all h HO2.out
                    have LE : ∀ W, Bd w W 4 16 L B (.slice a2 l2.length cp2) l2 (.slice none 0 0) [] → _ := fun W h => Bd.least h
                    have hle := fun hg => HO2.out.least hg
                    obtain ⟨n0, hn0⟩ : ∃ n0, carr 0 l2 = n0 := ⟨_, rfl⟩
                    obtain ⟨m0, hm0⟩ : ∃ m0, carr 1 l2 = m0 := ⟨_, rfl⟩
                    obtain ⟨g0, hg0⟩ : ∃ g0, gmin l2 = g0 := ⟨_, rfl⟩
                    obtain ⟨s0, hs0⟩ : ∃ s0, lstI (tms (itms 4 L)) = s0 := ⟨_, rfl⟩
                    have hll : l2.length = l2.length := by have := HLN.out; omega
                    simp only [hn0, hm0, hg0, hs0] at C0 C1 AL LE hle ⊢
                    have HC1 : Hid _ := C1
                    have HAL : Hid _ := AL
                    have HLE : Hid _ := LE
                    clear C1 AL LE hn0 hm0 hg0 hs0 hll htk
                    have hfin : (s0 = g0) ∨ ((s0 != g0) = true ∧ decide (g0 ≤ 1099511627776) = false) := by
                      by_cases hg : g0 ≤ 1099511627776
                      · exact .inl (hle hg)
                      · by_cases he : s0 = g0
                        · exact .inl he
                        · exact .inr ⟨by simpa using he, by simpa using hg⟩
                    clear hle
                    rcases hfin with rfl | ⟨d1, d2⟩
                    · go_wp2_with (first | (go_at_call 22; first | (refine (Hid.out HC1 _ (Hid.out K1)).mono ?_; rintro e k2 ⟨rfl, h2⟩; have K2 : Hid _ := h2; clear h2 HC1) | (refine C0.mono ?_; rintro e k1 ⟨rfl, h1⟩; have K1 : Hid _ := h1; clear h1 C0)) | (go_at_call 20; refine (Hid.out HAL _ (Hid.out K2)).mono ?_; rintro e k3 ⟨rfl, h3⟩; have K3 : Hid _ := h3; clear h3 HAL) | (go_at_call 24; refine (Hid.out HLE _ (Hid.out K3)).mono ?_; rintro e k4 ⟨rfl, h4⟩; have K4 : Hid _ := h4; clear h4 HLE))
                      go_roundw
                      case rel => exact ⟨i + 1, L, l2, by go_num, by omega, by have := HLN.out; show _ ≤ _; omega, HO2.out, K4.out⟩
                      case measure => simp [intOf]; omega
                    · go_wp2_with (first | (go_at_call 22; first | (refine (Hid.out HC1 _ (Hid.out K1)).mono ?_; rintro e k2 ⟨rfl, h2⟩; have K2 : Hid _ := h2; clear h2 HC1) | (refine C0.mono ?_; rintro e k1 ⟨rfl, h1⟩; have K1 : Hid _ := h1; clear h1 C0)) | (go_at_call 20; refine (Hid.out HAL _ (Hid.out K2)).mono ?_; rintro e k3 ⟨rfl, h3⟩; have K3 : Hid _ := h3; clear h3 HAL) | (go_at_call 24; refine (Hid.out HLE _ (Hid.out K3)).mono ?_; rintro e k4 ⟨rfl, h4⟩; have K4 : Hid _ := h4; clear h4 HLE))
                      go_roundw
                      case rel => exact ⟨i + 1, L, l2, by go_num, by omega, by have := HLN.out; show _ ≤ _; omega, HO2.out, K4.out⟩
                      case measure => simp [intOf]; omega
          · rw [hu, hv] at SX
            obtain ⟨h1, h2⟩ := HO.out.recv hokL hv
            rw [hu] at h1 h2
            have HO2 : Hid _ := h1.up
            have HW2 : Hid _ := h2
            obtain ⟨L', hL'⟩ : ∃ L', rcvL L sA sB = L' := ⟨_, rfl⟩
            rw [hL'] at SX HO2
            clear hu hv hL' hokL HO h1 h2
            obtain ⟨a1, cp1, hs5, _⟩ := HN.out.r1.rd
            subst hs5
            have hl2 : l.length ≤ 200 := by have := HLI.out; omega
            have hl2' : (l.length : Int) ≤ 200 := by omega
            clear hy HX HM HN
            go_wp2_with (go_at_call 14; refine SX.mono ?_; rintro e w3 ⟨rfl, h3, f3⟩; have H3 : Hid _ := (h3.on (al w3 (.cells (ics u) 35))).fresh; have HY : Hid _ := (BoxT.new w3 u).below (al _ (.cells #[] 35)); clear h3 f3 SX)
            simp only [World.size_alloc] at H3
            obtain ⟨Y, hY⟩ : ∃ Y, w3.heap.size = Y := ⟨_, rfl⟩
            simp only [hY] at H3 HY ⊢
            clear hY
            obtain ⟨W1, hW1⟩ : ∃ W1, W1 = (w3.alloc (.cells (ics u) 35)).alloc (.cells #[] 35) := ⟨_, rfl⟩
            rw [← hW1] at H3 HY
            simp only [ics] at hW1
            rw [← hW1]
            clear hW1
            go_loopw [10, 11] (fun s10 s11 wr => ∃ (k : Nat) (l2 : List It), s11 = .int .i64 k ∧ k ≤ l.length ∧ Hid (l2 = wo (l.take k) u) ∧ Hid (Bd w wr 4 16 L' B (.slice a1 l.length cp1) l s10 l2) ∧ Hid (BoxT wr Y u ∧ s10.ownBlock ≠ some Y)) (fun _ s11 _ => l.length - (intOf s11).toNat)
            case atStart => exact ⟨0, [], rfl, Nat.zero_le _, rfl, H3.out, HY.out, by simp [Value.ownBlock]⟩
            case round =>
              obtain ⟨k, l2, rfl, hk, HL2, HN, HYY⟩ := hrel
              by_cases hkl : k < l.length
              · have hkl' : (k : Int) < (l.length : Int) := by omega
                obtain ⟨x, hx⟩ : ∃ x, nthT l k = x := ⟨_, rfl⟩
                obtain ⟨q1, p1, q2, q3⟩ := HN.out.r1.rd
                simp at q2
                obtain ⟨rfl, rfl⟩ := q2
                obtain ⟨b1, o1, rfl, hb1, x0, x1, x2, x3, x4, x5, x6, x7⟩ := q3.cells hkl hx
                obtain ⟨y0, y1, y2, y3, y4, y5, y6, y7⟩ := HYY.out.1.cells
                have hYl := HYY.out.1.lt
                have hck := take_succ' l k hkl
                rw [hx] at hck
                have HCK : Hid _ := hck
                have hl3 : l2.length ≤ 200 := by rw [HL2.out]; have := wo_le (l.take k) u; rw [List.length_take] at this; omega
                have HP := Bd.push2x ((HN.out.on ((Below.refl _ _).drew)).on (al wr.drew (.cells (ics x) 35))) (BoxT.new wr.drew x) (by omega) 45 ((HYY.out.1.drew).below (al wr.drew (.cells (ics x) 35))) HYY.out.2
                clear q3 hck hx
                have hwo := wo_app (l.take k) u x
                rw [← HCK.out] at hwo
                obtain ⟨d, hd⟩ : ∃ d, sameI x u = d := ⟨_, rfl⟩
                have hne : ∀ W, (binOp .neq 35 (iv x) (iv u)).run Try.prog W = .ok (.bool (!d)) W := fun W => by rw [neqI, hd]
                rw [hd] at hwo
                have HWO : Hid _ := hwo
                clear hwo hd
                cases d
                · obtain ⟨a', c', w4, hrun, h4, b4, n4⟩ := HP
                  have H4 : Hid _ := h4
                  have B4 : Hid _ := And.intro b4 n4
                  clear h4 b4 n4
                  go_wp2
                  go_region
                  go_wp2_with (at_builtin; refine wpList_append_run _ rfl _ _ 45 rfl rfl rfl hrun ?_)
                  go_roundw
                  case rel => exact ⟨k + 1, l2 ++ [x], by go_num, by omega, by show _ = _; rw [HWO.out, HL2.out, if_neg (by simp)], H4.out, B4.out⟩
                  case measure => simp [intOf]; omega
                · clear HP
                  go_wp2
                  go_region
                  go_wp2
                  go_roundw
                  case rel => exact ⟨k + 1, l2, by go_num, by omega, by show _ = _; rw [HWO.out, HL2.out]; simp, HN.out.on ((Below.refl _ _).drew), HYY.out.1.drew, HYY.out.2⟩
                  case measure => simp [intOf]; omega
              · obtain rfl : k = l.length := by omega
                obtain ⟨a2, cp2, hs2, _⟩ := HN.out.r2.rd
                subst hs2
                have H5 : Hid _ := HN.out.two
                have hll : l2 = wo l u := by rw [HL2.out, List.take_length]
                have hcnt : l2.length + 1 = l.length := by rw [hll]; exact HW2.out
                have hdne : ((l2.length : Int) != (l.length : Int) - 1) = false := by simp; omega
                have hl2n : l2.length ≤ l.length := by omega
                have HL2N : Hid _ := hl2n
                rw [← hll] at HO2
                clear hll hcnt hl2n
                have HLN : Hid (l2.length = l2.length ∧ l2.length ≤ i + 1) := by
                  have := HLI.out
                  have := HL2N.out
                  constructor
                  · rfl
                  · omega
                clear HL2 HN HYY
                go_wp2
                go_loop [12, 13, 14, 15] (fun s12 s13 s14 s15 => ∃ k : Nat, k ≤ l2.length ∧ s15 = .int .i64 k ∧ s12 = .int .i64 (carr 0 (l2.take k) : Int) ∧ s13 = .int .i64 (carr 1 (l2.take k) : Int) ∧ s14 = .int .i64 (gmin (l2.take k))) (fun _ _ _ s15 => l2.length - (intOf s15).toNat)
                case atStart => exact ⟨0, Nat.zero_le _, rfl, rfl, rfl, rfl⟩
                case round =>
                  obtain ⟨k, hk, rfl, rfl, rfl, rfl⟩ := hrel
                  have hN2 : l2.length ≤ 200 := by have := HLN.out; omega
                  by_cases hkN : k < l2.length
                  · have hkN' : (k : Int) < ((l2.length : Nat) : Int) := by omega
                    obtain ⟨q1, p1, q2, q3⟩ := H5.out.r1.rd
                    simp at q2
                    have q4 := q3.cells (i := k) (x := nthT l2 k) (by have := HLN.out; omega) rfl
                    obtain ⟨b1, o1, q5, hb1, x0, x1, x2, x3, x4, x5, x6, x7⟩ := q4
                    have q6 := q2.1.trans q5
                    clear q2 q3 q5
                    have hok := HO2.out.ok (nthT l2 k) (by have := HLN.out; rw [nthT, List.getD_eq_getElem?_getD, List.getElem?_eq_getElem (by omega)]; exact List.getElem_mem _)
                    have hck := take_succ' l2 k (by have := HLN.out; omega)
                    have ha0 := carr_app 0 (l2.take k) (nthT l2 k)
                    have ha1 := carr_app 1 (l2.take k) (nthT l2 k)
                    have hga := gmin_app (l2.take k) (nthT l2 k)
                    have hl0 := carr_le 0 (l2.take k)
                    have hl1 := carr_le 1 (l2.take k)
                    rw [List.length_take] at hl0 hl1
                    rw [← hck] at ha0 ha1 hga
                    obtain ⟨x, hx⟩ : ∃ x, nthT l2 k = x := ⟨_, rfl⟩
                    obtain ⟨n0, hn0⟩ : ∃ n0, carr 0 (l2.take k) = n0 := ⟨_, rfl⟩
                    obtain ⟨m0, hm0⟩ : ∃ m0, carr 1 (l2.take k) = m0 := ⟨_, rfl⟩
                    obtain ⟨g0, hg0⟩ : ∃ g0, gmin (l2.take k) = g0 := ⟨_, rfl⟩
                    rw [hx] at x0 x1 x2 x3 x4 x5 x6 x7 hok ha0 ha1 hga
                    rw [hn0] at ha0 hl0 ⊢
                    rw [hm0] at ha1 hl1 ⊢
                    rw [hg0] at hga ⊢
                    have hn1 : (n0 : Int) ≤ 200 := by omega
                    have hm1 : (m0 : Int) ≤ 200 := by omega
                    have HA0 : Hid _ := ha0
                    have HA1 : Hid _ := ha1
                    have HGA : Hid _ := hga
                    clear hck ha0 ha1 hga hl0 hl1 hx hn0 hm0 hg0
                    have hq : a2 = some ⟨b1, o1, none⟩ := by simpa using q6
                    subst hq
                    by_cases hk2 : x.k = 2
                    · have d1 : (x.k != 2) = false := by simpa using hk2
                      have i0 : isC 0 x = false := by simp [isC, d1]
                      have i1 : isC 1 x = false := by simp [isC, d1]
                      go_wp2
                      go_round
                      case rel => exact ⟨k + 1, by omega, by go_num, by rw [HA0.out, i0]; rfl, by rw [HA1.out, i1]; rfl, by rw [HGA.out, d1]; rfl⟩
                      case measure => simp [intOf]; omega
                    · have d1 : (x.k != 2) = true := by simpa using hk2
                      by_cases hc0 : x.co = 0
                      · have d2 : (x.co == 0) = true := by simpa using hc0
                        have i0 : isC 0 x = true := by simp [isC, d1, hc0]
                        have i1 : isC 1 x = false := by simp [isC, hc0]
                        go_wp2
                        go_round
                        case rel => exact ⟨k + 1, by omega, by go_num, by rw [HA0.out, i0]; go_num, by rw [HA1.out, i1]; rfl, by rw [HGA.out, d1]; rfl⟩
                        case measure => simp [intOf]; omega
                      · have d2 : (x.co == 0) = false := by simpa using hc0
                        have hc1 : x.co = 1 := (ok_co hok).resolve_left hc0
                        have i0 : isC 0 x = false := by simp [isC, d2]
                        have i1 : isC 1 x = true := by simp [isC, d1, hc1]
                        go_wp2
                        go_round
                        case rel => exact ⟨k + 1, by omega, by go_num, by rw [HA0.out, i0]; rfl, by rw [HA1.out, i1]; go_num, by rw [HGA.out, d1]; rfl⟩
                        case measure => simp [intOf]; omega
                  · obtain rfl : k = l2.length := by omega
                    have htk : l2.take (l2.length) = l2 := List.take_of_length_le (by have := HLN.out; omega)
                    rw [htk]
                    have C0 := Bd.carried H5.out HO2.out 0
                    have C1 : ∀ W, Bd w W 4 16 L' B (.slice a2 l2.length cp2) l2 (.slice none 0 0) [] → _ := fun W h => Bd.carried h HO2.out 1
                    have AL : ∀ W, Bd w W 4 16 L' B (.slice a2 l2.length cp2) l2 (.slice none 0 0) [] → _ := fun W h => Bd.all h HO2.out
                    have LE : ∀ W, Bd w W 4 16 L' B (.slice a2 l2.length cp2) l2 (.slice none 0 0) [] → _ := fun W h => Bd.least h
                    have hle := fun hg => HO2.out.least hg
                    obtain ⟨n0, hn0⟩ : ∃ n0, carr 0 l2 = n0 := ⟨_, rfl⟩
                    obtain ⟨m0, hm0⟩ : ∃ m0, carr 1 l2 = m0 := ⟨_, rfl⟩
                    obtain ⟨g0, hg0⟩ : ∃ g0, gmin l2 = g0 := ⟨_, rfl⟩
                    obtain ⟨s0, hs0⟩ : ∃ s0, lstI (tms (itms 4 L')) = s0 := ⟨_, rfl⟩
                    have hll : l2.length = l2.length := by have := HLN.out; omega
                    simp only [hn0, hm0, hg0, hs0] at C0 C1 AL LE hle ⊢
                    have HC1 : Hid _ := C1
                    have HAL : Hid _ := AL
                    have HLE : Hid _ := LE
                    clear C1 AL LE hn0 hm0 hg0 hs0 hll htk
                    have hfin : (s0 = g0) ∨ ((s0 != g0) = true ∧ decide (g0 ≤ 1099511627776) = false) := by
                      by_cases hg : g0 ≤ 1099511627776
                      · exact .inl (hle hg)
                      · by_cases he : s0 = g0
                        · exact .inl he
                        · exact .inr ⟨by simpa using he, by simpa using hg⟩
                    clear hle
                    rcases hfin with rfl | ⟨d1, d2⟩
                    · go_wp2_with (first | (go_at_call 22; first | (refine (Hid.out HC1 _ (Hid.out K1)).mono ?_; rintro e k2 ⟨rfl, h2⟩; have K2 : Hid _ := h2; clear h2 HC1) | (refine C0.mono ?_; rintro e k1 ⟨rfl, h1⟩; have K1 : Hid _ := h1; clear h1 C0)) | (go_at_call 20; refine (Hid.out HAL _ (Hid.out K2)).mono ?_; rintro e k3 ⟨rfl, h3⟩; have K3 : Hid _ := h3; clear h3 HAL) | (go_at_call 24; refine (Hid.out HLE _ (Hid.out K3)).mono ?_; rintro e k4 ⟨rfl, h4⟩; have K4 : Hid _ := h4; clear h4 HLE))
                      go_roundw
                      case rel => exact ⟨i + 1, L', l2, by go_num, by omega, by have := HLN.out; show _ ≤ _; omega, HO2.out, K4.out⟩
                      case measure => simp [intOf]; omega
                    · go_wp2_with (first | (go_at_call 22; first | (refine (Hid.out HC1 _ (Hid.out K1)).mono ?_; rintro e k2 ⟨rfl, h2⟩; have K2 : Hid _ := h2; clear h2 HC1) | (refine C0.mono ?_; rintro e k1 ⟨rfl, h1⟩; have K1 : Hid _ := h1; clear h1 C0)) | (go_at_call 20; refine (Hid.out HAL _ (Hid.out K2)).mono ?_; rintro e k3 ⟨rfl, h3⟩; have K3 : Hid _ := h3; clear h3 HAL) | (go_at_call 24; refine (Hid.out HLE _ (Hid.out K3)).mono ?_; rintro e k4 ⟨rfl, h4⟩; have K4 : Hid _ := h4; clear h4 HLE))
                      go_roundw
                      case rel => exact ⟨i + 1, L', l2, by go_num, by omega, by have := HLN.out; show _ ≤ _; omega, HO2.out, K4.out⟩
                      case measure => simp [intOf]; omega
        · have dk1 : (sk == 1) = false := by simpa using hk1
          have HO2 : Hid (On 4 L l ((i : Int) + 1)) := HO.out.up
          clear hk0 hk1 HO
          have HLN : Hid (l.length = l.length ∧ l.length ≤ i + 1) := by
            have := HLI.out
            constructor
            · rfl
            · omega
          obtain ⟨a1, cp1, hs5, _⟩ := HN.out.r1.rd
          subst hs5
          clear hy HX HN
          go_wp2
          go_loop [12, 13, 14, 15] (fun s12 s13 s14 s15 => ∃ k : Nat, k ≤ l.length ∧ s15 = .int .i64 k ∧ s12 = .int .i64 (carr 0 (l.take k) : Int) ∧ s13 = .int .i64 (carr 1 (l.take k) : Int) ∧ s14 = .int .i64 (gmin (l.take k))) (fun _ _ _ s15 => l.length - (intOf s15).toNat)
          case atStart => exact ⟨0, Nat.zero_le _, rfl, rfl, rfl, rfl⟩
          case round =>
            obtain ⟨k, hk, rfl, rfl, rfl, rfl⟩ := hrel
            have hN2 : l.length ≤ 200 := by have := HLN.out; omega
            by_cases hkN : k < l.length
            · have hkN' : (k : Int) < ((l.length : Nat) : Int) := by omega
              obtain ⟨q1, p1, q2, q3⟩ := HM.out.r1.rd
              simp at q2
              have q4 := q3.cells (i := k) (x := nthT l k) (by have := HLN.out; omega) rfl
              obtain ⟨b1, o1, q5, hb1, x0, x1, x2, x3, x4, x5, x6, x7⟩ := q4
              have q6 := q2.1.trans q5
              clear q2 q3 q5
              have hok := HO2.out.ok (nthT l k) (by have := HLN.out; rw [nthT, List.getD_eq_getElem?_getD, List.getElem?_eq_getElem (by omega)]; exact List.getElem_mem _)
              have hck := take_succ' l k (by have := HLN.out; omega)
              have ha0 := carr_app 0 (l.take k) (nthT l k)
              have ha1 := carr_app 1 (l.take k) (nthT l k)
              have hga := gmin_app (l.take k) (nthT l k)
              have hl0 := carr_le 0 (l.take k)
              have hl1 := carr_le 1 (l.take k)
              rw [List.length_take] at hl0 hl1
              rw [← hck] at ha0 ha1 hga
              obtain ⟨x, hx⟩ : ∃ x, nthT l k = x := ⟨_, rfl⟩
              obtain ⟨n0, hn0⟩ : ∃ n0, carr 0 (l.take k) = n0 := ⟨_, rfl⟩
              obtain ⟨m0, hm0⟩ : ∃ m0, carr 1 (l.take k) = m0 := ⟨_, rfl⟩
              obtain ⟨g0, hg0⟩ : ∃ g0, gmin (l.take k) = g0 := ⟨_, rfl⟩
              rw [hx] at x0 x1 x2 x3 x4 x5 x6 x7 hok ha0 ha1 hga
              rw [hn0] at ha0 hl0 ⊢
              rw [hm0] at ha1 hl1 ⊢
              rw [hg0] at hga ⊢
              have hn1 : (n0 : Int) ≤ 200 := by omega
              have hm1 : (m0 : Int) ≤ 200 := by omega
              have HA0 : Hid _ := ha0
              have HA1 : Hid _ := ha1
              have HGA : Hid _ := hga
              clear hck ha0 ha1 hga hl0 hl1 hx hn0 hm0 hg0
              have hq : a1 = some ⟨b1, o1, none⟩ := by simpa using q6
              subst hq
              by_cases hk2 : x.k = 2
              · have d1 : (x.k != 2) = false := by simpa using hk2
                have i0 : isC 0 x = false := by simp [isC, d1]
                have i1 : isC 1 x = false := by simp [isC, d1]
                go_wp2
                go_round
                case rel => exact ⟨k + 1, by omega, by go_num, by rw [HA0.out, i0]; rfl, by rw [HA1.out, i1]; rfl, by rw [HGA.out, d1]; rfl⟩
                case measure => simp [intOf]; omega
              · have d1 : (x.k != 2) = true := by simpa using hk2
                by_cases hc0 : x.co = 0
                · have d2 : (x.co == 0) = true := by simpa using hc0
                  have i0 : isC 0 x = true := by simp [isC, d1, hc0]
                  have i1 : isC 1 x = false := by simp [isC, hc0]
                  go_wp2
                  go_round
                  case rel => exact ⟨k + 1, by omega, by go_num, by rw [HA0.out, i0]; go_num, by rw [HA1.out, i1]; rfl, by rw [HGA.out, d1]; rfl⟩
                  case measure => simp [intOf]; omega
                · have d2 : (x.co == 0) = false := by simpa using hc0
                  have hc1 : x.co = 1 := (ok_co hok).resolve_left hc0
                  have i0 : isC 0 x = false := by simp [isC, d2]
                  have i1 : isC 1 x = true := by simp [isC, d1, hc1]
                  go_wp2
                  go_round
                  case rel => exact ⟨k + 1, by omega, by go_num, by rw [HA0.out, i0]; rfl, by rw [HA1.out, i1]; go_num, by rw [HGA.out, d1]; rfl⟩
                  case measure => simp [intOf]; omega
            · obtain rfl : k = l.length := by omega
              have htk : l.take (l.length) = l := List.take_of_length_le (by have := HLN.out; omega)
              rw [htk]
              have C0 := Bd.carried HM.out HO2.out 0
              have C1 : ∀ W, Bd w W 4 16 L B (.slice a1 l.length cp1) l (.slice none 0 0) [] → _ := fun W h => Bd.carried h HO2.out 1
              have AL : ∀ W, Bd w W 4 16 L B (.slice a1 l.length cp1) l (.slice none 0 0) [] → _ := fun W h => Bd.all h HO2.out
              have LE : ∀ W, Bd w W 4 16 L B (.slice a1 l.length cp1) l (.slice none 0 0) [] → _ := fun W h => Bd.least h
              have hle := fun hg => HO2.out.least hg
              obtain ⟨n0, hn0⟩ : ∃ n0, carr 0 l = n0 := ⟨_, rfl⟩
              obtain ⟨m0, hm0⟩ : ∃ m0, carr 1 l = m0 := ⟨_, rfl⟩
              obtain ⟨g0, hg0⟩ : ∃ g0, gmin l = g0 := ⟨_, rfl⟩
              obtain ⟨s0, hs0⟩ : ∃ s0, lstI (tms (itms 4 L)) = s0 := ⟨_, rfl⟩
              have hll : l.length = l.length := by have := HLN.out; omega
              simp only [hn0, hm0, hg0, hs0] at C0 C1 AL LE hle ⊢
              have HC1 : Hid _ := C1
              have HAL : Hid _ := AL
              have HLE : Hid _ := LE
              clear C1 AL LE hn0 hm0 hg0 hs0 hll htk
              have hfin : (s0 = g0) ∨ ((s0 != g0) = true ∧ decide (g0 ≤ 1099511627776) = false) := by
                by_cases hg : g0 ≤ 1099511627776
                · exact .inl (hle hg)
                · by_cases he : s0 = g0
                  · exact .inl he
                  · exact .inr ⟨by simpa using he, by simpa using hg⟩
              clear hle
              rcases hfin with rfl | ⟨d1, d2⟩
              · go_wp2_with (first | (go_at_call 22; first | (refine (Hid.out HC1 _ (Hid.out K1)).mono ?_; rintro e k2 ⟨rfl, h2⟩; have K2 : Hid _ := h2; clear h2 HC1) | (refine C0.mono ?_; rintro e k1 ⟨rfl, h1⟩; have K1 : Hid _ := h1; clear h1 C0)) | (go_at_call 20; refine (Hid.out HAL _ (Hid.out K2)).mono ?_; rintro e k3 ⟨rfl, h3⟩; have K3 : Hid _ := h3; clear h3 HAL) | (go_at_call 24; refine (Hid.out HLE _ (Hid.out K3)).mono ?_; rintro e k4 ⟨rfl, h4⟩; have K4 : Hid _ := h4; clear h4 HLE))
                go_roundw
                case rel => exact ⟨i + 1, L, l, by go_num, by omega, by have := HLN.out; show _ ≤ _; omega, HO2.out, K4.out⟩
                case measure => simp [intOf]; omega
              · go_wp2_with (first | (go_at_call 22; first | (refine (Hid.out HC1 _ (Hid.out K1)).mono ?_; rintro e k2 ⟨rfl, h2⟩; have K2 : Hid _ := h2; clear h2 HC1) | (refine C0.mono ?_; rintro e k1 ⟨rfl, h1⟩; have K1 : Hid _ := h1; clear h1 C0)) | (go_at_call 20; refine (Hid.out HAL _ (Hid.out K2)).mono ?_; rintro e k3 ⟨rfl, h3⟩; have K3 : Hid _ := h3; clear h3 HAL) | (go_at_call 24; refine (Hid.out HLE _ (Hid.out K3)).mono ?_; rintro e k4 ⟨rfl, h4⟩; have K4 : Hid _ := h4; clear h4 HLE))
                go_roundw
                case rel => exact ⟨i + 1, L, l, by go_num, by omega, by have := HLN.out; show _ ≤ _; omega, HO2.out, K4.out⟩
                case measure => simp [intOf]; omega
    · obtain rfl : i = z.length := by omega
      have SX : Calls Try.prog 10 #[.pointer (some ⟨B, 0, none⟩), .int .i64 0, .int .i64 0, .agg #[.int .i64 0, .int .i64 0, .int .i64 0, .int .i64 0, .int .i64 0, .int .i64 0, .int .i64 0, .int .i64 0]] wr fun e w' => e = .returned (.int .i64 1) ∧ Below w.heap.size w w' :=
        (Bd.send HN.out 0 0 it0).mono fun e w' ⟨he, hn, _⟩ => ⟨by rw [he, snd_no], hn.net.bel⟩
      go_wp2_with (go_at_call 10; refine SX.mono ?_; rintro e w7 ⟨rfl, h7⟩; have H7 : Hid _ := h7; clear h7 SX)
      go_ret
      exact ⟨rfl, H7.out⟩
end Go.Proofs.Ytkngokpildoljaa
