/- Proved: the walk of CutBelow. -/
import Derived.Test.YtdfjmnckgcpmgaaLbw
import Derived.Test.YtdfjmnckgcpmgaaWWa
namespace Go.Proofs.Ytdfjmnckgcpmgaa
open Go.RowKit Go.Shelf
open K (H J Cu begC begE senC senE senK gotC gotE turC turE repC repE okT set_getD)
set_option linter.unusedVariables false

theorem at_ge {n : Nat} {m v : Int} {c : Cu} {p : List Int} {l : List H} (h : J n m c p l) (hv : c.v = v) {j : Nat} (hj : j < n) : ¬ p.getD j 0 < v := by
  have := h.vp _ (K.mem_getD (d := 0) (by rw [h.lp]; exact hj))
  omega
theorem on_ge {n : Nat} {m v : Int} {c : Cu} {p : List Int} {l : List H} (h : J n m c p l) (hv : c.v = v) {j : Nat} (hj : j < l.length) {x : H} (hx : l.getD j (0, 0, 0) = x) : ¬ x.2.1 < v := by
  have := h.vh _ (K.mem_getD (d := ((0, 0, 0) : H)) hj)
  rw [hx] at this
  omega
theorem sen_col (c : Cu) (i t j : Int) : K.colE (senC c i t) j = K.colE c j := by
  have e : (senC c i t).co = c.co := by
    unfold K.senC
    have := (K.addOn_rest c (K.col c i) 1).1
    split
    · dsimp only
      split
      · exact this
      · exact this
    · rfl
  unfold K.colE K.isP K.col
  rw [e]
theorem own_cells {W : World} {oa : Option Addr} {oc : Nat} {l : List H} (h : OwR cH 51 W (.slice oa l.length oc) l) {j : Nat} (hj : j < l.length) {x : H} (hx : l.getD j (0, 0, 0) = x) :
    ∃ g, oa = some ⟨g, 0, none⟩ ∧ g < W.heap.size ∧ l.length ≤ oc ∧ oc ≤ maxLen ∧ ∀ W2, OwR cH 51 W2 (.slice oa l.length oc) l → W2.cell? ⟨g, j * 3, none⟩ = some (.int .i64 x.1) ∧ W2.cell? ⟨g, j * 3 + 1, none⟩ = some (.int .i64 x.2.1) ∧ W2.cell? ⟨g, j * 3 + 2, none⟩ = some (.int .i64 x.2.2) := by
  rcases h.2 with ⟨e, _⟩ | ⟨g, cap, cur, e, _, hg, hlc, hcm, _⟩
  · simp at e
    omega
  · simp at e
    obtain ⟨rfl, rfl⟩ := e
    refine ⟨g, rfl, (Array.getElem?_eq_some_iff.1 hg).1, hlc, hcm, fun W2 h2 => ?_⟩
    obtain ⟨b, off, e, _, _, y0, y1, y2⟩ := held h2.look.2 hj hx
    simp at e
    obtain ⟨rfl, rfl⟩ := e
    rw [Nat.zero_add] at y0 y1 y2
    exact ⟨y0, y1, y2⟩
theorem own_parts {W : World} {g oc : Nat} {l : List H} (h : OwR cH 51 W (.slice (some ⟨g, 0, none⟩) l.length oc) l) {f : Nat} (hf : f < l.length) :
    RdN cH (fun _ => True) W (if oc = f + 1 then (some ⟨g, 0, none⟩ : Option Addr) else some ⟨g, (f + 1) * 3, none⟩) (l.drop (f + 1)) ∧ RdN cH (fun _ => True) W (some ⟨g, 0, none⟩) (l.take f) := by
  have hr : RdN cH (fun _ => True) W (some ⟨g, 0, none⟩) l := h.look.2.wide (fun _ _ _ => trivial)
  have hlc : l.length ≤ oc := h.block.2.choose_spec.2.1
  refine ⟨?_, ?_⟩
  · split
    · rw [List.drop_of_length_le (by omega)]
      exact RdN.nil _ _ _ _
    · have := hr.part (f + 1) (l.length - (f + 1))
      rw [List.take_of_length_le (by rw [List.length_drop]; exact Nat.le_refl _), Nat.zero_add] at this
      exact this
  · have := hr.part 0 f
    simpa using this
theorem hear_at {n : Nat} {i : Nat} {c : Cu} {p : List Int} {l : List H} (h : J n (255 * (i : Int)) c p l) {b : Nat} (hb : b < n) {j : Nat} (hj : j < l.length) {x : H} (hx : l.getD j (0, 0, 0) = x) :
    gotE c b x.2.2 = 0 ∧ J n (255 * ((i + 1 : Nat) : Int)) (gotC c b x.2.2) (p.set b (min (p.getD b 0) x.2.1)) (l.take j ++ l.drop (j + 1)) := by
  have e : l = l.take j ++ x :: l.drop (j + 1) := by
    have : x = l[j] := by rw [← hx]; simp [hj]
    rw [this, ← List.drop_eq_getElem_cons hj, List.take_append_drop]
  rw [e] at h
  obtain ⟨h1, h2⟩ := h.hear hb
  exact ⟨h1, h2.wide (by omega)⟩
theorem rem_two {n : Nat} (h1 : 1 ≤ n) (h8 : n ≤ 8) (x : Int) : ∃ (q : Int) (a : Nat), x.tmod (n : Int) = q ∧ -(n : Int) < q ∧ q < n ∧ (q + n) % (n : Int) = a ∧ a < n := by
  refine ⟨x.tmod n, ((x.tmod n + n) % (n : Int)).toNat, rfl, Int.lt_tmod_of_pos x (by omega), Int.tmod_lt_of_pos x (by omega), ?_, ?_⟩
  · have := Int.emod_nonneg (x.tmod n + n) (b := (n : Int)) (by omega)
    omega
  · have := Int.emod_lt_of_pos (x.tmod n + n) (b := (n : Int)) (by omega)
    have := Int.emod_nonneg (x.tmod n + n) (b := (n : Int)) (by omega)
    omega
set_option maxRecDepth 100000 in
set_option maxHeartbeats 8000000 in
theorem below_walk (w : World) (x : Int) (sa : Option Addr) (sc : Nat) (z : List Ac) (hx : 0 ≤ x ∧ x ≤ 255) (hz : RdA w sa z) (hl : z.length ≤ maxLen) :
    Calls Try.prog 4 #[.int .u8 x, .slice sa z.length sc] w fun e w' => e = .returned (.bool true) ∧ Below w.heap.size w w' := by
  unfold maxLen at hl
  obtain ⟨x0, x1⟩ := hx
  have HZ : Hid (RdA w sa z) := hz
  obtain ⟨L, hL⟩ : ∃ L, z.length = L := ⟨_, rfl⟩
  rw [hL] at hl ⊢
  have HLZ : Hid (z.length = L) := hL
  clear hz hL
  by_cases hlong : 300 < L
  · have hl' : (300 : Int) < (L : Int) := by omega
    go_enter Try.func4, Try.ntmps4
    go_wp2
    go_ret
    exact ⟨rfl, Below.refl _ _⟩
  have hl' : ¬ (300 : Int) < (L : Int) := by omega
  have hL3 : L ≤ 300 := by omega
  obtain ⟨n, hn⟩ : ∃ n : Nat, 1 + x % 8 = n := ⟨(1 + x % 8).toNat, by omega⟩
  have hn1 : 1 ≤ n := by omega
  have hn8 : n ≤ 8 := by omega
  have hnI : 1 ≤ (n : Int) := by omega
  have hnI8 : (n : Int) ≤ 8 := by omega
  have NW := C1.new w n hn1 hn8
  obtain ⟨b, hb⟩ : ∃ b, w.heap.size = b := ⟨_, rfl⟩
  rw [hb] at NW
  have HBE : Hid (w.heap.size = b) := hb
  clear hb hlong
  go_enter Try.func4, Try.ntmps4
  go_wp2_with (go_at_call 8; refine NW.mono ?_; rintro e w1 ⟨rfl, h1⟩; obtain ⟨cs, hcs, mk⟩ := make_i w1 n hn8; have H1 : Hid _ := h1; have HCS : Hid _ := hcs; clear h1 hcs NW)
  have H2 : Hid (BW w b w1.heap.size n 0 (K.new n) (List.replicate n 0) [] (.slice (some ⟨(w1.alloc (.cells cs 3)).heap.size, 0, none⟩) 0 0) ((w1.alloc (.cells cs 3)).alloc (.cells #[] 51))) := by
    have g1 := H1.out.pt.lt
    have g2 := H1.out.bel.size
    refine ⟨(H1.out.on (al _ _)).on (al _ _), ((Rv.new w1 n (fun _ => .int .i64 0) cs 3 HCS.out).below (al _ _)).same (fun i hi => by simp [hi]), OwR.made _ _ _, by omega, by omega, fun g e => ?_⟩
    simp [Value.ownBlock] at e
    omega
  obtain ⟨ab, hab⟩ : ∃ ab, w1.heap.size = ab := ⟨_, rfl⟩
  obtain ⟨W2, hW2⟩ : ∃ W2, (w1.alloc (.cells cs 3)).alloc (.cells #[] 51) = W2 := ⟨_, rfl⟩
  simp only [World.size_alloc, hab, hW2] at H2 ⊢
  obtain ⟨ob0, hob0⟩ : ∃ ob0, ab + 1 = ob0 := ⟨_, rfl⟩
  simp only [hob0] at H2 ⊢
  clear hab hW2 hob0 mk HCS H1
  go_loopw [9, 10, 11] (fun s9 s10 s11 wr => ∃ (i : Nat) (c : Cu) (p : List Int) (l : List H) (oa : Option Addr) (oc : Nat) (v : Int), s11 = .int .i64 i ∧ i ≤ L ∧ s9 = .slice oa l.length oc ∧ s10 = .int .i64 v ∧ Hid (BW w b ab n i c p l (.slice oa l.length oc) wr) ∧ Hid (J n (255 * (i : Int)) c p l) ∧ Hid (c.v = v) ∧ Hid (l.length ≤ i)) (fun _ _ s11 _ => L - (intOf s11).toNat)
  case atStart => exact ⟨0, K.new n, List.replicate n 0, [], some ⟨ob0, 0, none⟩, 0, 0, rfl, Nat.zero_le _, rfl, rfl, H2.out, J.start n hn1, (rfl : (K.new n).v = 0), (Nat.zero_le _ : ([] : List H).length ≤ 0)⟩
  case round =>
    obtain ⟨i, c, p, l, oa, oc, v, rfl, hi, rfl, rfl, HB, HJ, HV, HLEN⟩ := hrel
    by_cases hlt : i < L
    · have hlt' : (i : Int) < (L : Int) := by omega
      have hiL : i < z.length := by rw [HLZ.out]; exact hlt
      obtain ⟨s, hs⟩ : ∃ s, nthA z i = s := ⟨_, rfl⟩
      obtain ⟨la0, la1, xb, off, rfl, hxb, hcs⟩ := RdA.cells HZ.out hiL hs
      obtain ⟨c0, c1, c2, c3⟩ := hcs _ HB.out.bel
      obtain ⟨qa, a, eqa, qa0, qa1, ea, han⟩ := rem_two hn1 hn8 s.a
      obtain ⟨qb, bb, eqb, qb0, qb1, eb, hbn⟩ := rem_two hn1 hn8 s.b
      have han' : (a : Int) < (n : Int) := by omega
      have hbn' : (bb : Int) < (n : Int) := by omega
      have HXA0 := HJ.out.hi _ (K.mem_getD (d := 0) (by rw [HJ.out.lp]; exact han))
      have HXA1 := HJ.out.vp _ (K.mem_getD (d := 0) (by rw [HJ.out.lp]; exact han))
      have HXA2 := HJ.out.v0
      obtain ⟨xa, hxa⟩ : ∃ xa, p.getD a 0 = xa := ⟨_, rfl⟩
      rw [hxa] at HXA0 HXA1
      have HXA : Hid (p.getD a 0 = xa) := hxa
      have xa0 : 0 ≤ xa := by omega
      have xa1 : xa ≤ 255 * (i : Int) := HXA0
      have HB0 : Hid (BW w b ab n i c p l (.slice oa l.length oc) (wr.alloc (.cells #[.int .i64 s.k, .int .i64 s.a, .int .i64 s.b, .int .u8 s.la] 49))) := HB.out.on (al _ _)
      obtain ⟨r0, hr0⟩ : ∃ r0, c.r = r0 := ⟨_, rfl⟩
      have HR0 : Hid (c.r = r0) := hr0
      have R0 := HB0.out.cut.rounds
      rw [hr0] at R0
      have e0 := cellB (newB wr (.cells #[.int .i64 s.k, .int .i64 s.a, .int .i64 s.b, .int .u8 s.la] 49)) 0
      have e1 := cellB (newB wr (.cells #[.int .i64 s.k, .int .i64 s.a, .int .i64 s.b, .int .u8 s.la] 49)) 1
      have e2 := cellB (newB wr (.cells #[.int .i64 s.k, .int .i64 s.a, .int .i64 s.b, .int .u8 s.la] 49)) 2
      have e3 := cellB (newB wr (.cells #[.int .i64 s.k, .int .i64 s.a, .int .i64 s.b, .int .u8 s.la] 49)) 3
      obtain ⟨W0, hW0⟩ : ∃ W0, wr.alloc (.cells #[.int .i64 s.k, .int .i64 s.a, .int .i64 s.b, .int .u8 s.la] 49) = W0 := ⟨_, rfl⟩
      rw [hW0] at HB0 R0 e0 e1 e2 e3
      obtain ⟨ob, hob⟩ : ∃ ob, wr.heap.size = ob := ⟨_, rfl⟩
      rw [hob] at e0 e1 e2 e3
      simp only [List.getElem?_toArray, List.getElem?_cons_zero, List.getElem?_cons_succ] at e0 e1 e2 e3
      clear hcs hs hxa HXA0 HXA1 HXA2 hr0
      by_cases hk0 : s.k = 0
      · have dk0 : (s.k == 0) = true := by simpa using hk0
        clear hk0
        as_aux_lemma =>
          have hrow := HB0.out.row.at han rfl
          rw [HXA.out] at hrow
          obtain ⟨t, ht⟩ : ∃ t, xa + s.la = t := ⟨_, rfl⟩
          have ht0 : 0 ≤ t := by omega
          have ht1 : t ≤ 100000 := by omega
          have hwt : IntKind.i64.wrap t = t := by rw [IntKind.wrap_i64]; omega
          have SJ := (HJ.out.wide (m' := 255 * ((i + 1 : Nat) : Int)) (by omega)).send han (bb : Int) (t := t) (by rw [HXA.out]; omega) (by omega) (by omega)
          obtain ⟨SJ1, SJ2, SJ3⟩ := SJ
          have eCol : K.colE (senC c a t) a = senK c a t := by rw [sen_col, SJ2]
          have HS : Hid (∀ W, BW w b ab n i c p l (.slice oa l.length oc) W → Calls Try.prog 12 #[pp b, .int .i64 (a : Int), .int .i64 t] W fun e w' => e = .returned (.tuple #[.int .i64 (senK c a t), .int .i64 0]) ∧ BW w b ab n (i + 1) (senC c a t) p l (.slice oa l.length oc) w') := fun W h => by
            have := h.sent (by omega) a t
            rw [SJ1] at this
            exact this
          have hv0 : (senC c a t).v = v := by rw [K.sen_v]; exact HV.out
          obtain ⟨c', hc'⟩ : ∃ c', senC c a t = c' := ⟨_, rfl⟩
          obtain ⟨q, hq⟩ : ∃ q, senK c a t = q := ⟨_, rfl⟩
          rw [hc', hq] at HS SJ3 eCol
          rw [hc'] at hv0
          obtain ⟨Y, hY⟩ : ∃ Y, l ++ [((bb : Int), t, q)] = Y := ⟨_, rfl⟩
          rw [hY] at SJ3
          have HYL : Hid (Y.length = l.length + 1) := by rw [← hY]; show (l ++ [((bb : Int), t, q)]).length = l.length + 1; simp
          have HYE : Hid (l ++ [((bb : Int), t, q)] = Y) := hY
          have HJ2 : Hid (J n (255 * ((i + 1 : Nat) : Int)) c' p Y) := SJ3
          have HEC : Hid (K.colE c' a = q) := eCol
          have HVC : Hid (c'.v = v) := hv0
          have HB1 : Hid (∀ n1, BW w b ab n i c p l (.slice oa l.length oc) (W0.drewN n1)) := fun n1 => HB0.out.on ⟨rfl, rfl, rfl, Nat.le_refl _, fun _ _ => rfl⟩
          clear SJ1 SJ2 SJ3 eCol hc' hq hY hv0
          go_wp2_with (go_at_call 21; refine R0.mono ?_; rintro e w' ⟨rfl, rfl⟩)
          go_quiet (fail)
          go_wp2_with (first
            | (go_at_call 12; refine (Hid.out HS _ (Hid.out HB1 _)).mono ?_; rintro e w2 ⟨rfl, h2⟩; have C2 := h2.cut.colour a; rw [HEC.out] at C2; have H2 : Hid _ := h2; clear h2)
            | (go_at_call 23; refine C2.mono ?_; rintro e w' ⟨rfl, rfl⟩)
            | (at_builtin; refine wpList_append_R tyH (fun _ => True) _ rfl (.tmp 101) (.tmp 106) rfl (.slice oa l.length oc) _ _ l [((bb : Int), t, q)] rfl rfl ((Hid.out H2).own.below (al _ _)) (RdN.newAt cH _ _ _ _ _ (by simp) rfl trivial) (by have := HLEN.out; omega) (by simp) Y HYE.out ?_; intro oa' oc' w3 ho hm; have H3 : Hid (BW w b ab n (i + 1) c' p Y (.slice oa' Y.length oc') w3) := ((Hid.out H2).on (al _ _)).app ho hm; clear ho hm))
          have hv := HVC.out

          have V1 := H3.out.cut.value
          rw [hv] at V1
          go_wp2_with (go_at_call 20; refine V1.mono ?_; rintro e w' ⟨rfl, rfl⟩)
          have HVV : Hid (c'.v = v) := hv
          have hl4 : Y.length ≤ 400 := by have := HLEN.out; have := HYL.out; omega
          clear hv V1
          go_loopw [22] (fun s22 wr => ∃ j : Nat, s22 = .int .i64 j ∧ j ≤ n ∧ Hid (BW w b ab n (i + 1) c' p Y (.slice oa' Y.length oc') wr)) (fun s22 _ => n - (intOf s22).toNat)
          case atStart => exact ⟨0, rfl, Nat.zero_le _, H3.out⟩
          case round =>
            obtain ⟨j, rfl, hj, HT⟩ := hrel
            by_cases hltj : j < n
            · have hltj' : (j : Int) < (n : Int) := by omega
              have cj := HT.out.row.at hltj rfl
              have hx := at_ge HJ2.out HVV.out hltj
              generalize p.getD j 0 = x at cj hx
              go_wp2_with fail
              go_roundw
              case rel => exact ⟨j + 1, by go_num, by omega, HT.out⟩
              case measure => simp [intOf]; omega
            · obtain rfl : j = n := by omega
              go_wp2_with fail
              go_loopw [23] (fun s23 wr => ∃ q : Nat, s23 = .int .i64 q ∧ q ≤ Y.length ∧ Hid (BW w b ab j (i + 1) c' p Y (.slice oa' Y.length oc') wr)) (fun s23 _ => Y.length - (intOf s23).toNat)
              case atStart => exact ⟨0, rfl, Nat.zero_le _, HT.out⟩
              case round =>
                obtain ⟨q, rfl, hq, HU⟩ := hrel
                by_cases hltq : q < Y.length
                · have hltq' : (q : Int) < (Y.length : Int) := by omega
                  obtain ⟨x, hx⟩ : ∃ x, Y.getD q (0, 0, 0) = x := ⟨_, rfl⟩
                  obtain ⟨g, off, eo, hg, _, y0, y1, y2⟩ := held HU.out.own.look.2 hltq hx
                  have hxv := on_ge HJ2.out HVV.out hltq hx
                  obtain ⟨x1, x2, x3⟩ := x
                  clear hx
                  subst eo
                  go_wp2_with fail
                  go_roundw
                  case rel => exact ⟨q + 1, by go_num, by omega, HU.out⟩
                  case measure => simp [intOf]; omega
                · have eq1 : q = Y.length := by omega
                  subst eq1
                  go_wp2_with fail
                  go_roundw
                  case rel => exact ⟨i + 1, c', p, Y, oa', oc', v, by go_num, by omega, rfl, rfl, HU.out.wide (by omega), HJ2.out, HVV.out, (by have := HLEN.out; have := HYL.out; omega : Y.length ≤ i + 1)⟩
                  case measure => simp [intOf]; omega
      have dk0 : (s.k == 0) = false := by simpa using hk0
      by_cases hk1 : s.k = 1
      · have dk1 : (s.k == 1) = true := by simpa using hk1
        clear hk0 hk1
        as_aux_lemma =>
          have hl3 : l.length ≤ 400 := by have := HLEN.out; omega
          go_wp2_with (go_at_call 21; refine R0.mono ?_; rintro e w' ⟨rfl, rfl⟩)
          clear e0 e1 e2 e3 hob c0 c1 c2 c3
          go_loopw [19] (fun s19 wr => ∃ j : Nat, s19 = .int .i64 j ∧ j ≤ l.length ∧ Hid (BW w b ab n i c p l (.slice oa l.length oc) wr)) (fun s19 _ => l.length - (intOf s19).toNat)
          case atStart => exact ⟨0, rfl, Nat.zero_le _, HB0.out⟩
          case round =>
            obtain ⟨f, rfl, hf, HF⟩ := hrel
            by_cases hltf : f < l.length
            · have hltf' : (f : Int) < (l.length : Int) := by omega
              obtain ⟨x, hx⟩ : ∃ x, l.getD f (0, 0, 0) = x := ⟨_, rfl⟩
              have HX : Hid (l.getD f (0, 0, 0) = x) := hx
              obtain ⟨g, eo, hg, hoc, hoc2, hcs⟩ := own_cells HF.out.own hltf hx
              obtain ⟨y0, y1, y2⟩ := hcs wr HF.out.own
              by_cases hto : x.1 = (bb : Int)
              · have d1 : (x.1 != (bb : Int)) = false := by simpa using hto
                have HE := hear_at HJ.out hbn hltf hx (i := i)
                obtain ⟨HE1, HE2⟩ := HE
                obtain ⟨xb, hxb⟩ : ∃ xb, p.getD bb 0 = xb := ⟨_, rfl⟩
                rw [hxb] at HE2
                obtain ⟨x1, x2, x3⟩ := x
                simp only at y0 y1 y2 d1 HE1 HE2 hcs
                obtain ⟨mn, hmn⟩ : ∃ mn, min xb x2 = mn := ⟨_, rfl⟩
                rw [hmn] at HE2
                have G1 := HF.out.got (by omega) bb x3
                rw [HE1] at G1
                have hv0 : (gotC c bb x3).v = v := by rw [K.got_v]; exact HV.out
                obtain ⟨c', hc'⟩ : ∃ c', gotC c bb x3 = c' := ⟨_, rfl⟩
                rw [hc'] at G1 HE2 hv0
                obtain ⟨p', hp'⟩ : ∃ p', p.set bb mn = p' := ⟨_, rfl⟩
                obtain ⟨Y1, hY1⟩ : ∃ Y1, l.take f = Y1 := ⟨_, rfl⟩
                obtain ⟨Y2, hY2⟩ : ∃ Y2, l.drop (f + 1) = Y2 := ⟨_, rfl⟩
                obtain ⟨Y, hY⟩ : ∃ Y, Y1 ++ Y2 = Y := ⟨_, rfl⟩
                have HY1 : Hid (l.take f = Y1 ∧ Y1.length = f) := ⟨hY1, by rw [← hY1, List.length_take]; omega⟩
                have HY2 : Hid (l.drop (f + 1) = Y2 ∧ Y2.length = l.length - (f + 1)) := ⟨hY2, by rw [← hY2, List.length_drop]⟩
                have HYE : Hid (Y1 ++ Y2 = Y ∧ Y.length ≤ l.length) := ⟨hY, by rw [← hY, List.length_append, HY1.out.2, HY2.out.2]; omega⟩
                rw [hp', hY1, hY2, hY] at HE2
                have HJ2 : Hid (J n (255 * ((i + 1 : Nat) : Int)) c' p' Y) := HE2
                have HVC : Hid (c'.v = v) := hv0
                have HPL : Hid (p.length = n) := HJ.out.lp
                have HP : Hid (p.set bb mn = p' ∧ p.getD bb 0 = xb) := ⟨hp', hxb⟩
                have HCS : Hid _ := hcs
                obtain ⟨sA, hsA⟩ : ∃ sA, (if oc = f + 1 then (some ⟨g, 0, none⟩ : Option Addr) else some ⟨g, (f + 1) * 3, none⟩) = sA := ⟨_, rfl⟩
                have HSA : Hid (∀ W, OwR cH 51 W (.slice oa l.length oc) l → RdN cH (fun _ => True) W sA Y2 ∧ RdN cH (fun _ => True) W (some ⟨g, 0, none⟩) Y1) := fun W ho => by
                  rw [← hsA, ← hY1, ← hY2]
                  rw [eo] at ho
                  exact own_parts ho hltf
                clear hx hxb hcs hc' hp' hY1 hY2 hY hv0 HE1 HE2
                subst eo
                go_wp2_with (go_at_call 14; refine G1.mono ?_; rintro e w2 ⟨rfl, h2⟩; obtain ⟨y0, y1, y2⟩ := HCS.out w2 h2.own; have rb := h2.row.at hbn rfl; rw [HP.out.2] at rb; have rf := (h2.row.c bb hbn).2; have H2 : Hid _ := h2; clear h2 G1)
                have H3 : Hid (BW w b ab n i c' p' l (.slice (some ⟨g, 0, none⟩) l.length oc) (w2.setCell ⟨ab, bb, none⟩ (.int .i64 mn)).drew) := by
                  have := (H2.out.put (i := bb) (by rw [HPL.out]; exact hbn) mn).on (W2 := (w2.setCell ⟨ab, bb, none⟩ (.int .i64 mn)).drew) ⟨rfl, rfl, rfl, Nat.le_refl _, fun _ _ => rfl⟩
                  rw [HP.out.1] at this
                  exact this
                go_region
                obtain ⟨W3, hW3⟩ : ∃ W3, (w2.setCell ⟨ab, bb, none⟩ (.int .i64 mn)).drew = W3 := ⟨_, rfl⟩
                rw [hW3] at H3 ⊢
                clear hW3 y0 y1 y2 rb rf
                have HX0 : Hid _ := BX.start H3.out
                obtain ⟨rb0, hrb0⟩ : ∃ rb0, W3.heap.size = rb0 := ⟨_, rfl⟩
                rw [hrb0] at HX0
                have hf1 : ((f : Int) + 1) ≤ (l.length : Int) := by omega
                have hfo : (f : Int) ≤ (oc : Int) := by omega
                have hfo1 : (f : Int) + 1 ≤ (oc : Int) := by omega
                have hlo : (l.length : Int) ≤ (oc : Int) := by omega
                go_wp2_with (first
                  | (at_builtin; refine wpList_append_R tyH (fun _ => True) _ rfl (.tmp 157) (.tmp 161) rfl (.slice a1 Y1.length c1) sA (oc - (f + 1)) Y1 Y2 rfl (by rw [HY2.out.2]; rfl) (Hid.out HX1).own (HSA.out _ (Hid.out HX1).bw.own).1 (by rw [HY1.out.2]; omega) (by rw [HY2.out.2]; omega) Y HYE.out.1 ?_; intro oa' oc' w5 ho hm; have HX2 : Hid _ := BX.app (Hid.out HX1) ho hm; clear ho hm)
                  | (at_builtin; refine wpList_append_R tyH (fun _ => True) _ rfl (.tmp 152) (.tmp 155) rfl (.slice (some ⟨rb0, 0, none⟩) 0 0) (some ⟨g, 0, none⟩) oc [] Y1 rfl (by rw [HY1.out.2]; rfl) (Hid.out HX0).own (HSA.out _ (Hid.out HX0).bw.own).2 (by simp) (by rw [HY1.out.2]; omega) Y1 rfl ?_; intro a1 c1 w4 ho hm; have HX1 : Hid _ := BX.app (Hid.out HX0) ho hm; clear ho hm))
                have H4 : Hid (BW w b ab n i c' p' Y (.slice oa' Y.length oc') w5) := HX2.out.fin
                have hv := HVC.out
                have V1 := H4.out.cut.value
                rw [hv] at V1
                go_wp2_with (go_at_call 20; refine V1.mono ?_; rintro e w' ⟨rfl, rfl⟩)
                have HVV : Hid (c'.v = v) := hv
                have hl4 : Y.length ≤ 400 := by have := HLEN.out; have := HYE.out.2; omega
                clear hv V1
                go_loopw [22] (fun s22 wr => ∃ j : Nat, s22 = .int .i64 j ∧ j ≤ n ∧ Hid (BW w b ab n i c' p' Y (.slice oa' Y.length oc') wr)) (fun s22 _ => n - (intOf s22).toNat)
                case atStart => exact ⟨0, rfl, Nat.zero_le _, H4.out⟩
                case round =>
                  obtain ⟨j, rfl, hj, HT⟩ := hrel
                  by_cases hltj : j < n
                  · have hltj' : (j : Int) < (n : Int) := by omega
                    have cj := HT.out.row.at hltj rfl
                    have hx := at_ge HJ2.out HVV.out hltj
                    generalize p'.getD j 0 = x at cj hx
                    go_wp2_with fail
                    go_roundw
                    case rel => exact ⟨j + 1, by go_num, by omega, HT.out⟩
                    case measure => simp [intOf]; omega
                  · obtain rfl : j = n := by omega
                    go_wp2_with fail
                    go_loopw [23] (fun s23 wr => ∃ q : Nat, s23 = .int .i64 q ∧ q ≤ Y.length ∧ Hid (BW w b ab j i c' p' Y (.slice oa' Y.length oc') wr)) (fun s23 _ => Y.length - (intOf s23).toNat)
                    case atStart => exact ⟨0, rfl, Nat.zero_le _, HT.out⟩
                    case round =>
                      obtain ⟨q, rfl, hq, HU⟩ := hrel
                      by_cases hltq : q < Y.length
                      · have hltq' : (q : Int) < (Y.length : Int) := by omega
                        obtain ⟨x, hx⟩ : ∃ x, Y.getD q (0, 0, 0) = x := ⟨_, rfl⟩
                        obtain ⟨g, off, eo, hg, _, y0, y1, y2⟩ := held HU.out.own.look.2 hltq hx
                        have hxv := on_ge HJ2.out HVV.out hltq hx
                        obtain ⟨x1, x2, x3⟩ := x
                        clear hx
                        subst eo
                        go_wp2_with fail
                        go_roundw
                        case rel => exact ⟨q + 1, by go_num, by omega, HU.out⟩
                        case measure => simp [intOf]; omega
                      · have eq1 : q = Y.length := by omega
                        subst eq1
                        go_wp2_with fail
                        go_roundw
                        case rel => exact ⟨i + 1, c', p', Y, oa', oc', v, by go_num, by omega, rfl, rfl, HU.out.wide (by omega), HJ2.out, HVV.out, (by have := HLEN.out; have := HYE.out.2; omega : Y.length ≤ i + 1)⟩
                        case measure => simp [intOf]; omega
              · have d1 : (x.1 != (bb : Int)) = true := by simpa using hto
                obtain ⟨x1, x2, x3⟩ := x
                simp only at y0 y1 y2 d1
                clear hx hcs
                subst eo
                go_wp2_with fail
                go_roundw
                case rel => exact ⟨f + 1, by go_num, by omega, HF.out⟩
                case measure => simp [intOf]; omega
            · have ef : f = l.length := by omega
              subst ef
              have hv := HV.out
              have HJ2 : Hid (J n (255 * ((i + 1 : Nat) : Int)) c p l) := HJ.out.wide (by omega)
              have V1 := HF.out.cut.value
              rw [hv] at V1
              go_wp2_with (go_at_call 20; refine V1.mono ?_; rintro e w' ⟨rfl, rfl⟩)
              have HVV : Hid (c.v = v) := hv
              have hl4 : l.length ≤ 400 := by have := HLEN.out; omega
              clear hv V1
              go_loopw [22] (fun s22 wr => ∃ j : Nat, s22 = .int .i64 j ∧ j ≤ n ∧ Hid (BW w b ab n i c p l (.slice oa l.length oc) wr)) (fun s22 _ => n - (intOf s22).toNat)
              case atStart => exact ⟨0, rfl, Nat.zero_le _, HF.out⟩
              case round =>
                obtain ⟨j, rfl, hj, HT⟩ := hrel
                by_cases hltj : j < n
                · have hltj' : (j : Int) < (n : Int) := by omega
                  have cj := HT.out.row.at hltj rfl
                  have hx := at_ge HJ2.out HVV.out hltj
                  generalize p.getD j 0 = x at cj hx
                  go_wp2_with fail
                  go_roundw
                  case rel => exact ⟨j + 1, by go_num, by omega, HT.out⟩
                  case measure => simp [intOf]; omega
                · obtain rfl : j = n := by omega
                  go_wp2_with fail
                  go_loopw [23] (fun s23 wr => ∃ q : Nat, s23 = .int .i64 q ∧ q ≤ l.length ∧ Hid (BW w b ab j i c p l (.slice oa l.length oc) wr)) (fun s23 _ => l.length - (intOf s23).toNat)
                  case atStart => exact ⟨0, rfl, Nat.zero_le _, HT.out⟩
                  case round =>
                    obtain ⟨q, rfl, hq, HU⟩ := hrel
                    by_cases hltq : q < l.length
                    · have hltq' : (q : Int) < (l.length : Int) := by omega
                      obtain ⟨x, hx⟩ : ∃ x, l.getD q (0, 0, 0) = x := ⟨_, rfl⟩
                      obtain ⟨g, off, eo, hg, _, y0, y1, y2⟩ := held HU.out.own.look.2 hltq hx
                      have hxv := on_ge HJ2.out HVV.out hltq hx
                      obtain ⟨x1, x2, x3⟩ := x
                      clear hx
                      subst eo
                      go_wp2_with fail
                      go_roundw
                      case rel => exact ⟨q + 1, by go_num, by omega, HU.out⟩
                      case measure => simp [intOf]; omega
                    · have eq1 : q = l.length := by omega
                      subst eq1
                      go_wp2_with fail
                      go_roundw
                      case rel => exact ⟨i + 1, c, p, l, oa, oc, v, by go_num, by omega, rfl, rfl, HU.out.wide (by omega), HJ2.out, HVV.out, (by have := HLEN.out; omega : l.length ≤ i + 1)⟩
                      case measure => simp [intOf]; omega
      have dk1 : (s.k == 1) = false := by simpa using hk1
      by_cases hk2 : s.k = 2
      · have dk2 : (s.k == 2) = true := by simpa using hk2
        clear hk0 hk1 hk2
        as_aux_lemma =>
          have hrow := HB0.out.row.at han rfl
          have frow := (HB0.out.row.c a han).2
          rw [HXA.out] at hrow
          obtain ⟨t, ht⟩ : ∃ t, xa + s.la = t := ⟨_, rfl⟩
          have ht0 : 0 ≤ t := by omega
          have ht1 : t ≤ 100000 := by omega
          have hwt : IntKind.i64.wrap t = t := by rw [IntKind.wrap_i64]; omega
          have HJ2 : Hid (J n (255 * ((i + 1 : Nat) : Int)) c (p.set a t) l) := HJ.out.go han (by rw [HXA.out]; omega) (by omega) (by omega)
          have H2 : Hid (BW w b ab n i c (p.set a t) l (.slice oa l.length oc) (W0.setCell ⟨ab, a, none⟩ (.int .i64 t)).drew) := (HB0.out.put (by rw [HJ.out.lp]; exact han) t).on ⟨rfl, rfl, rfl, Nat.le_refl _, fun _ _ => rfl⟩
          have hv := HV.out
          obtain ⟨p', hp'⟩ : ∃ p', p.set a t = p' := ⟨_, rfl⟩
          rw [hp'] at H2 HJ2
          clear hp'
          go_wp2_with (go_at_call 21; refine R0.mono ?_; rintro e w' ⟨rfl, rfl⟩)
          go_region

          have V1 := H2.out.cut.value
          rw [hv] at V1
          go_wp2_with (go_at_call 20; refine V1.mono ?_; rintro e w' ⟨rfl, rfl⟩)
          have HVV : Hid (c.v = v) := hv
          have hl4 : l.length ≤ 400 := by have := HLEN.out; omega
          clear hv V1
          go_loopw [22] (fun s22 wr => ∃ j : Nat, s22 = .int .i64 j ∧ j ≤ n ∧ Hid (BW w b ab n i c p' l (.slice oa l.length oc) wr)) (fun s22 _ => n - (intOf s22).toNat)
          case atStart => exact ⟨0, rfl, Nat.zero_le _, H2.out⟩
          case round =>
            obtain ⟨j, rfl, hj, HT⟩ := hrel
            by_cases hltj : j < n
            · have hltj' : (j : Int) < (n : Int) := by omega
              have cj := HT.out.row.at hltj rfl
              have hx := at_ge HJ2.out HVV.out hltj
              generalize p'.getD j 0 = x at cj hx
              go_wp2_with fail
              go_roundw
              case rel => exact ⟨j + 1, by go_num, by omega, HT.out⟩
              case measure => simp [intOf]; omega
            · obtain rfl : j = n := by omega
              go_wp2_with fail
              go_loopw [23] (fun s23 wr => ∃ q : Nat, s23 = .int .i64 q ∧ q ≤ l.length ∧ Hid (BW w b ab j i c p' l (.slice oa l.length oc) wr)) (fun s23 _ => l.length - (intOf s23).toNat)
              case atStart => exact ⟨0, rfl, Nat.zero_le _, HT.out⟩
              case round =>
                obtain ⟨q, rfl, hq, HU⟩ := hrel
                by_cases hltq : q < l.length
                · have hltq' : (q : Int) < (l.length : Int) := by omega
                  obtain ⟨x, hx⟩ : ∃ x, l.getD q (0, 0, 0) = x := ⟨_, rfl⟩
                  obtain ⟨g, off, eo, hg, _, y0, y1, y2⟩ := held HU.out.own.look.2 hltq hx
                  have hxv := on_ge HJ2.out HVV.out hltq hx
                  obtain ⟨x1, x2, x3⟩ := x
                  clear hx
                  subst eo
                  go_wp2_with fail
                  go_roundw
                  case rel => exact ⟨q + 1, by go_num, by omega, HU.out⟩
                  case measure => simp [intOf]; omega
                · have eq1 : q = l.length := by omega
                  subst eq1
                  go_wp2_with fail
                  go_roundw
                  case rel => exact ⟨i + 1, c, p', l, oa, oc, v, by go_num, by omega, rfl, rfl, HU.out.wide (by omega), HJ2.out, HVV.out, (by have := HLEN.out; omega : l.length ≤ i + 1)⟩
                  case measure => simp [intOf]; omega
      have dk2 : (s.k == 2) = false := by simpa using hk2
      by_cases hk3 : s.k = 3
      · have dk3 : (s.k == 3) = true := by simpa using hk3
        clear hk0 hk1 hk2 hk3
        as_aux_lemma =>
          have B1 := HB0.out.begin
          obtain ⟨c', hc'⟩ : ∃ c', begC c = c' := ⟨_, rfl⟩
          have hv : c'.v = v := by rw [← hc', K.beg_v]; exact HV.out
          have HJ2 : Hid (J n (255 * ((i + 1 : Nat) : Int)) c' p l) := by rw [← hc']; exact HJ.out.beg.wide (by omega)
          rw [hc'] at B1
          generalize begE c = g0 at B1
          clear hc'
          go_wp2_with (first | (go_at_call 21; refine R0.mono ?_; rintro e w' ⟨rfl, rfl⟩) | (go_at_call 10; refine B1.mono ?_; rintro e w2 ⟨rfl, h2⟩; have H2 : Hid _ := h2; clear h2))

          have V1 := H2.out.cut.value
          rw [hv] at V1
          go_wp2_with (go_at_call 20; refine V1.mono ?_; rintro e w' ⟨rfl, rfl⟩)
          have HVV : Hid (c'.v = v) := hv
          have hl4 : l.length ≤ 400 := by have := HLEN.out; omega
          clear hv V1
          go_loopw [22] (fun s22 wr => ∃ j : Nat, s22 = .int .i64 j ∧ j ≤ n ∧ Hid (BW w b ab n i c' p l (.slice oa l.length oc) wr)) (fun s22 _ => n - (intOf s22).toNat)
          case atStart => exact ⟨0, rfl, Nat.zero_le _, H2.out⟩
          case round =>
            obtain ⟨j, rfl, hj, HT⟩ := hrel
            by_cases hltj : j < n
            · have hltj' : (j : Int) < (n : Int) := by omega
              have cj := HT.out.row.at hltj rfl
              have hx := at_ge HJ2.out HVV.out hltj
              generalize p.getD j 0 = x at cj hx
              go_wp2_with fail
              go_roundw
              case rel => exact ⟨j + 1, by go_num, by omega, HT.out⟩
              case measure => simp [intOf]; omega
            · obtain rfl : j = n := by omega
              go_wp2_with fail
              go_loopw [23] (fun s23 wr => ∃ q : Nat, s23 = .int .i64 q ∧ q ≤ l.length ∧ Hid (BW w b ab j i c' p l (.slice oa l.length oc) wr)) (fun s23 _ => l.length - (intOf s23).toNat)
              case atStart => exact ⟨0, rfl, Nat.zero_le _, HT.out⟩
              case round =>
                obtain ⟨q, rfl, hq, HU⟩ := hrel
                by_cases hltq : q < l.length
                · have hltq' : (q : Int) < (l.length : Int) := by omega
                  obtain ⟨x, hx⟩ : ∃ x, l.getD q (0, 0, 0) = x := ⟨_, rfl⟩
                  obtain ⟨g, off, eo, hg, _, y0, y1, y2⟩ := held HU.out.own.look.2 hltq hx
                  have hxv := on_ge HJ2.out HVV.out hltq hx
                  obtain ⟨x1, x2, x3⟩ := x
                  clear hx
                  subst eo
                  go_wp2_with fail
                  go_roundw
                  case rel => exact ⟨q + 1, by go_num, by omega, HU.out⟩
                  case measure => simp [intOf]; omega
                · have eq1 : q = l.length := by omega
                  subst eq1
                  go_wp2_with fail
                  go_roundw
                  case rel => exact ⟨i + 1, c', p, l, oa, oc, v, by go_num, by omega, rfl, rfl, HU.out.wide (by omega), HJ2.out, HVV.out, (by have := HLEN.out; omega : l.length ≤ i + 1)⟩
                  case measure => simp [intOf]; omega
      have dk3 : (s.k == 3) = false := by simpa using hk3
      by_cases hk4 : s.k = 4
      · have dk4 : (s.k == 4) = true := by simpa using hk4
        clear hk0 hk1 hk2 hk3 hk4
        as_aux_lemma =>
          have B1 := HB0.out.turn a
          obtain ⟨c', hc'⟩ : ∃ c', turC c a = c' := ⟨_, rfl⟩
          have hv : c'.v = v := by rw [← hc', K.tur_v]; exact HV.out
          have HJ2 : Hid (J n (255 * ((i + 1 : Nat) : Int)) c' p l) := by rw [← hc']; exact (HJ.out.turn han).wide (by omega)
          rw [hc'] at B1
          generalize turE c a = g0 at B1
          clear hc'
          go_wp2_with (first | (go_at_call 21; refine R0.mono ?_; rintro e w' ⟨rfl, rfl⟩) | (go_at_call 16; refine B1.mono ?_; rintro e w2 ⟨rfl, h2⟩; have H2 : Hid _ := h2; clear h2))

          have V1 := H2.out.cut.value
          rw [hv] at V1
          go_wp2_with (go_at_call 20; refine V1.mono ?_; rintro e w' ⟨rfl, rfl⟩)
          have HVV : Hid (c'.v = v) := hv
          have hl4 : l.length ≤ 400 := by have := HLEN.out; omega
          clear hv V1
          go_loopw [22] (fun s22 wr => ∃ j : Nat, s22 = .int .i64 j ∧ j ≤ n ∧ Hid (BW w b ab n i c' p l (.slice oa l.length oc) wr)) (fun s22 _ => n - (intOf s22).toNat)
          case atStart => exact ⟨0, rfl, Nat.zero_le _, H2.out⟩
          case round =>
            obtain ⟨j, rfl, hj, HT⟩ := hrel
            by_cases hltj : j < n
            · have hltj' : (j : Int) < (n : Int) := by omega
              have cj := HT.out.row.at hltj rfl
              have hx := at_ge HJ2.out HVV.out hltj
              generalize p.getD j 0 = x at cj hx
              go_wp2_with fail
              go_roundw
              case rel => exact ⟨j + 1, by go_num, by omega, HT.out⟩
              case measure => simp [intOf]; omega
            · obtain rfl : j = n := by omega
              go_wp2_with fail
              go_loopw [23] (fun s23 wr => ∃ q : Nat, s23 = .int .i64 q ∧ q ≤ l.length ∧ Hid (BW w b ab j i c' p l (.slice oa l.length oc) wr)) (fun s23 _ => l.length - (intOf s23).toNat)
              case atStart => exact ⟨0, rfl, Nat.zero_le _, HT.out⟩
              case round =>
                obtain ⟨q, rfl, hq, HU⟩ := hrel
                by_cases hltq : q < l.length
                · have hltq' : (q : Int) < (l.length : Int) := by omega
                  obtain ⟨x, hx⟩ : ∃ x, l.getD q (0, 0, 0) = x := ⟨_, rfl⟩
                  obtain ⟨g, off, eo, hg, _, y0, y1, y2⟩ := held HU.out.own.look.2 hltq hx
                  have hxv := on_ge HJ2.out HVV.out hltq hx
                  obtain ⟨x1, x2, x3⟩ := x
                  clear hx
                  subst eo
                  go_wp2_with fail
                  go_roundw
                  case rel => exact ⟨q + 1, by go_num, by omega, HU.out⟩
                  case measure => simp [intOf]; omega
                · have eq1 : q = l.length := by omega
                  subst eq1
                  go_wp2_with fail
                  go_roundw
                  case rel => exact ⟨i + 1, c', p, l, oa, oc, v, by go_num, by omega, rfl, rfl, HU.out.wide (by omega), HJ2.out, HVV.out, (by have := HLEN.out; omega : l.length ≤ i + 1)⟩
                  case measure => simp [intOf]; omega
      have dk4 : (s.k == 4) = false := by simpa using hk4
      by_cases hk5 : s.k = 5
      · have dk5 : (s.k == 5) = true := by simpa using hk5
        clear hk0 hk1 hk2 hk3 hk4 hk5
        as_aux_lemma =>
          have B1 := HB0.out.report (by omega) a xa
          obtain ⟨c', hc'⟩ : ∃ c', repC c a xa = c' := ⟨_, rfl⟩
          have RJ := HJ.out.rep han
          rw [HXA.out, hc'] at RJ
          obtain ⟨RJ1, RJ2, RJ3⟩ := RJ
          have HJ2 : Hid (J n (255 * ((i + 1 : Nat) : Int)) c' p l) := RJ1.wide (by omega)
          rw [hc'] at B1
          generalize repE c a xa = g0 at B1
          clear hc' RJ1
          have hev := HV.out
          have her := HR0.out
          have hrow := HB0.out.row.at han rfl
          rw [HXA.out] at hrow

          by_cases hsame : c'.v = v
          · have hv := hsame
            have hE : ¬ v < v := by omega
            clear hsame RJ2 RJ3 hev her
            go_wp2_with (first | (go_at_call 21; refine R0.mono ?_; rintro e w' ⟨rfl, rfl⟩) | (go_at_call 18; refine B1.mono ?_; rintro e w2 ⟨rfl, h2⟩; have H2 : Hid _ := h2; clear h2))
            have V1 := H2.out.cut.value
            rw [hv] at V1
            go_wp2_with (go_at_call 20; refine V1.mono ?_; rintro e w' ⟨rfl, rfl⟩)
            have HVV : Hid (c'.v = v) := hv
            have hl4 : l.length ≤ 400 := by have := HLEN.out; omega
            clear hv V1
            go_loopw [22] (fun s22 wr => ∃ j : Nat, s22 = .int .i64 j ∧ j ≤ n ∧ Hid (BW w b ab n (i + 1) c' p l (.slice oa l.length oc) wr)) (fun s22 _ => n - (intOf s22).toNat)
            case atStart => exact ⟨0, rfl, Nat.zero_le _, H2.out⟩
            case round =>
              obtain ⟨j, rfl, hj, HT⟩ := hrel
              by_cases hltj : j < n
              · have hltj' : (j : Int) < (n : Int) := by omega
                have cj := HT.out.row.at hltj rfl
                have hx := at_ge HJ2.out HVV.out hltj
                generalize p.getD j 0 = x at cj hx
                go_wp2_with fail
                go_roundw
                case rel => exact ⟨j + 1, by go_num, by omega, HT.out⟩
                case measure => simp [intOf]; omega
              · obtain rfl : j = n := by omega
                go_wp2_with fail
                go_loopw [23] (fun s23 wr => ∃ q : Nat, s23 = .int .i64 q ∧ q ≤ l.length ∧ Hid (BW w b ab j (i + 1) c' p l (.slice oa l.length oc) wr)) (fun s23 _ => l.length - (intOf s23).toNat)
                case atStart => exact ⟨0, rfl, Nat.zero_le _, HT.out⟩
                case round =>
                  obtain ⟨q, rfl, hq, HU⟩ := hrel
                  by_cases hltq : q < l.length
                  · have hltq' : (q : Int) < (l.length : Int) := by omega
                    obtain ⟨x, hx⟩ : ∃ x, l.getD q (0, 0, 0) = x := ⟨_, rfl⟩
                    obtain ⟨g, off, eo, hg, _, y0, y1, y2⟩ := held HU.out.own.look.2 hltq hx
                    have hxv := on_ge HJ2.out HVV.out hltq hx
                    obtain ⟨x1, x2, x3⟩ := x
                    clear hx
                    subst eo
                    go_wp2_with fail
                    go_roundw
                    case rel => exact ⟨q + 1, by go_num, by omega, HU.out⟩
                    case measure => simp [intOf]; omega
                  · have eq1 : q = l.length := by omega
                    subst eq1
                    go_wp2_with fail
                    go_roundw
                    case rel => exact ⟨i + 1, c', p, l, oa, oc, v, by go_num, by omega, rfl, rfl, HU.out.wide (by omega), HJ2.out, HVV.out, (by have := HLEN.out; omega : l.length ≤ i + 1)⟩
                    case measure => simp [intOf]; omega
          · obtain ⟨v', hv⟩ : ∃ v', c'.v = v' := ⟨_, rfl⟩
            obtain ⟨r', hr'⟩ : ∃ r', c'.r = r' := ⟨_, rfl⟩
            have hup : v < v' := by omega
            have hnlt : ¬ v' < v := by omega
            have hdr : (r' == r0) = false := by
              have : r' ≠ r0 := fun e => hsame (by have := RJ3 (by omega); omega)
              simpa using this
            clear hsame RJ2 RJ3 hev her
            go_wp2_with (first | (go_at_call 21; refine R0.mono ?_; rintro e w' ⟨rfl, rfl⟩) | (go_at_call 18; refine B1.mono ?_; rintro e w2 ⟨rfl, h2⟩; have R1 := h2.cut.rounds; rw [hr'] at R1; have V1 := h2.cut.value; rw [hv] at V1; have H2 : Hid _ := h2; clear h2 R0) | (go_at_call 20; refine V1.mono ?_; rintro e w' ⟨rfl, rfl⟩) | (go_at_call 21; refine R1.mono ?_; rintro e w' ⟨rfl, rfl⟩))
            clear R1
            have HVV : Hid (c'.v = v') := hv
            have hl4 : l.length ≤ 400 := by have := HLEN.out; omega
            clear hv V1
            go_loopw [22] (fun s22 wr => ∃ j : Nat, s22 = .int .i64 j ∧ j ≤ n ∧ Hid (BW w b ab n (i + 1) c' p l (.slice oa l.length oc) wr)) (fun s22 _ => n - (intOf s22).toNat)
            case atStart => exact ⟨0, rfl, Nat.zero_le _, H2.out⟩
            case round =>
              obtain ⟨j, rfl, hj, HT⟩ := hrel
              by_cases hltj : j < n
              · have hltj' : (j : Int) < (n : Int) := by omega
                have cj := HT.out.row.at hltj rfl
                have hx := at_ge HJ2.out HVV.out hltj
                generalize p.getD j 0 = x at cj hx
                go_wp2_with fail
                go_roundw
                case rel => exact ⟨j + 1, by go_num, by omega, HT.out⟩
                case measure => simp [intOf]; omega
              · obtain rfl : j = n := by omega
                go_wp2_with fail
                go_loopw [23] (fun s23 wr => ∃ q : Nat, s23 = .int .i64 q ∧ q ≤ l.length ∧ Hid (BW w b ab j (i + 1) c' p l (.slice oa l.length oc) wr)) (fun s23 _ => l.length - (intOf s23).toNat)
                case atStart => exact ⟨0, rfl, Nat.zero_le _, HT.out⟩
                case round =>
                  obtain ⟨q, rfl, hq, HU⟩ := hrel
                  by_cases hltq : q < l.length
                  · have hltq' : (q : Int) < (l.length : Int) := by omega
                    obtain ⟨x, hx⟩ : ∃ x, l.getD q (0, 0, 0) = x := ⟨_, rfl⟩
                    obtain ⟨g, off, eo, hg, _, y0, y1, y2⟩ := held HU.out.own.look.2 hltq hx
                    have hxv := on_ge HJ2.out HVV.out hltq hx
                    obtain ⟨x1, x2, x3⟩ := x
                    clear hx
                    subst eo
                    go_wp2_with fail
                    go_roundw
                    case rel => exact ⟨q + 1, by go_num, by omega, HU.out⟩
                    case measure => simp [intOf]; omega
                  · have eq1 : q = l.length := by omega
                    subst eq1
                    go_wp2_with fail
                    go_roundw
                    case rel => exact ⟨i + 1, c', p, l, oa, oc, v', by go_num, by omega, rfl, rfl, HU.out.wide (by omega), HJ2.out, HVV.out, (by have := HLEN.out; omega : l.length ≤ i + 1)⟩
                    case measure => simp [intOf]; omega
      have dk5 : (s.k == 5) = false := by simpa using hk5
      clear hk0 hk1 hk2 hk3 hk4 hk5
      as_aux_lemma =>
        have hv := HV.out
        have HJ2 : Hid (J n (255 * ((i + 1 : Nat) : Int)) c p l) := HJ.out.wide (by omega)
        go_wp2_with (go_at_call 21; refine R0.mono ?_; rintro e w' ⟨rfl, rfl⟩)

        have V1 := HB0.out.cut.value
        rw [hv] at V1
        go_wp2_with (go_at_call 20; refine V1.mono ?_; rintro e w' ⟨rfl, rfl⟩)
        have HVV : Hid (c.v = v) := hv
        have hl4 : l.length ≤ 400 := by have := HLEN.out; omega
        clear hv V1
        go_loopw [22] (fun s22 wr => ∃ j : Nat, s22 = .int .i64 j ∧ j ≤ n ∧ Hid (BW w b ab n i c p l (.slice oa l.length oc) wr)) (fun s22 _ => n - (intOf s22).toNat)
        case atStart => exact ⟨0, rfl, Nat.zero_le _, HB0.out⟩
        case round =>
          obtain ⟨j, rfl, hj, HT⟩ := hrel
          by_cases hltj : j < n
          · have hltj' : (j : Int) < (n : Int) := by omega
            have cj := HT.out.row.at hltj rfl
            have hx := at_ge HJ2.out HVV.out hltj
            generalize p.getD j 0 = x at cj hx
            go_wp2_with fail
            go_roundw
            case rel => exact ⟨j + 1, by go_num, by omega, HT.out⟩
            case measure => simp [intOf]; omega
          · obtain rfl : j = n := by omega
            go_wp2_with fail
            go_loopw [23] (fun s23 wr => ∃ q : Nat, s23 = .int .i64 q ∧ q ≤ l.length ∧ Hid (BW w b ab j i c p l (.slice oa l.length oc) wr)) (fun s23 _ => l.length - (intOf s23).toNat)
            case atStart => exact ⟨0, rfl, Nat.zero_le _, HT.out⟩
            case round =>
              obtain ⟨q, rfl, hq, HU⟩ := hrel
              by_cases hltq : q < l.length
              · have hltq' : (q : Int) < (l.length : Int) := by omega
                obtain ⟨x, hx⟩ : ∃ x, l.getD q (0, 0, 0) = x := ⟨_, rfl⟩
                obtain ⟨g, off, eo, hg, _, y0, y1, y2⟩ := held HU.out.own.look.2 hltq hx
                have hxv := on_ge HJ2.out HVV.out hltq hx
                obtain ⟨x1, x2, x3⟩ := x
                clear hx
                subst eo
                go_wp2_with fail
                go_roundw
                case rel => exact ⟨q + 1, by go_num, by omega, HU.out⟩
                case measure => simp [intOf]; omega
              · have eq1 : q = l.length := by omega
                subst eq1
                go_wp2_with fail
                go_roundw
                case rel => exact ⟨i + 1, c, p, l, oa, oc, v, by go_num, by omega, rfl, rfl, HU.out.wide (by omega), HJ2.out, HVV.out, (by have := HLEN.out; omega : l.length ≤ i + 1)⟩
                case measure => simp [intOf]; omega
    · obtain rfl : i = L := by omega
      have T1 := HB.out.cut.turn (-1)
      have hp : K.isP c (-1) = false := by unfold K.isP; simp
      rw [(turE_no hp).1] at T1
      go_wp2_with (go_at_call 16; refine T1.mono ?_; rintro e w2 ⟨rfl, h2⟩; have H3 : Hid _ := h2; clear h2 T1)
      go_ret
      exact ⟨rfl, H3.out.bel⟩
end Go.Proofs.Ytdfjmnckgcpmgaa
