/- Joined: the texts that follow, each with its own sentence. -/
import Derived.Test.YtiaopafkfadmkaaGreatZLo
import Derived.Test.YtiaopafkfadmkaaGreatZOb
import Derived.Test.YtiaopafkfadmkaaGreatZIt
/- Proved: the walk of WarpAnti. -/
namespace Go.Proofs.YtiaopafkfadmkaaGreat.V
open Go.RowKit Go.Shelf
set_option linter.unusedVariables false
set_option maxRecDepth 100000

set_option maxHeartbeats 8000000 in
theorem anti_walk (w : World) (sa : Option Addr) (sc : Nat) (z : List Int) (ga : Option Addr) (gc : Nat) (g : List Bool) (ta : Option Addr) (tc : Nat) (y : List Int) (hz : InB w sa z) (hg : InT w ga g) (hy : InB w ta y) (hzn : z.length ≤ maxLen) (hyn : y.length ≤ maxLen) :
    Calls Tryz.prog 5 #[.slice sa z.length sc, .slice ga g.length gc, .slice ta y.length tc] w fun e w' => e = .returned (.bool true) ∧ Below w.heap.size w w' := by
  have mixed : Tryz.prog.follows .mixedOrders = true := by kernel_rfl
  have SH := shown_any w
  obtain ⟨zl, hzl⟩ : ∃ zl, z.length = zl := ⟨_, rfl⟩
  obtain ⟨gl, hgl⟩ : ∃ gl, g.length = gl := ⟨_, rfl⟩
  obtain ⟨yl, hyl⟩ : ∃ yl, y.length = yl := ⟨_, rfl⟩
  unfold maxLen at hzn hyn
  rw [hzl] at hzn ⊢
  rw [hgl]
  rw [hyl] at hyn ⊢
  by_cases hlong : 30 < zl
  · have hl' : decide ((30 : Int) < (zl : Int)) = true := decide_eq_true (by omega)
    clear hz hy hg
    go_enter Tryz.func5, Tryz.ntmps5
    go_wp2_with (go_at_call 10; refine SH.mono ?_; rintro e w1 ⟨rfl, hb⟩; have HB : Hid (Below w.heap.size w w1) := hb; clear hb SH)
    go_ret
    exact ⟨rfl, HB.out⟩
  have hl' : decide ((30 : Int) < (zl : Int)) = false := decide_eq_false (by omega)
  have hz30 : zl ≤ 30 := by omega
  have HZ : Hid (∀ i, i < zl → ∃ v b off, 0 ≤ v ∧ v ≤ 255 ∧ sa = some ⟨b, off, none⟩ ∧ ∀ W, Below w.heap.size w W → W.cell? ⟨b, off + i, none⟩ = some (.int .u8 v) ∧ b < W.heap.size) := fun i hi => InB.cell hz (by rw [hzl]; exact hi)
  have HY : Hid (∀ i, i < yl → ∃ v b off, 0 ≤ v ∧ v ≤ 255 ∧ ta = some ⟨b, off, none⟩ ∧ ∀ W, Below w.heap.size w W → W.cell? ⟨b, off + i, none⟩ = some (.int .u8 v) ∧ b < W.heap.size) := fun i hi => InB.cell hy (by rw [hyl]; exact hi)
  have HG : Hid (∀ i, i < gl → ∃ (v : Bool) (b off : Nat), ga = some ⟨b, off, none⟩ ∧ ∀ W, Below w.heap.size w W → W.cell? ⟨b, off + i, none⟩ = some (.bool v) ∧ b < W.heap.size) := fun i hi => InT.cell hg (by rw [hgl]; exact hi)
  have HBO : Hid (∀ W, Below w.heap.size w W → Calls Tryz.prog 35 #[] W fun e w' => ∃ n, e = .returned (wv (boD n)) ∧ Ww w' (boD n) ∧ Below W.heap.size W w') := fun W hW => (bold_any W).mono fun e w' ⟨h1, h2, h3⟩ => ⟨_, h1, h2, h3⟩
  have HN : Hid (∀ n W, Ww W (boD n) → Calls Tryz.prog 11 #[.agg #[.slice (boD n).pa (boD n).ps.length (boD n).pc, .slice (boD n).fa (boD n).fs.length (boD n).fc, .int .i64 (boD n).en], .int .i64 0] W fun en w' => ∃ Z T, en = .returned (.tuple #[.pointer (some ⟨Z.nb, 0, none⟩), .int .i64 0]) ∧ PN W (Bo n) 2 (x0 0 0) Z T w') := fun n W h => bo_new W n h
  clear hz hy hg hzl hyl hgl hlong
  go_enter Tryz.func5, Tryz.ntmps5
  go_wp2_with (first
    | (go_at_call 10; refine SH.mono ?_; rintro e w1 ⟨rfl, hb⟩; have HB : Hid (Below w.heap.size w w1) := hb; clear hb SH)
    | (go_at_call 35; refine (Hid.out HBO _ (Hid.out HB)).mono ?_; rintro e w2 ⟨n, rfl, hw2, hb2⟩; have HW2 : Hid (Ww w2 (boD n)) := hw2; have HB2 : Hid (Below w.heap.size w w2) := (Hid.out HB).trans (hb2.mono (Hid.out HB).size); clear hw2 hb2 HB)
    | (go_at_call 11; refine (Hid.out HN n _ (Hid.out HW2)).mono ?_; rintro e w3 ⟨Zx, Tx, rfl, hp⟩; have HPX : Hid (PN w2 (Bo n) 2 (x0 0 0) Zx Tx w3) := hp; have HB3 : Hid (Below w.heap.size w w3) := (Hid.out HB2).trans (hp.bel.mono (Hid.out HB2).size); clear hp HW2)
    | (go_at_call 35; refine (Hid.out HBO _ (Hid.out HB3)).mono ?_; rintro e w4 ⟨n4, rfl, hw4, hb4⟩; have HW4 : Hid (Ww w4 (boD n4)) := hw4; have HB4 : Hid (Below w3.heap.size w3 w4) := hb4; clear hw4 hb4)
    | (go_at_call 11; refine (Hid.out HN n4 _ (Hid.out HW4)).mono ?_; rintro e w5 ⟨Zy, Ty, rfl, hp⟩; have HPY : Hid (PN w4 (Bo n4) 2 (x0 0 0) Zy Ty w5) := hp; clear hp HW4 HN HBO))
  have HBW : Hid (∀ W, Below w2.heap.size w2 W → Below w.heap.size w W) := fun W hW => HB2.out.trans (hW.mono HB2.out.size)
  have H0 : Hid (A1 w2 Zx Zy 0 (some ⟨w5.heap.size, 0, none⟩) 0 0 (fun _ => False) (w5.alloc (.cells #[] 39))) := by
    have b4 : Below w3.heap.size w3 w5 := HB4.out.trans (HPY.out.bel.mono HB4.out.size)
    have bx : Below w2.heap.size w2 w4 := HPX.out.bel.trans (HB4.out.mono HPX.out.bel.size)
    refine ⟨[], [], [], AI.zero, rfl, ⟨Tx, Ty, ⟨n, Nd1.start (HPX.out.below (b4.trans ((B.al w5 _).mono b4.size))) (Below.refl _ _)⟩, ⟨n4, Nd1.start (HPY.out.below (B.al w5 _)) bx⟩, fun b g1 g2 => ?_, fun b r => ?_⟩, B.OwR.made B.cM 39 w5⟩
    · have h1 := HPX.out.lt b g1
      have h2 := HPY.out.lo b g2
      have h3 := HB4.out.size
      omega
    · rcases r with r | r
      · exact r.elim
      · simp [Value.ownBlock] at r
        subst r
        have h1 := HPX.out.bel.size
        have h2 := b4.size
        refine ⟨by omega, (Array.getElem?_eq_some_iff.1 (MapKept.heap_alloc w5 (.cells #[] 39)).1).1, fun g => ?_, fun g => ?_⟩
        · have := HPX.out.lt _ g
          omega
        · have := HPY.out.lt _ g
          omega
  clear HPX HPY HB4 HB3
  go_loopw [11, 12] (fun s11 s12 wr => ∃ (i : Nat) (a : Option Addr) (nb c : Nat), s11 = .slice a nb c ∧ s12 = .int .i64 i ∧ i ≤ zl ∧ Hid (A1 w2 Zx Zy i a nb c (fun _ => False) wr)) (fun _ s12 _ => zl - (intOf s12).toNat)
  case atStart => exact ⟨0, _, 0, 0, rfl, rfl, Nat.zero_le _, H0⟩
  case round =>
    clear H0
    obtain ⟨i, a, nb, c, rfl, rfl, hi, HS⟩ := hrel
    by_cases hlt : i < zl
    · have hlt' : (i : Int) < (zl : Int) := by omega
      have hi30 : i < 30 := by omega
      obtain ⟨t, sb, so, ht0, ht1, rfl, hcs⟩ := HZ.out i hlt
      obtain ⟨d0, lsb⟩ := hcs wr (HBW.out _ HS.out.bel)
      obtain ⟨q, hq⟩ : ∃ q, wr.heap.size = q := ⟨_, rfl⟩
      have hb1 := B.al wr (.cells #[.int .i64 t, .int .i64 1, .int .i64 i, .int .i64 0, .int .i64 0, .int .i64 0] 39)
      have bx1 : (wr.alloc (.cells #[.int .i64 t, .int .i64 1, .int .i64 i, .int .i64 0, .int .i64 0, .int .i64 0] 39)).heap[q]? = some (.cells #[.int .i64 t, .int .i64 1, .int .i64 i, .int .i64 0, .int .i64 0, .int .i64 0] 39 (0, 0)) := by rw [← hq]; exact (MapKept.heap_alloc _ _).1
      have hqs := (Array.getElem?_eq_some_iff.1 bx1).1
      have HX : Hid ((wr.alloc (.cells #[.int .i64 t, .int .i64 1, .int .i64 i, .int .i64 0, .int .i64 0, .int .i64 0] 39)).cell? ⟨q, 0, none⟩ = some (.int .i64 t) ∧ (wr.alloc (.cells #[.int .i64 t, .int .i64 1, .int .i64 i, .int .i64 0, .int .i64 0, .int .i64 0] 39)).cell? ⟨q, 1, none⟩ = some (.int .i64 1) ∧ (wr.alloc (.cells #[.int .i64 t, .int .i64 1, .int .i64 i, .int .i64 0, .int .i64 0, .int .i64 0] 39)).cell? ⟨q, 2, none⟩ = some (.int .i64 (i : Int)) ∧ (wr.alloc (.cells #[.int .i64 t, .int .i64 1, .int .i64 i, .int .i64 0, .int .i64 0, .int .i64 0] 39)).cell? ⟨q, 3, none⟩ = some (.int .i64 0) ∧ (wr.alloc (.cells #[.int .i64 t, .int .i64 1, .int .i64 i, .int .i64 0, .int .i64 0, .int .i64 0] 39)).cell? ⟨q, 4, none⟩ = some (.int .i64 0) ∧ (wr.alloc (.cells #[.int .i64 t, .int .i64 1, .int .i64 i, .int .i64 0, .int .i64 0, .int .i64 0] 39)).cell? ⟨q, 5, none⟩ = some (.int .i64 0)) := ⟨cellN bx1 0, cellN bx1 1, cellN bx1 2, cellN bx1 3, cellN bx1 4, cellN bx1 5⟩
      have CH := (HS.out.on hb1 (R' := fun b => b = q) (fun b e => ⟨by rw [e]; exact hqs, fun g => by omega⟩)).hear ht0 ht1 hi30
      have HQ : Hid (wr.heap.size = q) := hq
      clear bx1 hb1 HS hcs hq hqs
      by_cases hig : i < gl
      · have hig' : (i : Int) < (gl : Int) := by omega
        obtain ⟨gv, gb, go, rfl, hgc⟩ := HG.out i hig
        cases gv with
        | true =>
          go_wp2_with (first
            | (go_at_call 13; refine CH.mono ?_; rintro e w6 ⟨u6, rfl, h6, hk6⟩; have HA2 : Hid (A2 w2 Zx Zy i t a nb c (fun b => b = q) w6) := h6; have x0 := (hk6 q rfl 0).trans (Hid.out HX).1; have x1 := (hk6 q rfl 1).trans (Hid.out HX).2.1; have x2 := (hk6 q rfl 2).trans (Hid.out HX).2.2.1; have x3 := (hk6 q rfl 3).trans (Hid.out HX).2.2.2.1; have x4 := (hk6 q rfl 4).trans (Hid.out HX).2.2.2.2.1; have x5 := (hk6 q rfl 5).trans (Hid.out HX).2.2.2.2.2; try simp only [HQ.out]; clear hk6 CH HX; have hgg := hgc w6 (Hid.out HBW _ h6.bel); have g0 := hgg.1; have lgb := hgg.2; obtain ⟨bk, X, _, hbk, hX, ho, hnext⟩ := h6.gone ht0 ht1; have HO : Hid (B.OwR B.cM 39 w6 (.slice a nb c) bk) := ho; have HX2 : Hid (bk ++ [((t, 1, (i : Int)), 0, 0, 0)] = X) := hX; have HLL : Hid (bk.length ≤ 100000) := (show bk.length ≤ 100000 by omega); have HNX : Hid (∀ a' c' V1 V', Below w6.heap.size w6 V1 → B.OwR B.cM 39 V' (.slice a' X.length c') X → Mw (fun k => (Value.slice a nb c).ownBlock = some k) (fun k => (Value.slice a' X.length c').ownBlock = some k) V1 V' → A1 w2 Zx Zy (i + 1) a' X.length c' (fun _ => False) V') := hnext; clear hX ho hnext hbk HA2 hgg h6)
            | (at_builtin; refine B.wpList_append_R B.tyM (fun _ => True) _ rfl (.tmp 95) (.tmp 97) rfl (.slice a nb c) _ _ bk [((t, 1, (i : Int)), 0, 0, 0)] rfl rfl (B.OwR.below (Hid.out HO) (B.al _ _)) (B.RdN.new B.cM _ ((t, 1, (i : Int)), 0, 0, 0) _ _ rfl trivial) (Hid.out HLL) (by simp) X (Hid.out HX2) ?_; intro a' c' w8 ho hm; have HS8 : Hid (A1 w2 Zx Zy (i + 1) a' X.length c' (fun _ => False) w8) := Hid.out HNX a' c' _ w8 (B.al _ _) ho hm; clear ho hm))
          obtain ⟨a6, n6, c6, e6, HT8⟩ : ∃ a6 n6 c6, Value.slice a' X.length c' = .slice a6 n6 c6 ∧ Hid (A1 w2 Zx Zy (i + 1) a6 n6 c6 (fun _ => False) w8) := ⟨_, _, _, rfl, HS8⟩
          rw [e6]
          clear e6 HS8 HNX HO HX2 HLL x0 x1 x2 x3 x4 x5
          go_loopw [16] (fun s16 wq => ∃ k : Nat, s16 = .int .i64 k ∧ k ≤ 4 ∧ Hid (A1 w2 Zx Zy (i + 1) a6 n6 c6 (fun _ => False) wq)) (fun s16 _ => 4 - (intOf s16).toNat)
          case atStart => exact ⟨0, rfl, Nat.zero_le _, HT8⟩
          case round =>
            clear HT8
            obtain ⟨k, rfl, hk, HS6⟩ := hrel
            by_cases hgo : ∃ (hiy : i < yl) (u : Int) (b off : Nat), (0 ≤ u ∧ u ≤ 255) ∧ ta = some ⟨b, off, none⟩ ∧ (wr.cell? ⟨b, off + i, none⟩ = some (.int .u8 u) ∧ b < wr.heap.size) ∧ (k : Int) < u % 4
            · obtain ⟨hiy, u, yb, yo, ⟨hu0, hu1⟩, rfl, ⟨e0, lyb⟩, hku⟩ := hgo
              have hiy' : (i : Int) < (yl : Int) := by omega
              have CS := HS6.out.step (by omega)
              have hrem : u.tmod 4 = u % 4 := Int.tmod_eq_emod_of_nonneg hu0
              clear HS6
              go_wp2_with (go_at_call 16; refine CS.mono ?_; rintro e w7 ⟨u7, rfl, hst⟩; have HS7 : Hid (A1 w2 Zx Zy (i + 1) a6 n6 c6 (fun _ => False) w7) := hst; clear hst CS)
              go_roundw
              case rel => exact ⟨k + 1, by go_num, by omega, HS7⟩
              case measure => simp [intOf]; omega
            · have HD : Hid (A1 w2 Zx Zy (i + 1) a6 n6 c6 (fun _ => False) wr) := HS6
              by_cases hiy : i < yl
              · obtain ⟨u, yb, yo, h0, h1, rfl, h3⟩ := HY.out i hiy
                obtain ⟨e0, lyb⟩ := h3 wr (HBW.out _ HS6.out.bel)
                have hnk : ¬ (k : Int) < u % 4 := fun g => hgo ⟨hiy, u, yb, yo, ⟨h0, h1⟩, rfl, ⟨e0, lyb⟩, g⟩
                have hrem : u.tmod 4 = u % 4 := Int.tmod_eq_emod_of_nonneg h0
                have hiy' : (i : Int) < (yl : Int) := by omega
                clear hgo HS6 h3
                go_wp2
                go_roundw
                case rel => exact ⟨i + 1, a6, n6, c6, rfl, by go_num, by omega, HD.out⟩
                case measure => simp [intOf]; omega
              · have hiy' : ¬ (i : Int) < (yl : Int) := by omega
                clear hgo HS6
                go_wp2
                go_roundw
                case rel => exact ⟨i + 1, a6, n6, c6, rfl, by go_num, by omega, HD.out⟩
                case measure => simp [intOf]; omega
        | false =>
          go_wp2_with (first
            | (go_at_call 13; refine CH.mono ?_; rintro e w6 ⟨u6, rfl, h6, hk6⟩; have HA2 : Hid (A2 w2 Zx Zy i t a nb c (fun b => b = q) w6) := h6; have x0 := (hk6 q rfl 0).trans (Hid.out HX).1; have x1 := (hk6 q rfl 1).trans (Hid.out HX).2.1; have x2 := (hk6 q rfl 2).trans (Hid.out HX).2.2.1; have x3 := (hk6 q rfl 3).trans (Hid.out HX).2.2.2.1; have x4 := (hk6 q rfl 4).trans (Hid.out HX).2.2.2.2.1; have x5 := (hk6 q rfl 5).trans (Hid.out HX).2.2.2.2.2; try simp only [HQ.out]; clear hk6 CH HX; have hgg := hgc w6 (Hid.out HBW _ h6.bel); have g0 := hgg.1; have lgb := hgg.2; clear hgg; clear h6)
            | (go_at_call 13; refine ((Hid.out HA2).stay ht0 ht1 hi30).mono ?_; rintro e w8 ⟨u8, rfl, h8⟩; have HS8 : Hid (A1 w2 Zx Zy (i + 1) a nb c (fun b => b = q) w8) := h8; clear h8 HA2))
          obtain ⟨a6, n6, c6, e6, HT8⟩ : ∃ a6 n6 c6, Value.slice a nb c = .slice a6 n6 c6 ∧ Hid (A1 w2 Zx Zy (i + 1) a6 n6 c6 (fun _ => False) w8) := ⟨_, _, _, rfl, HS8.out.on (Below.refl _ _) (fun b e => e.elim)⟩
          rw [e6]
          clear e6 HS8 x0 x1 x2 x3 x4 x5
          go_loopw [16] (fun s16 wq => ∃ k : Nat, s16 = .int .i64 k ∧ k ≤ 4 ∧ Hid (A1 w2 Zx Zy (i + 1) a6 n6 c6 (fun _ => False) wq)) (fun s16 _ => 4 - (intOf s16).toNat)
          case atStart => exact ⟨0, rfl, Nat.zero_le _, HT8⟩
          case round =>
            clear HT8
            obtain ⟨k, rfl, hk, HS6⟩ := hrel
            by_cases hgo : ∃ (hiy : i < yl) (u : Int) (b off : Nat), (0 ≤ u ∧ u ≤ 255) ∧ ta = some ⟨b, off, none⟩ ∧ (wr.cell? ⟨b, off + i, none⟩ = some (.int .u8 u) ∧ b < wr.heap.size) ∧ (k : Int) < u % 4
            · obtain ⟨hiy, u, yb, yo, ⟨hu0, hu1⟩, rfl, ⟨e0, lyb⟩, hku⟩ := hgo
              have hiy' : (i : Int) < (yl : Int) := by omega
              have CS := HS6.out.step (by omega)
              have hrem : u.tmod 4 = u % 4 := Int.tmod_eq_emod_of_nonneg hu0
              clear HS6
              go_wp2_with (go_at_call 16; refine CS.mono ?_; rintro e w7 ⟨u7, rfl, hst⟩; have HS7 : Hid (A1 w2 Zx Zy (i + 1) a6 n6 c6 (fun _ => False) w7) := hst; clear hst CS)
              go_roundw
              case rel => exact ⟨k + 1, by go_num, by omega, HS7⟩
              case measure => simp [intOf]; omega
            · have HD : Hid (A1 w2 Zx Zy (i + 1) a6 n6 c6 (fun _ => False) wr) := HS6
              by_cases hiy : i < yl
              · obtain ⟨u, yb, yo, h0, h1, rfl, h3⟩ := HY.out i hiy
                obtain ⟨e0, lyb⟩ := h3 wr (HBW.out _ HS6.out.bel)
                have hnk : ¬ (k : Int) < u % 4 := fun g => hgo ⟨hiy, u, yb, yo, ⟨h0, h1⟩, rfl, ⟨e0, lyb⟩, g⟩
                have hrem : u.tmod 4 = u % 4 := Int.tmod_eq_emod_of_nonneg h0
                have hiy' : (i : Int) < (yl : Int) := by omega
                clear hgo HS6 h3
                go_wp2
                go_roundw
                case rel => exact ⟨i + 1, a6, n6, c6, rfl, by go_num, by omega, HD.out⟩
                case measure => simp [intOf]; omega
              · have hiy' : ¬ (i : Int) < (yl : Int) := by omega
                clear hgo HS6
                go_wp2
                go_roundw
                case rel => exact ⟨i + 1, a6, n6, c6, rfl, by go_num, by omega, HD.out⟩
                case measure => simp [intOf]; omega
      · have hig' : ¬ (i : Int) < (gl : Int) := by omega
        go_wp2_with (first
          | (go_at_call 13; refine CH.mono ?_; rintro e w6 ⟨u6, rfl, h6, hk6⟩; have HA2 : Hid (A2 w2 Zx Zy i t a nb c (fun b => b = q) w6) := h6; have x0 := (hk6 q rfl 0).trans (Hid.out HX).1; have x1 := (hk6 q rfl 1).trans (Hid.out HX).2.1; have x2 := (hk6 q rfl 2).trans (Hid.out HX).2.2.1; have x3 := (hk6 q rfl 3).trans (Hid.out HX).2.2.2.1; have x4 := (hk6 q rfl 4).trans (Hid.out HX).2.2.2.2.1; have x5 := (hk6 q rfl 5).trans (Hid.out HX).2.2.2.2.2; try simp only [HQ.out]; clear hk6 CH HX; clear h6)
          | (go_at_call 13; refine ((Hid.out HA2).stay ht0 ht1 hi30).mono ?_; rintro e w8 ⟨u8, rfl, h8⟩; have HS8 : Hid (A1 w2 Zx Zy (i + 1) a nb c (fun b => b = q) w8) := h8; clear h8 HA2))
        obtain ⟨a6, n6, c6, e6, HT8⟩ : ∃ a6 n6 c6, Value.slice a nb c = .slice a6 n6 c6 ∧ Hid (A1 w2 Zx Zy (i + 1) a6 n6 c6 (fun _ => False) w8) := ⟨_, _, _, rfl, HS8.out.on (Below.refl _ _) (fun b e => e.elim)⟩
        rw [e6]
        clear e6 HS8 x0 x1 x2 x3 x4 x5
        go_loopw [16] (fun s16 wq => ∃ k : Nat, s16 = .int .i64 k ∧ k ≤ 4 ∧ Hid (A1 w2 Zx Zy (i + 1) a6 n6 c6 (fun _ => False) wq)) (fun s16 _ => 4 - (intOf s16).toNat)
        case atStart => exact ⟨0, rfl, Nat.zero_le _, HT8⟩
        case round =>
          clear HT8
          obtain ⟨k, rfl, hk, HS6⟩ := hrel
          by_cases hgo : ∃ (hiy : i < yl) (u : Int) (b off : Nat), (0 ≤ u ∧ u ≤ 255) ∧ ta = some ⟨b, off, none⟩ ∧ (wr.cell? ⟨b, off + i, none⟩ = some (.int .u8 u) ∧ b < wr.heap.size) ∧ (k : Int) < u % 4
          · obtain ⟨hiy, u, yb, yo, ⟨hu0, hu1⟩, rfl, ⟨e0, lyb⟩, hku⟩ := hgo
            have hiy' : (i : Int) < (yl : Int) := by omega
            have CS := HS6.out.step (by omega)
            have hrem : u.tmod 4 = u % 4 := Int.tmod_eq_emod_of_nonneg hu0
            clear HS6
            go_wp2_with (go_at_call 16; refine CS.mono ?_; rintro e w7 ⟨u7, rfl, hst⟩; have HS7 : Hid (A1 w2 Zx Zy (i + 1) a6 n6 c6 (fun _ => False) w7) := hst; clear hst CS)
            go_roundw
            case rel => exact ⟨k + 1, by go_num, by omega, HS7⟩
            case measure => simp [intOf]; omega
          · have HD : Hid (A1 w2 Zx Zy (i + 1) a6 n6 c6 (fun _ => False) wr) := HS6
            by_cases hiy : i < yl
            · obtain ⟨u, yb, yo, h0, h1, rfl, h3⟩ := HY.out i hiy
              obtain ⟨e0, lyb⟩ := h3 wr (HBW.out _ HS6.out.bel)
              have hnk : ¬ (k : Int) < u % 4 := fun g => hgo ⟨hiy, u, yb, yo, ⟨h0, h1⟩, rfl, ⟨e0, lyb⟩, g⟩
              have hrem : u.tmod 4 = u % 4 := Int.tmod_eq_emod_of_nonneg h0
              have hiy' : (i : Int) < (yl : Int) := by omega
              clear hgo HS6 h3
              go_wp2
              go_roundw
              case rel => exact ⟨i + 1, a6, n6, c6, rfl, by go_num, by omega, HD.out⟩
              case measure => simp [intOf]; omega
            · have hiy' : ¬ (i : Int) < (yl : Int) := by omega
              clear hgo HS6
              go_wp2
              go_roundw
              case rel => exact ⟨i + 1, a6, n6, c6, rfl, by go_num, by omega, HD.out⟩
              case measure => simp [intOf]; omega
    · obtain rfl : i = zl := by omega
      have hnb := HS.out.len
      have HA3 : Hid (A3 w2 Zx Zy i 0 a nb c wr) := HS.out.back
      clear HS
      go_wp2_with fail
      go_loopw [17] (fun s17 wq => ∃ j : Nat, s17 = .int .i64 j ∧ j ≤ nb ∧ Hid (A3 w2 Zx Zy i j a nb c wq)) (fun s17 _ => nb - (intOf s17).toNat)
      case atStart => exact ⟨0, rfl, Nat.zero_le _, HA3⟩
      case round =>
        clear HA3
        obtain ⟨j, rfl, hj, HJ⟩ := hrel
        by_cases hjn : j < nb
        · have hjn' : (j : Int) < (nb : Int) := by omega
          obtain ⟨t, q, gb, off, ht0, ht1, hq, rfl, hgb, ⟨x0, x1, x2, x3, x4, x5⟩, CH⟩ := HJ.out.msg hjn hz30
          have HX : Hid (wr.cell? ⟨gb, off + j * 6, none⟩ = some (.int .i64 t) ∧ wr.cell? ⟨gb, off + j * 6 + 1, none⟩ = some (.int .i64 1) ∧ wr.cell? ⟨gb, off + j * 6 + 2, none⟩ = some (.int .i64 ((q : Nat) : Int)) ∧ wr.cell? ⟨gb, off + j * 6 + 3, none⟩ = some (.int .i64 0) ∧ wr.cell? ⟨gb, off + j * 6 + 4, none⟩ = some (.int .i64 0) ∧ wr.cell? ⟨gb, off + j * 6 + 5, none⟩ = some (.int .i64 0)) := ⟨x0, x1, x2, x3, x4, x5⟩
          clear HJ
          go_wp2_with (first
            | (go_at_call 13; refine CH.mono ?_; rintro e w6 ⟨u6, rfl, h6, hk6⟩; have HA4 : Hid (A4 w2 Zx Zy i j t q (some ⟨gb, off, none⟩) nb c w6) := h6; clear x0 x1 x2 x3 x4 x5; have x0 := (hk6 (off + j * 6)).trans (Hid.out HX).1; have x1 := (hk6 (off + j * 6 + 1)).trans (Hid.out HX).2.1; have x2 := (hk6 (off + j * 6 + 2)).trans (Hid.out HX).2.2.1; have x3 := (hk6 (off + j * 6 + 3)).trans (Hid.out HX).2.2.2.1; have x4 := (hk6 (off + j * 6 + 4)).trans (Hid.out HX).2.2.2.2.1; have x5 := (hk6 (off + j * 6 + 5)).trans (Hid.out HX).2.2.2.2.2; clear h6 hk6 CH)
            | (go_at_call 13; refine ((Hid.out HA4).again ht0 ht1 hq).mono ?_; rintro e w7 ⟨u7, rfl, h7⟩; have HJ7 : Hid (A3 w2 Zx Zy i (j + 1) (some ⟨gb, off, none⟩) nb c w7) := h7; clear h7 HA4 x0 x1 x2 x3 x4 x5))
          go_roundw
          case rel => exact ⟨j + 1, by go_num, by omega, HJ7.out⟩
          case measure => simp [intOf]; omega
        · have hjn' : ¬ (j : Int) < (nb : Int) := by omega
          have HA5 : Hid (A5 w2 Zx Zy i 0 0 wr) := HJ.out.same (by omega) hz30
          clear HJ
          go_wp2_with fail
          go_loopw [22] (fun s22 wq => ∃ k : Nat, s22 = .int .i64 k ∧ k ≤ i ∧ Hid (A5 w2 Zx Zy i k k wq)) (fun s22 _ => i - (intOf s22).toNat)
          case atStart => exact ⟨0, rfl, Nat.zero_le _, HA5⟩
          case round =>
            clear HA5
            obtain ⟨k, rfl, hk, HK⟩ := hrel
            by_cases hkn : k < i
            · have hkn' : (k : Int) < (i : Int) := by omega
              have C1 := HK.out.stepx
              clear HK
              go_wp2_with (first
                | (go_at_call 16; refine C1.mono ?_; rintro e w6 ⟨u6, rfl, h6⟩; have HK6 : Hid (A5 w2 Zx Zy i (k + 1) k w6) := h6; clear h6 C1)
                | (go_at_call 16; refine (Hid.out HK6).stepy.mono ?_; rintro e w7 ⟨u7, rfl, h7⟩; have HK7 : Hid (A5 w2 Zx Zy i (k + 1) (k + 1) w7) := h7; clear h7 HK6))
              go_roundw
              case rel => exact ⟨k + 1, by go_num, by omega, HK7.out⟩
              case measure => simp [intOf]; omega
            · have hkn' : ¬ (k : Int) < (i : Int) := by omega
              obtain ⟨dl, ml, ql, S, P1, P2, P3, P4, P5, P6, CB1, CB2, CL1, CC1, CL2, CC2, CSD, CSM, CS1, CS2, CW1, CW2, CBE⟩ := HK.out.fin (by omega) (by omega)
              have HCB2 : Hid _ := CB2
              have HCL1 : Hid _ := CL1
              have HCC1 : Hid _ := CC1
              have HCL2 : Hid _ := CL2
              have HCC2 : Hid _ := CC2
              have HCSD : Hid _ := CSD
              have HCSM : Hid _ := CSM
              have HCS1 : Hid _ := CS1
              have HCS2 : Hid _ := CS2
              have HCW1 : Hid _ := CW1
              have HCW2 : Hid _ := CW2
              have HCBE : Hid _ := CBE
              clear HK CB2 CL1 CC1 CL2 CC2 CSD CSM CS1 CS2 CW1 CW2 CBE
              go_wp2_with (first
                | (go_at_call 13; refine CB1.mono ?_; rintro e v1 ⟨u1, rfl, h1⟩; have H1 : Hid (P1 v1) := h1; clear h1 CB1)
                | (go_at_call 13; refine (Hid.out HCB2 _ (Hid.out H1)).mono ?_; rintro e v2 ⟨u2, rfl, h2⟩; have H2 : Hid (P2 v2) := h2; clear h2 H1)
                | (go_at_call 27; refine (Hid.out HCL1 _ (Hid.out H2)).mono ?_; rintro e v3 ⟨t3, rfl, h3⟩; have H3 : Hid (P3 t3 v3) := h3; clear h3 H2)
                | (go_at_call 18; refine (Hid.out HCC1 _ _ (Hid.out H3)).mono ?_; rintro e v4 ⟨a4, b4, c4, d4, rfl, h4⟩; have H4 : Hid (P4 a4 b4 c4 d4 v4) := h4; clear h4 H3)
                | (go_at_call 27; refine (Hid.out HCL2 _ _ _ _ _ (Hid.out H4)).mono ?_; rintro e v5 ⟨t5, rfl, h5⟩; have H5 : Hid (P5 a4 b4 c4 d4 t5 v5) := h5; clear h5 H4)
                | (go_at_call 18; refine (Hid.out HCC2 _ _ _ _ _ _ (Hid.out H5)).mono ?_; rintro e v6 ⟨a6, b6, c6, d6, rfl, h6⟩; have H6 : Hid (P6 a4 b4 c4 d4 a6 b6 c6 d6 v6) := h6; clear h6 H5)
                | (go_at_call 20; refine (Hid.out HCSD _ _ _ _ _ _ _ _ _ (Hid.out H6)).mono ?_; rintro e v7 ⟨rfl, h7⟩; have H7 : Hid (P6 a4 b4 c4 d4 a6 b6 c6 d6 v7) := h7; clear h7 H6)
                | (go_at_call 21; refine (Hid.out HCSM _ _ _ _ _ _ _ _ _ (Hid.out H7)).mono ?_; rintro e v8 ⟨rfl, h8⟩; have H8 : Hid (P6 a4 b4 c4 d4 a6 b6 c6 d6 v8) := h8; clear h8 H7)
                | (go_at_call 22; refine (Hid.out HCS1 _ _ _ _ _ _ _ _ _ (Hid.out H8)).mono ?_; rintro e v9 ⟨rfl, rfl⟩; clear HCS1)
                | (go_at_call 22; refine (Hid.out HCS2 _ _ _ _ _ _ _ _ _ (Hid.out H8)).mono ?_; rintro e v9 ⟨rfl, rfl⟩; clear HCS2)
                | (go_at_call 31; refine (Hid.out HCW1 _ _ _ _ _ _ _ _ _ (Hid.out H8)).mono ?_; rintro e v9 ⟨g9, h9, rfl, q9⟩; have H9 : Hid (P6 a4 b4 c4 d4 a6 b6 c6 d6 v9) := q9; clear q9 H8)
                | (go_at_call 31; refine (Hid.out HCW2 _ _ _ _ _ _ _ _ _ (Hid.out H9)).mono ?_; rintro e vz ⟨gz, hz9, rfl, qz⟩; have HZZ : Hid (P6 a4 b4 c4 d4 a6 b6 c6 d6 vz) := qz; clear qz H9))
              go_ret
              exact ⟨rfl, HBW.out _ (HCBE.out _ _ _ _ _ _ _ _ _ HZZ.out)⟩
end Go.Proofs.YtiaopafkfadmkaaGreat.V
