/- Proved: PubsubKinds answers true, whatever it is asked; what lay in memory is as it was. -/
import Derived.Test.YtkbldbbhcdiihaaWLea
namespace Go.Proofs.Ytkbldbbhcdiihaa
open Go.RowKit Go.Shelf
set_option linter.unusedVariables false

/-- A slice of bytes that came in. -/
def InB (w : World) (a : Option Addr) (n : Nat) (z : List Int) : Prop :=
  (∀ i, 0 ≤ z.getD i 0 ∧ z.getD i 0 ≤ 255) ∧ (n ≠ 0 → ∃ b off, a = some ⟨b, off, none⟩ ∧ b < w.heap.size ∧ ∀ i, i < n → w.cell? ⟨b, off + i, none⟩ = some (.int .u8 (z.getD i 0)))
/-- The beginning of a tree's parents. -/
def Beg (k : Nat) (L : List Int) : Prop := L.length = k ∧ ∀ i, i < k → -1 ≤ nthI L i ∧ nthI L i < (i : Int)
theorem Beg.snoc {k : Nat} {L : List Int} {x : Int} (h : Beg k L) (h0 : -1 ≤ x) (h1 : x < (k : Int)) : Beg (k + 1) (L ++ [x]) := by
  refine ⟨by simp [h.1], fun i hi => ?_⟩
  by_cases e : i = k
  · subst e
    have : nthI (L ++ [x]) i = x := by simp [nthI, h.1]
    rw [this]
    exact ⟨h0, h1⟩
  · have hl : i < L.length := by rw [h.1]; omega
    have : nthI (L ++ [x]) i = nthI L i := by simp [nthI, List.getElem?_append_left hl]
    rw [this]
    exact h.2 i (by omega)
theorem rem_b {x k : Int} (hx : 0 ≤ x) (hk : 0 ≤ k) : 0 ≤ x % (k + 1) ∧ x % (k + 1) < k + 1 := by
  exact ⟨Int.emod_nonneg _ (by omega), Int.emod_lt_of_pos _ (by omega)⟩

theorem len_nz {zs : List Int} (h : 1 ≤ zs.length) : ((zs.length : Int) == 0) = false := by rw [beq_eq_false_iff_ne]; omega
theorem mod_in {zs : List Int} (h : 1 ≤ zs.length) (x : Int) : 0 ≤ x % (zs.length : Int) ∧ x % (zs.length : Int) < (zs.length : Int) := ⟨Int.emod_nonneg _ (by omega), Int.emod_lt_of_pos _ (by omega)⟩
theorem L2.startZ {w W0 W1 W2 : World} {P Q : World → (Nat → Prop) → Prop} {F G : Nat → Prop} {b : Nat} (hP : Th P) (hb0 : Below w.heap.size w W0) (hb1 : w.heap.size ≤ b) (hb2 : b < W0.heap.size) (h1 : P W1 F) (hF : ∀ k, F k → W0.heap.size ≤ k) (b1 : Below W0.heap.size W0 W1) (h2 : Q W2 G) (hG : ∀ k, G k → W1.heap.size ≤ k) (b2 : Below W1.heap.size W1 W2) : L2 w W2 (fun k => k = b) P Q := by
  have s0 := hb0.size
  have s1 := b1.size
  have s2 := b2.size
  refine ⟨F, G, hP.below h1 b2, h2, fun k hk e => ?_, fun k hk => ?_, fun k hk => ?_, (hb0.trans (b1.mono s0)).trans (b2.mono (by omega)), ?_⟩
  · have := hP.lt h1 k hk; have := hG k e; omega
  · have := hF k hk; omega
  · have := hG k hk; omega
  · rintro k rfl
    exact ⟨fun e => by have := hF k e; omega, fun e => by have := hG k e; omega, by omega, hb1⟩
/-- The parents' cells. -/
def Pc (b : Nat) (zs : List Int) (W : World) : Prop := b < W.heap.size ∧ ∀ i, i < zs.length → W.cell? ⟨b, i, none⟩ = some (.int .i64 (nthI zs i))
theorem Pc.keep {b : Nat} {zs : List Int} {W W2 : World} {S : Nat → Prop} (h : Pc b zs W) (hf : Fr S W W2) (hS : ¬ S b) : Pc b zs W2 :=
  ⟨Nat.lt_of_lt_of_le h.1 hf.size, fun i hi => (hf.cell (p := ⟨b, i, none⟩) h.1 hS).trans (h.2 i hi)⟩
theorem Pc.below {b : Nat} {zs : List Int} {W W2 : World} (h : Pc b zs W) (hb : Below W.heap.size W W2) : Pc b zs W2 := h.keep (S := fun _ => False) (Fr.of_below hb) (fun g => g)
theorem Pc.rd {b : Nat} {zs : List Int} {W : World} (h : Pc b zs W) : RdI W W.heap.size (some ⟨b, 0, none⟩) zs := fun _ => ⟨b, 0, rfl, h.1, fun i hi => by rw [Nat.zero_add]; exact h.2 i hi⟩
/-- A made row that is not empty, as cells. -/
theorem Row.pc {w W : World} {v : Value} {xs : List Int} (h : Row w W v xs) (hx : 1 ≤ xs.length) : ∃ b c, v = .slice (some ⟨b, 0, none⟩) xs.length c ∧ w.heap.size ≤ b ∧ Pc b xs W := by
  obtain ⟨a, c, e, hr⟩ := h.rd
  rcases h.1.2 with ⟨_, hk⟩ | ⟨g, cap, cur, e2, hg, _⟩
  · omega
  · obtain ⟨b, off, e3, hb, hc⟩ := hr (by intro e; rw [e] at hx; simp at hx)
    have : b = g ∧ off = 0 := by
      rw [e, e3] at e2
      simp at e2
      exact ⟨e2.1.1, e2.1.2⟩
    obtain ⟨rfl, rfl⟩ := this
    refine ⟨b, cap, e2, hg, hb, fun i hi => ?_⟩
    have := hc i hi
    rwa [Nat.zero_add] at this
/-- Who hears what, when one has subscribed to one class alone. -/
theorem hear_one {zs : List Int} {g k : Nat} (hg : g < 8) (hk : k < zs.length) {i : Nat} (hi : i < zs.length) : hearB zs (putB zs.length noB (g : Int) (k : Int) true) (g : Int) (i : Int) = decide ((k : Int) ∈ abv zs (i : Int)) := by
  unfold hearB putB
  rw [if_pos (ok8 hg hk), decide_eq_true (ok8 hg hi), Bool.true_and]
  by_cases e : (k : Int) ∈ abv zs (i : Int)
  · rw [decide_eq_true e]
    exact List.any_eq_true.2 ⟨(k : Int), e, by simp [updB]⟩
  · rw [decide_eq_false e]
    refine List.any_eq_false.2 (fun x hx => ?_)
    have : ¬ x = (k : Int) := fun h => e (h ▸ hx)
    simp [updB, this, noB]
theorem hear_other {zs : List Int} {g h k : Nat} (hg : g < 8) (hh : h < 8) (hne : ¬ h = g) (hk : k < zs.length) {i : Nat} (hi : i < zs.length) : hearB zs (putB zs.length noB (g : Int) (k : Int) true) (h : Int) (i : Int) = false := by
  unfold hearB putB
  rw [if_pos (ok8 hg hk), decide_eq_true (ok8 hh hi), Bool.true_and]
  refine List.any_eq_false.2 (fun x hx => ?_)
  simp [updB, hne, noB]
theorem hear_gone {zs : List Int} {g k : Nat} (hg : g < 8) (hk : k < zs.length) {s : Tab} : hearB zs (outB s (g : Int)) (g : Int) (k : Int) = false := by
  have e0 : okF (g : Int) = 0 := by unfold okF; rw [if_neg (by omega)]
  unfold hearB outB
  rw [if_pos e0, decide_eq_true (ok8 hg hk), Bool.true_and]
  refine List.any_eq_false.2 (fun x hx => ?_)
  simp [clrB]

set_option maxRecDepth 100000 in
set_option maxHeartbeats 4000000 in
theorem kinds_walk {PT : Nat → List Int → Tab → Tab → World → (Nat → Prop) → Prop} (I : PI PT) (w : World) (a : Option Addr) (n c : Nat) (z : List Int) (f k0 : Int) (hn : n ≤ maxLen) (h : InB w a n z) (hf : 0 ≤ f ∧ f ≤ 255) (hk0 : 0 ≤ k0 ∧ k0 ≤ 255) :
    Calls Try.prog 5 #[.slice a n c, .int .u8 f, .int .u8 k0] w fun e w' => e = .returned (.bool true) ∧ Below w.heap.size w w' := by
  obtain ⟨i0, hi, hz0, hz1, hz2⟩ := info_parts info3
  have HIN : Hid _ := h
  have hn' : n ≤ 9223372036854775807 := by unfold maxLen at hn; omega
  clear h
  go_enter Try.func5, Try.ntmps5
  go_wp2_with fail
  go_loopw [7, 8] (fun s3 s4 wr => ∃ (k : Nat) (L : List Int), k ≤ n ∧ k ≤ 16 ∧ s4 = .int .i64 k ∧ Hid (Beg k L) ∧ Hid (Row w wr s3 L)) (fun _ s4 _ => n - (intOf s4).toNat)
  case atStart => exact ⟨0, [], Nat.zero_le _, Nat.zero_le _, rfl, (⟨rfl, fun i hi => absurd hi (Nat.not_lt_zero _)⟩ : Beg 0 []), Row.empty w⟩
  case round =>
    obtain ⟨k, L, hk, hk16, rfl, HL, HW⟩ := hrel
    by_cases hkl : k < n ∧ k < 16
    · obtain ⟨hkl, hkm⟩ := hkl
      have hk' : (k : Int) < (n : Int) := by omega
      have hkm' : (k : Int) < 16 := by omega
      obtain ⟨b, off, rfl, hb, hc⟩ := HIN.out.2 (by omega)
      have x0 := (Below.cell (p := ⟨b, off + k, none⟩) (Hid.out HW).2 hb).trans (hc k hkl)
      have hx := HIN.out.1 k
      obtain ⟨x, hxx⟩ : ∃ x, z.getD k 0 = x := ⟨_, rfl⟩
      rw [hxx] at x0 hx
      have hr := rem_b (x := x) (k := (k : Int)) hx.1 (by omega)
      have hlen : L.length = k := (Hid.out HL).1
      have hsz := (Hid.out HW).2.size
      clear hxx hc
      have hwr : wrap64 (x % ((k : Int) + 1) - 1) = x % ((k : Int) + 1) - 1 := by
        unfold wrap64
        omega
      go_wp2_with (at_builtin; refine wpList_append_own _ rfl _ _ 22 rfl w.heap.size 3 i0 (.int .i64 0) 1 8 Try.underlying22 hi hz0 hz1 hz2 rfl (by decide) _ _ _ rfl (World.ownsRow.alloc (Hid.out HW).1 _) ⟨wr.heap.size, 0, none⟩ 1 1 [.int .i64 (x % ((k : Int) + 1) - 1)] rfl rfl (cell_one_new _ _ _) (by simp [Value.oneCell']) (by unfold maxLen; omega) (by omega) (by simp; omega) ?_)
      intro v' w2 hown' hgrow _
      have HW2 : Hid _ := Row.app (x := x % ((k : Int) + 1) - 1) HW.out (by rw [hlen]; exact hown') hgrow
      clear hown' hgrow
      go_wp2
      go_roundw
      case rel => exact ⟨k + 1, _, by omega, by omega, by go_num, Beg.snoc HL.out (by omega) (by omega), HW2.out⟩
      case measure => simp [intOf]; omega
    · have hlen : L.length = k := (Hid.out HL).1
      have hsz := (Hid.out HW).2.size
      by_cases hk0' : k = 0
      · obtain rfl : L = [] := List.eq_nil_of_length_eq_zero (by omega)
        obtain rfl : n = 0 := by omega
        subst hk0'
        obtain ⟨a1, c1, rfl, hRd⟩ := (show Row _ _ _ _ from HW.out).rd
        clear hRd
        go_wp2_with (at_builtin; refine wpList_append_own _ rfl _ _ 22 rfl w.heap.size 3 i0 (.int .i64 0) 1 8 Try.underlying22 hi hz0 hz1 hz2 rfl (by decide) _ _ _ rfl (World.ownsRow.alloc (Hid.out HW).1 _) ⟨wr.heap.size, 0, none⟩ 1 1 [.int .i64 (-1)] rfl rfl (cell_one_new _ _ _) (by simp [Value.oneCell']) (by decide) (by decide) (by simp; omega) ?_)
        intro v' wm hown' hgrow _
        have hW2 : Row w wm v' [-1] := Row.app HW.out hown' hgrow
        clear hown' hgrow
        have hok : OKT [-1] := (okT_iff _).1 (by decide)
        obtain ⟨zs, hzs⟩ : ∃ zs, ([-1] : List Int) = zs := ⟨_, rfl⟩
        rw [hzs] at hW2 hok
        obtain ⟨b, cp, rfl, hbw, hpc⟩ := hW2.pc hok.1
        have HPC : Hid (Pc b zs wm) := hpc
        have HOK : Hid (OKT zs) := hok
        have hbm := hW2.2
        clear hok hpc hW2 hzs
        have hl1 := HOK.out.1
        have hl2 := HOK.out.2.1
        have NP := I.new wm (some ⟨b, 0, none⟩) cp zs (Pc.rd HPC.out) HOK.out
        have NR : Hid (∀ W, Pc b zs W → Calls Try.prog 9 #[.slice (some ⟨b, 0, none⟩) zs.length cp] W _) := fun W (hp : Pc b zs W) => bnew W (some ⟨b, 0, none⟩) cp zs (Pc.rd hp) HOK.out
        have hnz := len_nz hl1
        have hnz' : ¬ ((zs.length : Int) = 0) := by omega
        obtain ⟨g, hg⟩ := Int.eq_ofNat_of_zero_le (show 0 ≤ f % 8 by omega)
        have hg8 : g < 8 := by omega
        have hdb := mod_in hl1 k0
        obtain ⟨d, hd⟩ := Int.eq_ofNat_of_zero_le hdb.1
        rw [hd] at hdb
        have hdl : d < zs.length := by omega
        clear hdb
        go_wp2_with fail
        refine NP.mono ?_
        rintro e w1 ⟨ta, F1, rfl, h1, hF1, hb1⟩
        have R1 := NR.out w1 (Pc.below HPC.out hb1)
        clear NP NR
        go_wp2_with fail
        refine R1.mono ?_
        rintro e w2 ⟨rb, F2, rfl, h2, hF2, hb2⟩
        have T2 : L2 w w2 (fun k => k = b) (PT ta zs noB noB) (RB rb zs noB noB 0) := L2.startZ (I.th _ _ _ _) hbm hbw (Hid.out HPC).1 h1 hF1 hb1 h2 hF2 hb2
        have HP2 : Hid (Pc b zs w2) := Pc.below (Pc.below HPC.out hb1) hb2
        have S1 := L2.callP T2 (thB _ _ _ _ _) (fun F hF => I.sub hF (g : Int) (d : Int) true)
        rw [ok8 hg8 hdl] at S1
        have S2 : Hid (∀ W p s, L2 w W (fun k => k = b) (PT ta zs p s) (RB rb zs noB noB 0) → Calls Try.prog 11 #[.pointer (some ⟨rb, 0, none⟩), .int .i64 g, .int .i64 d, .bool true] W fun e w' => e = .returned (.int .i64 0) ∧ L2 w w' (fun k => k = b) (PT ta zs p s) (RB rb zs noB (putB zs.length noB g d true) 1) ∧ Fr (fun k => ¬ k = b) W w') := fun W p s (hW : L2 w W (fun k => k = b) (PT ta zs p s) (RB rb zs noB noB 0)) => by
          have := L2.callQ hW (I.th _ _ _ _) (fun F hF => bsub hF (by omega) (g : Int) (d : Int) true)
          rw [ok8 hg8 hdl] at this
          exact this
        clear R1 h1 h2 hF1 hF2 hb1 hb2 T2 HPC
        go_wp2_with (first
          | (go_at_call 22; refine S1.mono ?_; rintro e w3 ⟨rfl, T3, f3⟩; have HT3 : Hid _ := T3; have HP3 : Hid (Pc b zs w3) := Pc.keep HP2.out f3 (fun g => g rfl); clear S1 T3 f3 HP2)
          | (go_at_call 11; refine (S2.out w3 _ _ HT3.out).mono ?_; rintro e w4 ⟨rfl, T4, f4⟩; have HT4 : Hid _ := T4; have HP4 : Hid (Pc b zs w4) := Pc.keep HP3.out f4 (fun g => g rfl); clear S2 T4 f4 HP3 HT3))
        try rw [hg]
        try rw [hd]
        clear hg hd
        obtain ⟨s1, hs1⟩ : ∃ s1, putB zs.length noB (g : Int) (d : Int) true = s1 := ⟨_, rfl⟩
        rw [hs1] at HT4
        have HS1 : Hid _ := hs1
        clear hs1
        go_loopw [15] (fun si wr => ∃ i : Nat, i ≤ zs.length ∧ si = .int .i64 i ∧ Hid (Pc b zs wr) ∧ Hid (L2 w wr (fun k => k = b) (PT ta zs noB s1) (RB rb zs noB s1 1))) (fun si _ => zs.length - (intOf si).toNat)
        case atStart => exact ⟨0, Nat.zero_le _, rfl, HP4.out, HT4.out⟩
        case round =>
          clear HP4 HT4
          obtain ⟨i, hi, rfl, HP5, HT5⟩ := hrel
          by_cases hil : i < zs.length
          · have hil' : (i : Int) < (zs.length : Int) := by omega
            have HAB : Hid (abv zs (i : Int) = ups zs (i : Int)) := abv_ok HOK.out (by omega) (by omega)
            go_wp2_with fail
            go_loopw [16] (fun sa wx => wx = wr ∧ ∃ u : Int, sa = .int .i64 u ∧ -1 ≤ u ∧ u < zs.length ∧ Hid ((d : Int) ∈ abv zs (i : Int) ↔ (d : Int) ∈ ups zs u)) (fun sa _ => (intOf sa + 1).toNat)
            case atStart => exact ⟨rfl, i, rfl, by omega, by omega, by show _ ↔ _; rw [HAB.out]⟩
            case round =>
              obtain ⟨rfl, u, rfl, hu0, hu1, HU⟩ := hrel
              have A1 : Hid (∀ (j : Nat) W, j < 8 → L2 w W (fun k => k = b) (PT ta zs noB s1) (RB rb zs noB s1 1) → Pc b zs W → Calls Try.prog 19 #[.pointer (some ⟨ta, 0, none⟩), .int .i64 j, .int .i64 i] W fun e w' => e = .returned (.bool (hearB zs s1 j i)) ∧ L2 w w' (fun k => k = b) (PT ta zs noB s1) (RB rb zs noB s1 1) ∧ Pc b zs w') := fun j W _ (hW : L2 w W (fun k => k = b) (PT ta zs noB s1) (RB rb zs noB s1 1)) (hp : Pc b zs W) => by
                obtain ⟨F, hF⟩ := L2.seeP hW
                exact (I.hears hF j i).mono (fun e w' u => ⟨u.1, L2.below hW (I.th _ _ _ _) (thB _ _ _ _ _) u.2, Pc.below hp u.2⟩)
              have A2 : Hid (∀ W, L2 w W (fun k => k = b) (PT ta zs noB s1) (RB rb zs noB s1 1) → Pc b zs W → Calls Try.prog 20 #[.pointer (some ⟨rb, 0, none⟩), .int .i64 g, .int .i64 i] W fun e w' => e = .returned (.bool (hearB zs s1 g i)) ∧ L2 w w' (fun k => k = b) (PT ta zs noB s1) (RB rb zs noB s1 1) ∧ Pc b zs w') := fun W (hW : L2 w W (fun k => k = b) (PT ta zs noB s1) (RB rb zs noB s1 1)) (hp : Pc b zs W) => by
                obtain ⟨F, hF⟩ := L2.seeQ hW
                exact (bhears hF (by omega) (by omega) g i).mono (fun e w' u => ⟨u.1, L2.below hW (I.th _ _ _ _) (thB _ _ _ _ _) u.2, Pc.below hp u.2⟩)
              have H1 := A1.out g wr hg8 HT5.out HP5.out
              have hh1 : hearB zs s1 (g : Int) (i : Int) = decide ((d : Int) ∈ abv zs (i : Int)) := by rw [← HS1.out]; exact hear_one hg8 hdl hil
              obtain ⟨j, hj⟩ := Int.eq_ofNat_of_zero_le (show 0 ≤ ((g : Int) + 1) % 8 by omega)
              have hj8 : j < 8 := by omega
              have hh2 : hearB zs s1 (j : Int) (i : Int) = false := by rw [← HS1.out]; exact hear_other hg8 hj8 (by omega) hdl hil
              have A3 : Hid (∀ W, L2 w W (fun k => k = b) (PT ta zs noB s1) (RB rb zs noB s1 1) → Pc b zs W → Calls Try.prog 19 #[.pointer (some ⟨ta, 0, none⟩), .int .i64 j, .int .i64 i] W _) := fun W (hW : L2 w W (fun k => k = b) (PT ta zs noB s1) (RB rb zs noB s1 1)) (hp : Pc b zs W) => A1.out j W hj8 hW hp
              have A4 : Hid (∀ W, L2 w W (fun k => k = b) (PT ta zs noB s1) (RB rb zs noB s1 1) → Pc b zs W → Calls Try.prog 19 #[.pointer (some ⟨ta, 0, none⟩), .int .i64 g, .int .i64 i] W _) := fun W (hW : L2 w W (fun k => k = b) (PT ta zs noB s1) (RB rb zs noB s1 1)) (hp : Pc b zs W) => A1.out g W hg8 hW hp
              rw [hh1] at H1 A2 A4
              rw [hh2] at A3
              clear hh1 hh2 A1
              by_cases hun : u < 0
              · have hno : ¬ (d : Int) ∈ abv zs (i : Int) := fun e => by have := HU.out.1 e; rw [ups_neg zs u hun] at this; simp at this
                have d1 : decide (0 ≤ u) = false := by simp; omega
                have d2 : (u == (d : Int)) = false := by rw [beq_eq_false_iff_ne]; omega
                rw [decide_eq_false hno] at H1 A2 A4
                clear hno
                go_wp2_with (first
                  | (go_at_call 19; refine (A4.out w7 HT7.out HP7.out).mono ?_; rintro e w8 ⟨rfl, T8, p8⟩; have HT8 : Hid _ := T8; have HP8 : Hid _ := p8; clear A4 T8 p8)
                  | (go_at_call 19; refine (A3.out w6 HT6.out HP6.out).mono ?_; rintro e w7 ⟨rfl, T7, p7⟩; have HT7 : Hid _ := T7; have HP7 : Hid _ := p7; clear A3 T7 p7)
                  | (go_at_call 19; refine H1.mono ?_; rintro e w6 ⟨rfl, T6, p6⟩; have HT6 : Hid _ := T6; have HP6 : Hid _ := p6; clear H1 T6 p6)
                  | (go_at_call 20; refine (A2.out w8 HT8.out HP8.out).mono ?_; rintro e w9 ⟨rfl, T9, p9⟩; have HT9 : Hid _ := T9; have HP9 : Hid _ := p9; clear A2 T9 p9))
                go_roundw
                case rel => exact ⟨i + 1, by omega, by go_num, HP9.out, HT9.out⟩
                case measure => simp [intOf]; omega
              · have d1 : decide (0 ≤ u) = true := by simp; omega
                by_cases hud : u = (d : Int)
                · subst hud
                  have hyes : (d : Int) ∈ abv zs (i : Int) := HU.out.2 (by rw [ups_step HOK.out (d : Int) (by omega) hu1]; simp)
                  rw [decide_eq_true hyes] at H1 A2 A4
                  clear hyes
                  go_wp2_with (first
                    | (go_at_call 19; refine (A4.out w7 HT7.out HP7.out).mono ?_; rintro e w8 ⟨rfl, T8, p8⟩; have HT8 : Hid _ := T8; have HP8 : Hid _ := p8; clear A4 T8 p8)
                    | (go_at_call 19; refine (A3.out w6 HT6.out HP6.out).mono ?_; rintro e w7 ⟨rfl, T7, p7⟩; have HT7 : Hid _ := T7; have HP7 : Hid _ := p7; clear A3 T7 p7)
                    | (go_at_call 19; refine H1.mono ?_; rintro e w6 ⟨rfl, T6, p6⟩; have HT6 : Hid _ := T6; have HP6 : Hid _ := p6; clear H1 T6 p6)
                    | (go_at_call 20; refine (A2.out w8 HT8.out HP8.out).mono ?_; rintro e w9 ⟨rfl, T9, p9⟩; have HT9 : Hid _ := T9; have HP9 : Hid _ := p9; clear A2 T9 p9))
                  go_roundw
                  case rel => exact ⟨i + 1, by omega, by go_num, HP9.out, HT9.out⟩
                  case measure => simp [intOf]; omega
                · have d2 : (u == (d : Int)) = false := by simpa using hud
                  obtain ⟨q, rfl⟩ := Int.eq_ofNat_of_zero_le (show 0 ≤ u by omega)
                  have hql : q < zs.length := by omega
                  have x0 := (Hid.out HP5).2 q hql
                  have hpq := HOK.out.2.2 q hql
                  have hst := ups_step HOK.out (q : Int) (by omega) hu1
                  rw [show ((q : Int)).toNat = q by simp] at hst
                  obtain ⟨x, hx⟩ : ∃ x, nthI zs q = x := ⟨_, rfl⟩
                  rw [hx] at x0 hpq hst
                  have HST : Hid _ := hst
                  have hq' : (q : Int) < (zs.length : Int) := by omega
                  clear hx hst H1 A2 A3 A4 hj
                  go_wp2_with fail
                  go_roundw
                  case rel =>
                    refine ⟨by first | rfl | trivial, x, rfl, hpq.1, by omega, ?_⟩
                    show _ ↔ _
                    rw [HU.out, HST.out]
                    simp only [List.mem_cons]
                    constructor
                    · rintro (e | e)
                      · exact absurd e.symm hud
                      · exact e
                    · exact .inr
                  case measure => simp [intOf]; omega
          · obtain rfl : i = zs.length := by omega
            have L1 := L2.callP HT5.out (thB _ _ _ _ _) (fun F hF => I.leave hF (g : Int))
            have e1 : okF (g : Int) = 0 := by unfold okF; rw [if_neg (by omega)]
            have hq := hear_gone (s := s1) hg8 hdl
            rw [e1] at L1
            have H1 : Hid (∀ W p, L2 w W (fun k => k = b) (PT ta zs p (outB s1 (g : Int))) (RB rb zs noB s1 1) → Calls Try.prog 19 #[.pointer (some ⟨ta, 0, none⟩), .int .i64 g, .int .i64 d] W fun e w' => e = .returned (.bool false) ∧ Below w.heap.size w w') := fun W p (hW : L2 w W (fun k => k = b) (PT ta zs p (outB s1 (g : Int))) (RB rb zs noB s1 1)) => by
              obtain ⟨F, hF⟩ := L2.seeP hW
              exact (I.hears hF g d).mono (fun e w' u => ⟨by rw [u.1, hq], Below.on (L2.bel hW) u.2⟩)
            clear e1 hq
            go_wp2_with (first
              | (go_at_call 23; refine L1.mono ?_; rintro e w6 ⟨rfl, T6, _⟩; have HT6 : Hid _ := T6; clear L1 T6)
              | (go_at_call 19; refine (H1.out w6 _ HT6.out).mono ?_; rintro e w7 ⟨rfl, b7⟩; clear H1))
            go_ret
            exact ⟨rfl, b7⟩
      · have hL1 : 1 ≤ L.length := by omega
        have hk2 : ((L.length : Int) == 0) = false := by rw [beq_eq_false_iff_ne]; omega
        have hk3 : ¬ (L.length : Int) = 0 := by omega
        by_cases gn : k < n
        · have hk' : (k : Int) < (n : Int) := by omega
          obtain rfl : k = 16 := by omega
          obtain ⟨b, cp, rfl, hbw, hpc⟩ := (show Row _ _ _ _ from HW.out).pc (by omega)
          have HPC : Hid (Pc b L wr) := hpc
          have HOK : Hid (OKT L) := (⟨by omega, by omega, by rw [hlen]; exact (Hid.out HL).2⟩ : OKT L)
          have hbm := (Hid.out HW).2
          clear hpc HW HL hlen
          have hl1 := HOK.out.1
          have hl2 := HOK.out.2.1
          have NP := I.new wr (some ⟨b, 0, none⟩) cp L (Pc.rd HPC.out) HOK.out
          have NR : Hid (∀ W, Pc b L W → Calls Try.prog 9 #[.slice (some ⟨b, 0, none⟩) L.length cp] W _) := fun W (hp : Pc b L W) => bnew W (some ⟨b, 0, none⟩) cp L (Pc.rd hp) HOK.out
          have hnz := len_nz hl1
          have hnz' : ¬ ((L.length : Int) = 0) := by omega
          obtain ⟨g, hg⟩ := Int.eq_ofNat_of_zero_le (show 0 ≤ f % 8 by omega)
          have hg8 : g < 8 := by omega
          have hdb := mod_in hl1 k0
          obtain ⟨d, hd⟩ := Int.eq_ofNat_of_zero_le hdb.1
          rw [hd] at hdb
          have hdl : d < L.length := by omega
          clear hdb
          go_wp2_with fail
          refine NP.mono ?_
          rintro e w1 ⟨ta, F1, rfl, h1, hF1, hb1⟩
          have R1 := NR.out w1 (Pc.below HPC.out hb1)
          clear NP NR
          go_wp2_with fail
          refine R1.mono ?_
          rintro e w2 ⟨rb, F2, rfl, h2, hF2, hb2⟩
          have T2 : L2 w w2 (fun k => k = b) (PT ta L noB noB) (RB rb L noB noB 0) := L2.startZ (I.th _ _ _ _) hbm hbw (Hid.out HPC).1 h1 hF1 hb1 h2 hF2 hb2
          have HP2 : Hid (Pc b L w2) := Pc.below (Pc.below HPC.out hb1) hb2
          have S1 := L2.callP T2 (thB _ _ _ _ _) (fun F hF => I.sub hF (g : Int) (d : Int) true)
          rw [ok8 hg8 hdl] at S1
          have S2 : Hid (∀ W p s, L2 w W (fun k => k = b) (PT ta L p s) (RB rb L noB noB 0) → Calls Try.prog 11 #[.pointer (some ⟨rb, 0, none⟩), .int .i64 g, .int .i64 d, .bool true] W fun e w' => e = .returned (.int .i64 0) ∧ L2 w w' (fun k => k = b) (PT ta L p s) (RB rb L noB (putB L.length noB g d true) 1) ∧ Fr (fun k => ¬ k = b) W w') := fun W p s (hW : L2 w W (fun k => k = b) (PT ta L p s) (RB rb L noB noB 0)) => by
            have := L2.callQ hW (I.th _ _ _ _) (fun F hF => bsub hF (by omega) (g : Int) (d : Int) true)
            rw [ok8 hg8 hdl] at this
            exact this
          clear R1 h1 h2 hF1 hF2 hb1 hb2 T2 HPC
          go_wp2_with (first
            | (go_at_call 22; refine S1.mono ?_; rintro e w3 ⟨rfl, T3, f3⟩; have HT3 : Hid _ := T3; have HP3 : Hid (Pc b L w3) := Pc.keep HP2.out f3 (fun g => g rfl); clear S1 T3 f3 HP2)
            | (go_at_call 11; refine (S2.out w3 _ _ HT3.out).mono ?_; rintro e w4 ⟨rfl, T4, f4⟩; have HT4 : Hid _ := T4; have HP4 : Hid (Pc b L w4) := Pc.keep HP3.out f4 (fun g => g rfl); clear S2 T4 f4 HP3 HT3))
          try rw [hg]
          try rw [hd]
          clear hg hd
          obtain ⟨s1, hs1⟩ : ∃ s1, putB L.length noB (g : Int) (d : Int) true = s1 := ⟨_, rfl⟩
          rw [hs1] at HT4
          have HS1 : Hid _ := hs1
          clear hs1
          go_loopw [15] (fun si wr => ∃ i : Nat, i ≤ L.length ∧ si = .int .i64 i ∧ Hid (Pc b L wr) ∧ Hid (L2 w wr (fun k => k = b) (PT ta L noB s1) (RB rb L noB s1 1))) (fun si _ => L.length - (intOf si).toNat)
          case atStart => exact ⟨0, Nat.zero_le _, rfl, HP4.out, HT4.out⟩
          case round =>
            clear HP4 HT4
            obtain ⟨i, hi, rfl, HP5, HT5⟩ := hrel
            by_cases hil : i < L.length
            · have hil' : (i : Int) < (L.length : Int) := by omega
              have HAB : Hid (abv L (i : Int) = ups L (i : Int)) := abv_ok HOK.out (by omega) (by omega)
              go_wp2_with fail
              go_loopw [16] (fun sa wx => wx = wr ∧ ∃ u : Int, sa = .int .i64 u ∧ -1 ≤ u ∧ u < L.length ∧ Hid ((d : Int) ∈ abv L (i : Int) ↔ (d : Int) ∈ ups L u)) (fun sa _ => (intOf sa + 1).toNat)
              case atStart => exact ⟨rfl, i, rfl, by omega, by omega, by show _ ↔ _; rw [HAB.out]⟩
              case round =>
                obtain ⟨rfl, u, rfl, hu0, hu1, HU⟩ := hrel
                have A1 : Hid (∀ (j : Nat) W, j < 8 → L2 w W (fun k => k = b) (PT ta L noB s1) (RB rb L noB s1 1) → Pc b L W → Calls Try.prog 19 #[.pointer (some ⟨ta, 0, none⟩), .int .i64 j, .int .i64 i] W fun e w' => e = .returned (.bool (hearB L s1 j i)) ∧ L2 w w' (fun k => k = b) (PT ta L noB s1) (RB rb L noB s1 1) ∧ Pc b L w') := fun j W _ (hW : L2 w W (fun k => k = b) (PT ta L noB s1) (RB rb L noB s1 1)) (hp : Pc b L W) => by
                  obtain ⟨F, hF⟩ := L2.seeP hW
                  exact (I.hears hF j i).mono (fun e w' u => ⟨u.1, L2.below hW (I.th _ _ _ _) (thB _ _ _ _ _) u.2, Pc.below hp u.2⟩)
                have A2 : Hid (∀ W, L2 w W (fun k => k = b) (PT ta L noB s1) (RB rb L noB s1 1) → Pc b L W → Calls Try.prog 20 #[.pointer (some ⟨rb, 0, none⟩), .int .i64 g, .int .i64 i] W fun e w' => e = .returned (.bool (hearB L s1 g i)) ∧ L2 w w' (fun k => k = b) (PT ta L noB s1) (RB rb L noB s1 1) ∧ Pc b L w') := fun W (hW : L2 w W (fun k => k = b) (PT ta L noB s1) (RB rb L noB s1 1)) (hp : Pc b L W) => by
                  obtain ⟨F, hF⟩ := L2.seeQ hW
                  exact (bhears hF (by omega) (by omega) g i).mono (fun e w' u => ⟨u.1, L2.below hW (I.th _ _ _ _) (thB _ _ _ _ _) u.2, Pc.below hp u.2⟩)
                have H1 := A1.out g wr hg8 HT5.out HP5.out
                have hh1 : hearB L s1 (g : Int) (i : Int) = decide ((d : Int) ∈ abv L (i : Int)) := by rw [← HS1.out]; exact hear_one hg8 hdl hil
                obtain ⟨j, hj⟩ := Int.eq_ofNat_of_zero_le (show 0 ≤ ((g : Int) + 1) % 8 by omega)
                have hj8 : j < 8 := by omega
                have hh2 : hearB L s1 (j : Int) (i : Int) = false := by rw [← HS1.out]; exact hear_other hg8 hj8 (by omega) hdl hil
                have A3 : Hid (∀ W, L2 w W (fun k => k = b) (PT ta L noB s1) (RB rb L noB s1 1) → Pc b L W → Calls Try.prog 19 #[.pointer (some ⟨ta, 0, none⟩), .int .i64 j, .int .i64 i] W _) := fun W (hW : L2 w W (fun k => k = b) (PT ta L noB s1) (RB rb L noB s1 1)) (hp : Pc b L W) => A1.out j W hj8 hW hp
                have A4 : Hid (∀ W, L2 w W (fun k => k = b) (PT ta L noB s1) (RB rb L noB s1 1) → Pc b L W → Calls Try.prog 19 #[.pointer (some ⟨ta, 0, none⟩), .int .i64 g, .int .i64 i] W _) := fun W (hW : L2 w W (fun k => k = b) (PT ta L noB s1) (RB rb L noB s1 1)) (hp : Pc b L W) => A1.out g W hg8 hW hp
                rw [hh1] at H1 A2 A4
                rw [hh2] at A3
                clear hh1 hh2 A1
                by_cases hun : u < 0
                · have hno : ¬ (d : Int) ∈ abv L (i : Int) := fun e => by have := HU.out.1 e; rw [ups_neg L u hun] at this; simp at this
                  have d1 : decide (0 ≤ u) = false := by simp; omega
                  have d2 : (u == (d : Int)) = false := by rw [beq_eq_false_iff_ne]; omega
                  rw [decide_eq_false hno] at H1 A2 A4
                  clear hno
                  go_wp2_with (first
                    | (go_at_call 19; refine (A4.out w7 HT7.out HP7.out).mono ?_; rintro e w8 ⟨rfl, T8, p8⟩; have HT8 : Hid _ := T8; have HP8 : Hid _ := p8; clear A4 T8 p8)
                    | (go_at_call 19; refine (A3.out w6 HT6.out HP6.out).mono ?_; rintro e w7 ⟨rfl, T7, p7⟩; have HT7 : Hid _ := T7; have HP7 : Hid _ := p7; clear A3 T7 p7)
                    | (go_at_call 19; refine H1.mono ?_; rintro e w6 ⟨rfl, T6, p6⟩; have HT6 : Hid _ := T6; have HP6 : Hid _ := p6; clear H1 T6 p6)
                    | (go_at_call 20; refine (A2.out w8 HT8.out HP8.out).mono ?_; rintro e w9 ⟨rfl, T9, p9⟩; have HT9 : Hid _ := T9; have HP9 : Hid _ := p9; clear A2 T9 p9))
                  go_roundw
                  case rel => exact ⟨i + 1, by omega, by go_num, HP9.out, HT9.out⟩
                  case measure => simp [intOf]; omega
                · have d1 : decide (0 ≤ u) = true := by simp; omega
                  by_cases hud : u = (d : Int)
                  · subst hud
                    have hyes : (d : Int) ∈ abv L (i : Int) := HU.out.2 (by rw [ups_step HOK.out (d : Int) (by omega) hu1]; simp)
                    rw [decide_eq_true hyes] at H1 A2 A4
                    clear hyes
                    go_wp2_with (first
                      | (go_at_call 19; refine (A4.out w7 HT7.out HP7.out).mono ?_; rintro e w8 ⟨rfl, T8, p8⟩; have HT8 : Hid _ := T8; have HP8 : Hid _ := p8; clear A4 T8 p8)
                      | (go_at_call 19; refine (A3.out w6 HT6.out HP6.out).mono ?_; rintro e w7 ⟨rfl, T7, p7⟩; have HT7 : Hid _ := T7; have HP7 : Hid _ := p7; clear A3 T7 p7)
                      | (go_at_call 19; refine H1.mono ?_; rintro e w6 ⟨rfl, T6, p6⟩; have HT6 : Hid _ := T6; have HP6 : Hid _ := p6; clear H1 T6 p6)
                      | (go_at_call 20; refine (A2.out w8 HT8.out HP8.out).mono ?_; rintro e w9 ⟨rfl, T9, p9⟩; have HT9 : Hid _ := T9; have HP9 : Hid _ := p9; clear A2 T9 p9))
                    go_roundw
                    case rel => exact ⟨i + 1, by omega, by go_num, HP9.out, HT9.out⟩
                    case measure => simp [intOf]; omega
                  · have d2 : (u == (d : Int)) = false := by simpa using hud
                    obtain ⟨q, rfl⟩ := Int.eq_ofNat_of_zero_le (show 0 ≤ u by omega)
                    have hql : q < L.length := by omega
                    have x0 := (Hid.out HP5).2 q hql
                    have hpq := HOK.out.2.2 q hql
                    have hst := ups_step HOK.out (q : Int) (by omega) hu1
                    rw [show ((q : Int)).toNat = q by simp] at hst
                    obtain ⟨x, hx⟩ : ∃ x, nthI L q = x := ⟨_, rfl⟩
                    rw [hx] at x0 hpq hst
                    have HST : Hid _ := hst
                    have hq' : (q : Int) < (L.length : Int) := by omega
                    clear hx hst H1 A2 A3 A4 hj
                    go_wp2_with fail
                    go_roundw
                    case rel =>
                      refine ⟨by first | rfl | trivial, x, rfl, hpq.1, by omega, ?_⟩
                      show _ ↔ _
                      rw [HU.out, HST.out]
                      simp only [List.mem_cons]
                      constructor
                      · rintro (e | e)
                        · exact absurd e.symm hud
                        · exact e
                      · exact .inr
                    case measure => simp [intOf]; omega
            · obtain rfl : i = L.length := by omega
              have L1 := L2.callP HT5.out (thB _ _ _ _ _) (fun F hF => I.leave hF (g : Int))
              have e1 : okF (g : Int) = 0 := by unfold okF; rw [if_neg (by omega)]
              have hq := hear_gone (s := s1) hg8 hdl
              rw [e1] at L1
              have H1 : Hid (∀ W p, L2 w W (fun k => k = b) (PT ta L p (outB s1 (g : Int))) (RB rb L noB s1 1) → Calls Try.prog 19 #[.pointer (some ⟨ta, 0, none⟩), .int .i64 g, .int .i64 d] W fun e w' => e = .returned (.bool false) ∧ Below w.heap.size w w') := fun W p (hW : L2 w W (fun k => k = b) (PT ta L p (outB s1 (g : Int))) (RB rb L noB s1 1)) => by
                obtain ⟨F, hF⟩ := L2.seeP hW
                exact (I.hears hF g d).mono (fun e w' u => ⟨by rw [u.1, hq], Below.on (L2.bel hW) u.2⟩)
              clear e1 hq
              go_wp2_with (first
                | (go_at_call 23; refine L1.mono ?_; rintro e w6 ⟨rfl, T6, _⟩; have HT6 : Hid _ := T6; clear L1 T6)
                | (go_at_call 19; refine (H1.out w6 _ HT6.out).mono ?_; rintro e w7 ⟨rfl, b7⟩; clear H1))
              go_ret
              exact ⟨rfl, b7⟩
        · have hk' : ¬ ((k : Int) < (n : Int)) := by omega
          have hd' : decide ((k : Int) < (n : Int)) = false := by simpa using hk'
          obtain ⟨b, cp, rfl, hbw, hpc⟩ := (show Row _ _ _ _ from HW.out).pc (by omega)
          have HPC : Hid (Pc b L wr) := hpc
          have HOK : Hid (OKT L) := (⟨by omega, by omega, by rw [hlen]; exact (Hid.out HL).2⟩ : OKT L)
          have hbm := (Hid.out HW).2
          clear hpc HW HL hlen
          have hl1 := HOK.out.1
          have hl2 := HOK.out.2.1
          have NP := I.new wr (some ⟨b, 0, none⟩) cp L (Pc.rd HPC.out) HOK.out
          have NR : Hid (∀ W, Pc b L W → Calls Try.prog 9 #[.slice (some ⟨b, 0, none⟩) L.length cp] W _) := fun W (hp : Pc b L W) => bnew W (some ⟨b, 0, none⟩) cp L (Pc.rd hp) HOK.out
          have hnz := len_nz hl1
          have hnz' : ¬ ((L.length : Int) = 0) := by omega
          obtain ⟨g, hg⟩ := Int.eq_ofNat_of_zero_le (show 0 ≤ f % 8 by omega)
          have hg8 : g < 8 := by omega
          have hdb := mod_in hl1 k0
          obtain ⟨d, hd⟩ := Int.eq_ofNat_of_zero_le hdb.1
          rw [hd] at hdb
          have hdl : d < L.length := by omega
          clear hdb
          go_wp2_with fail
          refine NP.mono ?_
          rintro e w1 ⟨ta, F1, rfl, h1, hF1, hb1⟩
          have R1 := NR.out w1 (Pc.below HPC.out hb1)
          clear NP NR
          go_wp2_with fail
          refine R1.mono ?_
          rintro e w2 ⟨rb, F2, rfl, h2, hF2, hb2⟩
          have T2 : L2 w w2 (fun k => k = b) (PT ta L noB noB) (RB rb L noB noB 0) := L2.startZ (I.th _ _ _ _) hbm hbw (Hid.out HPC).1 h1 hF1 hb1 h2 hF2 hb2
          have HP2 : Hid (Pc b L w2) := Pc.below (Pc.below HPC.out hb1) hb2
          have S1 := L2.callP T2 (thB _ _ _ _ _) (fun F hF => I.sub hF (g : Int) (d : Int) true)
          rw [ok8 hg8 hdl] at S1
          have S2 : Hid (∀ W p s, L2 w W (fun k => k = b) (PT ta L p s) (RB rb L noB noB 0) → Calls Try.prog 11 #[.pointer (some ⟨rb, 0, none⟩), .int .i64 g, .int .i64 d, .bool true] W fun e w' => e = .returned (.int .i64 0) ∧ L2 w w' (fun k => k = b) (PT ta L p s) (RB rb L noB (putB L.length noB g d true) 1) ∧ Fr (fun k => ¬ k = b) W w') := fun W p s (hW : L2 w W (fun k => k = b) (PT ta L p s) (RB rb L noB noB 0)) => by
            have := L2.callQ hW (I.th _ _ _ _) (fun F hF => bsub hF (by omega) (g : Int) (d : Int) true)
            rw [ok8 hg8 hdl] at this
            exact this
          clear R1 h1 h2 hF1 hF2 hb1 hb2 T2 HPC
          go_wp2_with (first
            | (go_at_call 22; refine S1.mono ?_; rintro e w3 ⟨rfl, T3, f3⟩; have HT3 : Hid _ := T3; have HP3 : Hid (Pc b L w3) := Pc.keep HP2.out f3 (fun g => g rfl); clear S1 T3 f3 HP2)
            | (go_at_call 11; refine (S2.out w3 _ _ HT3.out).mono ?_; rintro e w4 ⟨rfl, T4, f4⟩; have HT4 : Hid _ := T4; have HP4 : Hid (Pc b L w4) := Pc.keep HP3.out f4 (fun g => g rfl); clear S2 T4 f4 HP3 HT3))
          try rw [hg]
          try rw [hd]
          clear hg hd
          obtain ⟨s1, hs1⟩ : ∃ s1, putB L.length noB (g : Int) (d : Int) true = s1 := ⟨_, rfl⟩
          rw [hs1] at HT4
          have HS1 : Hid _ := hs1
          clear hs1
          go_loopw [15] (fun si wr => ∃ i : Nat, i ≤ L.length ∧ si = .int .i64 i ∧ Hid (Pc b L wr) ∧ Hid (L2 w wr (fun k => k = b) (PT ta L noB s1) (RB rb L noB s1 1))) (fun si _ => L.length - (intOf si).toNat)
          case atStart => exact ⟨0, Nat.zero_le _, rfl, HP4.out, HT4.out⟩
          case round =>
            clear HP4 HT4
            obtain ⟨i, hi, rfl, HP5, HT5⟩ := hrel
            by_cases hil : i < L.length
            · have hil' : (i : Int) < (L.length : Int) := by omega
              have HAB : Hid (abv L (i : Int) = ups L (i : Int)) := abv_ok HOK.out (by omega) (by omega)
              go_wp2_with fail
              go_loopw [16] (fun sa wx => wx = wr ∧ ∃ u : Int, sa = .int .i64 u ∧ -1 ≤ u ∧ u < L.length ∧ Hid ((d : Int) ∈ abv L (i : Int) ↔ (d : Int) ∈ ups L u)) (fun sa _ => (intOf sa + 1).toNat)
              case atStart => exact ⟨rfl, i, rfl, by omega, by omega, by show _ ↔ _; rw [HAB.out]⟩
              case round =>
                obtain ⟨rfl, u, rfl, hu0, hu1, HU⟩ := hrel
                have A1 : Hid (∀ (j : Nat) W, j < 8 → L2 w W (fun k => k = b) (PT ta L noB s1) (RB rb L noB s1 1) → Pc b L W → Calls Try.prog 19 #[.pointer (some ⟨ta, 0, none⟩), .int .i64 j, .int .i64 i] W fun e w' => e = .returned (.bool (hearB L s1 j i)) ∧ L2 w w' (fun k => k = b) (PT ta L noB s1) (RB rb L noB s1 1) ∧ Pc b L w') := fun j W _ (hW : L2 w W (fun k => k = b) (PT ta L noB s1) (RB rb L noB s1 1)) (hp : Pc b L W) => by
                  obtain ⟨F, hF⟩ := L2.seeP hW
                  exact (I.hears hF j i).mono (fun e w' u => ⟨u.1, L2.below hW (I.th _ _ _ _) (thB _ _ _ _ _) u.2, Pc.below hp u.2⟩)
                have A2 : Hid (∀ W, L2 w W (fun k => k = b) (PT ta L noB s1) (RB rb L noB s1 1) → Pc b L W → Calls Try.prog 20 #[.pointer (some ⟨rb, 0, none⟩), .int .i64 g, .int .i64 i] W fun e w' => e = .returned (.bool (hearB L s1 g i)) ∧ L2 w w' (fun k => k = b) (PT ta L noB s1) (RB rb L noB s1 1) ∧ Pc b L w') := fun W (hW : L2 w W (fun k => k = b) (PT ta L noB s1) (RB rb L noB s1 1)) (hp : Pc b L W) => by
                  obtain ⟨F, hF⟩ := L2.seeQ hW
                  exact (bhears hF (by omega) (by omega) g i).mono (fun e w' u => ⟨u.1, L2.below hW (I.th _ _ _ _) (thB _ _ _ _ _) u.2, Pc.below hp u.2⟩)
                have H1 := A1.out g wr hg8 HT5.out HP5.out
                have hh1 : hearB L s1 (g : Int) (i : Int) = decide ((d : Int) ∈ abv L (i : Int)) := by rw [← HS1.out]; exact hear_one hg8 hdl hil
                obtain ⟨j, hj⟩ := Int.eq_ofNat_of_zero_le (show 0 ≤ ((g : Int) + 1) % 8 by omega)
                have hj8 : j < 8 := by omega
                have hh2 : hearB L s1 (j : Int) (i : Int) = false := by rw [← HS1.out]; exact hear_other hg8 hj8 (by omega) hdl hil
                have A3 : Hid (∀ W, L2 w W (fun k => k = b) (PT ta L noB s1) (RB rb L noB s1 1) → Pc b L W → Calls Try.prog 19 #[.pointer (some ⟨ta, 0, none⟩), .int .i64 j, .int .i64 i] W _) := fun W (hW : L2 w W (fun k => k = b) (PT ta L noB s1) (RB rb L noB s1 1)) (hp : Pc b L W) => A1.out j W hj8 hW hp
                have A4 : Hid (∀ W, L2 w W (fun k => k = b) (PT ta L noB s1) (RB rb L noB s1 1) → Pc b L W → Calls Try.prog 19 #[.pointer (some ⟨ta, 0, none⟩), .int .i64 g, .int .i64 i] W _) := fun W (hW : L2 w W (fun k => k = b) (PT ta L noB s1) (RB rb L noB s1 1)) (hp : Pc b L W) => A1.out g W hg8 hW hp
                rw [hh1] at H1 A2 A4
                rw [hh2] at A3
                clear hh1 hh2 A1
                by_cases hun : u < 0
                · have hno : ¬ (d : Int) ∈ abv L (i : Int) := fun e => by have := HU.out.1 e; rw [ups_neg L u hun] at this; simp at this
                  have d1 : decide (0 ≤ u) = false := by simp; omega
                  have d2 : (u == (d : Int)) = false := by rw [beq_eq_false_iff_ne]; omega
                  rw [decide_eq_false hno] at H1 A2 A4
                  clear hno
                  go_wp2_with (first
                    | (go_at_call 19; refine (A4.out w7 HT7.out HP7.out).mono ?_; rintro e w8 ⟨rfl, T8, p8⟩; have HT8 : Hid _ := T8; have HP8 : Hid _ := p8; clear A4 T8 p8)
                    | (go_at_call 19; refine (A3.out w6 HT6.out HP6.out).mono ?_; rintro e w7 ⟨rfl, T7, p7⟩; have HT7 : Hid _ := T7; have HP7 : Hid _ := p7; clear A3 T7 p7)
                    | (go_at_call 19; refine H1.mono ?_; rintro e w6 ⟨rfl, T6, p6⟩; have HT6 : Hid _ := T6; have HP6 : Hid _ := p6; clear H1 T6 p6)
                    | (go_at_call 20; refine (A2.out w8 HT8.out HP8.out).mono ?_; rintro e w9 ⟨rfl, T9, p9⟩; have HT9 : Hid _ := T9; have HP9 : Hid _ := p9; clear A2 T9 p9))
                  go_roundw
                  case rel => exact ⟨i + 1, by omega, by go_num, HP9.out, HT9.out⟩
                  case measure => simp [intOf]; omega
                · have d1 : decide (0 ≤ u) = true := by simp; omega
                  by_cases hud : u = (d : Int)
                  · subst hud
                    have hyes : (d : Int) ∈ abv L (i : Int) := HU.out.2 (by rw [ups_step HOK.out (d : Int) (by omega) hu1]; simp)
                    rw [decide_eq_true hyes] at H1 A2 A4
                    clear hyes
                    go_wp2_with (first
                      | (go_at_call 19; refine (A4.out w7 HT7.out HP7.out).mono ?_; rintro e w8 ⟨rfl, T8, p8⟩; have HT8 : Hid _ := T8; have HP8 : Hid _ := p8; clear A4 T8 p8)
                      | (go_at_call 19; refine (A3.out w6 HT6.out HP6.out).mono ?_; rintro e w7 ⟨rfl, T7, p7⟩; have HT7 : Hid _ := T7; have HP7 : Hid _ := p7; clear A3 T7 p7)
                      | (go_at_call 19; refine H1.mono ?_; rintro e w6 ⟨rfl, T6, p6⟩; have HT6 : Hid _ := T6; have HP6 : Hid _ := p6; clear H1 T6 p6)
                      | (go_at_call 20; refine (A2.out w8 HT8.out HP8.out).mono ?_; rintro e w9 ⟨rfl, T9, p9⟩; have HT9 : Hid _ := T9; have HP9 : Hid _ := p9; clear A2 T9 p9))
                    go_roundw
                    case rel => exact ⟨i + 1, by omega, by go_num, HP9.out, HT9.out⟩
                    case measure => simp [intOf]; omega
                  · have d2 : (u == (d : Int)) = false := by simpa using hud
                    obtain ⟨q, rfl⟩ := Int.eq_ofNat_of_zero_le (show 0 ≤ u by omega)
                    have hql : q < L.length := by omega
                    have x0 := (Hid.out HP5).2 q hql
                    have hpq := HOK.out.2.2 q hql
                    have hst := ups_step HOK.out (q : Int) (by omega) hu1
                    rw [show ((q : Int)).toNat = q by simp] at hst
                    obtain ⟨x, hx⟩ : ∃ x, nthI L q = x := ⟨_, rfl⟩
                    rw [hx] at x0 hpq hst
                    have HST : Hid _ := hst
                    have hq' : (q : Int) < (L.length : Int) := by omega
                    clear hx hst H1 A2 A3 A4 hj
                    go_wp2_with fail
                    go_roundw
                    case rel =>
                      refine ⟨by first | rfl | trivial, x, rfl, hpq.1, by omega, ?_⟩
                      show _ ↔ _
                      rw [HU.out, HST.out]
                      simp only [List.mem_cons]
                      constructor
                      · rintro (e | e)
                        · exact absurd e.symm hud
                        · exact e
                      · exact .inr
                    case measure => simp [intOf]; omega
            · obtain rfl : i = L.length := by omega
              have L1 := L2.callP HT5.out (thB _ _ _ _ _) (fun F hF => I.leave hF (g : Int))
              have e1 : okF (g : Int) = 0 := by unfold okF; rw [if_neg (by omega)]
              have hq := hear_gone (s := s1) hg8 hdl
              rw [e1] at L1
              have H1 : Hid (∀ W p, L2 w W (fun k => k = b) (PT ta L p (outB s1 (g : Int))) (RB rb L noB s1 1) → Calls Try.prog 19 #[.pointer (some ⟨ta, 0, none⟩), .int .i64 g, .int .i64 d] W fun e w' => e = .returned (.bool false) ∧ Below w.heap.size w w') := fun W p (hW : L2 w W (fun k => k = b) (PT ta L p (outB s1 (g : Int))) (RB rb L noB s1 1)) => by
                obtain ⟨F, hF⟩ := L2.seeP hW
                exact (I.hears hF g d).mono (fun e w' u => ⟨by rw [u.1, hq], Below.on (L2.bel hW) u.2⟩)
              clear e1 hq
              go_wp2_with (first
                | (go_at_call 23; refine L1.mono ?_; rintro e w6 ⟨rfl, T6, _⟩; have HT6 : Hid _ := T6; clear L1 T6)
                | (go_at_call 19; refine (H1.out w6 _ HT6.out).mono ?_; rintro e w7 ⟨rfl, b7⟩; clear H1))
              go_ret
              exact ⟨rfl, b7⟩
end Go.Proofs.Ytkbldbbhcdiihaa
