/- Proved: the walk of CutColours. -/
import Derived.Test.YtdfjmnckgcpmgaaWWa
import Derived.Test.YtdfjmnckgcpmgaaNum
import Derived.Test.YtdfjmnckgcpmgaaMks
namespace Go.Proofs.Ytdfjmnckgcpmgaa
open Go.RowKit Go.Shelf
open K
set_option linter.unusedVariables false

def orU (f : Nat → Bool) (j : Nat) : Nat → Bool := fun i => f i || decide (i < j)
theorem orU_s (f : Nat → Bool) (j i : Nat) : too (orU f j) j i = orU f (j + 1) i := by
  unfold too orU
  by_cases p : i = j
  · simp [p]
  · by_cases q : i < j
    · simp [p, q, Nat.lt_succ_of_lt q]
    · have : ¬ i < j + 1 := by omega
      simp [p, q, this]
theorem orU_t {f : Nat → Bool} {j : Nat} (h : f j = true) (i : Nat) : orU f j i = orU f (j + 1) i := by
  unfold orU
  by_cases p : i = j
  · subst p; simp [h]
  · by_cases q : i < j
    · simp [q, Nat.lt_succ_of_lt q]
    · have : ¬ i < j + 1 := by omega
      simp [q, this]
theorem least_one {e : Nat} {le t : Int} (h : e = 0 ∧ le = inf ∨ le = t) (ht : t ≤ 100) : min le t = t := by
  rcases h with ⟨_, g⟩ | g
  · rw [g]; show min (1125899906842624 : Int) t = t; omega
  · omega
set_option maxRecDepth 100000 in
set_option maxHeartbeats 4000000 in
theorem colours_walk (w : World) (x : Int) (sa : Option Addr) (sc : Nat) (z : List Int) (p : Int) (hx : 0 ≤ x ∧ x ≤ 255) (hz : InN .u8 255 w sa z) (hl : z.length ≤ maxLen) (hp : 0 ≤ p ∧ p ≤ 255) :
    Calls Try.prog 6 #[.int .u8 x, .slice sa z.length sc, .int .u8 p] w fun e w' => e = .returned (.bool true) ∧ Below w.heap.size w w' := by
  unfold maxLen at hl
  obtain ⟨p0, p1⟩ := hp
  obtain ⟨x0, x1⟩ := hx
  have HZ : Hid (InN .u8 255 w sa z) := hz
  obtain ⟨L, hL⟩ : ∃ L, z.length = L := ⟨_, rfl⟩
  rw [hL] at hl ⊢
  have HLZ : Hid (z.length = L) := hL
  clear hz hL
  by_cases hlong : 100 < L
  · have hl' : (100 : Int) < (L : Int) := by omega
    go_enter Try.func6, Try.ntmps6
    go_wp2
    go_ret
    exact ⟨rfl, Below.refl _ _⟩
  have hl' : ¬ (100 : Int) < (L : Int) := by omega
  obtain ⟨n, hn⟩ : ∃ n : Nat, 1 + x % 8 = n := ⟨(1 + x % 8).toNat, by omega⟩
  have hn1 : 1 ≤ n := by omega
  have hn8 : n ≤ 8 := by omega
  have hnI : 1 ≤ (n : Int) := by omega
  have hnI8 : (n : Int) ≤ 8 := by omega
  obtain ⟨R, hR⟩ : ∃ R : Nat, 1 + p % 4 = R := ⟨(1 + p % 4).toNat, by omega⟩
  have hR5 : R ≤ 4 := by omega
  have NW := Q.new w n hn1 hn8
  obtain ⟨b, hb⟩ : ∃ b, w.heap.size = b := ⟨_, rfl⟩
  rw [hb] at NW
  clear hb hlong
  go_enter Try.func6, Try.ntmps6
  go_wp2_with (go_at_call 8; refine NW.mono ?_; rintro e w1 ⟨rfl, h1⟩; have H1 : Hid _ := h1; clear h1 NW)
  go_loopw [10] (fun s10 wr => ∃ (r m : Nat) (v k : Int), s10 = .int .i64 r ∧ r ≤ R ∧ Hid (v = 5 * (r : Int)) ∧ Hid (m ≤ 8 * r) ∧ Hid (k = (r : Int) % 2) ∧ Hid (Q w b wr m n false k nob nob 0 0 0 v r)) (fun s10 _ => R - (intOf s10).toNat)
  case atStart => exact ⟨0, 0, 0, 0, rfl, Nat.zero_le _, (rfl : (0 : Int) = 5 * ((0 : Nat) : Int)), (Nat.zero_le _ : 0 ≤ 8 * 0), (rfl : (0 : Int) = ((0 : Nat) : Int) % 2), H1.out⟩
  case round =>
    obtain ⟨r, m, v, k, rfl, hr, HV, HM, HK, HQ⟩ := hrel
    by_cases hlt : r < R
    · have hlt' : (r : Int) < (R : Int) := by omega
      have hm80 : m ≤ 80 := by have := HM.out; omega
      have hk2 : k = 0 ∨ k = 1 := by have := HK.out; omega
      have hrk : (r : Int) % 2 = k := HK.out.symm
      have B1 := Q.begin HQ.out
      go_wp2_with (go_at_call 10; refine B1.mono ?_; rintro e w2 ⟨rfl, h2⟩; obtain ⟨cs, hcs, mk⟩ := make_b w2 n hn8; have H2 : Hid _ := QB.start h2 cs hcs; clear h2 hcs B1)
      obtain ⟨tb, htb⟩ : ∃ tb, w2.heap.size = tb := ⟨_, rfl⟩
      simp only [htb] at H2 ⊢
      clear htb mk
      go_loopw [12] (fun s12 wr => ∃ (i : Nat) (f : Nat → Bool), s12 = .int .i64 i ∧ i ≤ L ∧ Hid (QB w b tb wr m n k f f v r)) (fun s12 _ => L - (intOf s12).toNat)
      case atStart => exact ⟨0, nob, rfl, Nat.zero_le _, H2.out⟩
      case round =>
        obtain ⟨i, f, rfl, hi, HB⟩ := hrel
        by_cases hlt2 : i < L
        · have hlt2' : (i : Int) < (L : Int) := by omega
          have hiL : i < z.length := by rw [HLZ.out]; exact hlt2
          obtain ⟨y0, y1, xb, off, rfl, hxb, hcs⟩ := InN.cell HZ.out hiL
          have cx := hcs _ HB.out.q.bel
          obtain ⟨y, hy⟩ : ∃ y, nthI z i = y := ⟨_, rfl⟩
          rw [hy] at y0 y1 cx
          have ma := Int.emod_nonneg y (b := (n : Int)) (by omega)
          have ma' := Int.emod_lt_of_pos y (b := (n : Int)) (by omega)
          obtain ⟨a, ha⟩ : ∃ a : Nat, y % (n : Int) = a := ⟨(y % (n : Int)).toNat, by omega⟩
          have han : a < n := by omega
          have han' : (a : Int) < (n : Int) := by omega
          clear ma ma' hcs hy hxb
          obtain ⟨g, hg⟩ : ∃ g, too f a = g := ⟨_, rfl⟩
          cases hfa : f a
          · have T1 := HB.out.turn han hfa
            rw [hg] at T1
            go_wp2_with (go_at_call 16; refine T1.mono ?_; rintro e w3 ⟨rfl, h3⟩; have H3 : Hid _ := h3; have ct := h3.row.at han (v := .bool false) (by rw [hfa]); have ft := (h3.row.c a han).2; clear h3 T1)
            have H4 : Hid (QB w b tb (w3.setCell ⟨tb, a, none⟩ (.bool true)) m n k g g v r) := by
              have := H3.out.mark a
              rw [hg] at this
              exact this
            obtain ⟨W4, hW4⟩ : ∃ W4, w3.setCell ⟨tb, a, none⟩ (.bool true) = W4 := ⟨_, rfl⟩
            rw [hW4] at H4 ⊢
            clear hW4 ct ft H3
            go_loopw [15] (fun s15 wr => ∃ (j : Nat), s15 = .int .i64 j ∧ j ≤ n ∧ wr = W4) (fun s15 _ => n - (intOf s15).toNat)
            case atStart => exact ⟨0, rfl, Nat.zero_le _, rfl⟩
            case round =>
              obtain ⟨j, rfl, hj, rfl⟩ := hrel
              by_cases hlt3 : j < n
              · have hlt3' : (j : Int) < (n : Int) := by omega
                have cj := H4.out.row.at hlt3 rfl
                have CO := H4.out.q.colour hlt3
                cases hgj : g j
                · rw [hgj] at cj CO
                  rw [if_neg (by decide)] at CO
                  go_wp2_with (go_at_call 23; refine CO.mono ?_; rintro e w' ⟨rfl, rfl⟩)
                  go_roundw
                  case rel => exact ⟨j + 1, by go_num, by omega, by first | rfl | trivial⟩
                  case measure => simp [intOf]; omega
                · rw [hgj] at cj CO
                  rw [if_pos rfl] at CO
                  go_wp2_with (go_at_call 23; refine CO.mono ?_; rintro e w' ⟨rfl, rfl⟩)
                  go_roundw
                  case rel => exact ⟨j + 1, by go_num, by omega, by first | rfl | trivial⟩
                  case measure => simp [intOf]; omega
              · obtain rfl : j = n := by omega
                go_wp2_with fail
                go_roundw
                case rel => exact ⟨i + 1, g, by go_num, by omega, H4.out⟩
                case measure => simp [intOf]; omega
          · have T1 := HB.out.turn2 han hfa
            have eg : ∀ i, i < n → f i = g i := fun i _ => by
              rw [← hg]
              unfold too
              by_cases e : i = a
              · subst e; simp [hfa]
              · simp [e]
            go_wp2_with (go_at_call 16; refine T1.mono ?_; rintro e w3 ⟨rfl, h3⟩; have H3 : Hid _ := h3; have ct := h3.row.at han (v := .bool true) (by rw [hfa]); have ft := (h3.row.c a han).2; clear h3 T1)
            have H4 : Hid (QB w b tb (w3.setCell ⟨tb, a, none⟩ (.bool true)) m n k g g v r) := by
              have := (H3.out.same eg).mark a
              rw [hg] at this
              exact this
            obtain ⟨W4, hW4⟩ : ∃ W4, w3.setCell ⟨tb, a, none⟩ (.bool true) = W4 := ⟨_, rfl⟩
            rw [hW4] at H4 ⊢
            clear hW4 ct ft H3 eg
            go_loopw [15] (fun s15 wr => ∃ (j : Nat), s15 = .int .i64 j ∧ j ≤ n ∧ wr = W4) (fun s15 _ => n - (intOf s15).toNat)
            case atStart => exact ⟨0, rfl, Nat.zero_le _, rfl⟩
            case round =>
              obtain ⟨j, rfl, hj, rfl⟩ := hrel
              by_cases hlt3 : j < n
              · have hlt3' : (j : Int) < (n : Int) := by omega
                have cj := H4.out.row.at hlt3 rfl
                have CO := H4.out.q.colour hlt3
                cases hgj : g j
                · rw [hgj] at cj CO
                  rw [if_neg (by decide)] at CO
                  go_wp2_with (go_at_call 23; refine CO.mono ?_; rintro e w' ⟨rfl, rfl⟩)
                  go_roundw
                  case rel => exact ⟨j + 1, by go_num, by omega, by first | rfl | trivial⟩
                  case measure => simp [intOf]; omega
                · rw [hgj] at cj CO
                  rw [if_pos rfl] at CO
                  go_wp2_with (go_at_call 23; refine CO.mono ?_; rintro e w' ⟨rfl, rfl⟩)
                  go_roundw
                  case rel => exact ⟨j + 1, by go_num, by omega, by first | rfl | trivial⟩
                  case measure => simp [intOf]; omega
              · obtain rfl : j = n := by omega
                go_wp2_with fail
                go_roundw
                case rel => exact ⟨i + 1, g, by go_num, by omega, H4.out⟩
                case measure => simp [intOf]; omega
        · obtain rfl : i = L := by omega
          go_wp2_with fail
          go_loopw [17] (fun s17 wr => ∃ (j : Nat), s17 = .int .i64 j ∧ j ≤ n ∧ Hid (QB w b tb wr m n k (orU f j) f v r)) (fun s17 _ => n - (intOf s17).toNat)
          case atStart => exact ⟨0, rfl, Nat.zero_le _, HB.out.same (fun i _ => by simp [orU])⟩
          case round =>
            obtain ⟨j, rfl, hj, HU⟩ := hrel
            by_cases hlt3 : j < n
            · have hlt3' : (j : Int) < (n : Int) := by omega
              have cj := HU.out.row.at hlt3 rfl
              cases hfj : f j
              · rw [hfj] at cj
                have T1 := HU.out.turn hlt3 (by unfold orU; rw [hfj]; simp)
                go_wp2_with (go_at_call 16; refine T1.mono ?_; rintro e w3 ⟨rfl, h3⟩; have H3 : Hid _ := h3; clear h3 T1)
                go_roundw
                case rel => exact ⟨j + 1, by go_num, by omega, H3.out.same (fun i _ => orU_s f j i)⟩
                case measure => simp [intOf]; omega
              · rw [hfj] at cj
                go_wp2_with fail
                go_roundw
                case rel => exact ⟨j + 1, by go_num, by omega, HU.out.same (fun i _ => orU_t hfj i)⟩
                case measure => simp [intOf]; omega
            · obtain rfl : j = n := by omega
              have HY : Hid (Q w b wr m j true k yes nob 0 0 inf v r) := HU.out.q.same (fun i hi => by simp [orU, hi, yes]) (fun _ _ => rfl)
              obtain ⟨t, ht⟩ : ∃ t, 5 * ((r : Int) + 1) = t := ⟨_, rfl⟩
              have t0 : 0 ≤ t := by omega
              have t1 : t ≤ 100 := by omega
              obtain ⟨q, hq⟩ : ∃ q, 1 - k = q := ⟨_, rfl⟩
              go_wp2_with fail
              go_loopw [18] (fun s18 wr => ∃ (i : Nat) (le : Int), s18 = .int .i64 i ∧ i ≤ j ∧ Hid (RR w b wr (m + i) j i k 0 0 le v r) ∧ Hid (i = 0 ∧ le = inf ∨ le = t)) (fun s18 _ => j - (intOf s18).toNat)
              case atStart => exact ⟨0, inf, rfl, Nat.zero_le _, RR.start HY.out hn1, .inl ⟨rfl, rfl⟩⟩
              case round =>
                obtain ⟨e, le, rfl, he, HR, HL⟩ := hrel
                by_cases hlt4 : e < j
                · have hlt4' : (e : Int) < (j : Int) := by omega
                  have RE := HR.out.step (by omega) hlt4 (okT_small t0 (by omega)) (by unfold onK; split <;> decide)
                  have CO : Hid (∀ W le2, RR w b W (m + e + 1) j (e + 1) k 0 0 le2 v r → Calls Try.prog 23 #[pp b, .int .i64 (e : Nat)] W fun e w' => e = .returned (.int .i64 q) ∧ W = w') := fun W le2 h => by
                    have := h.colour (by omega) hlt4
                    rwa [hq] at this
                  go_wp2_with (first | (go_at_call 18; refine RE.mono ?_; rintro e w7 ⟨rfl, h7⟩; have H7 : Hid _ := h7; clear h7 RE) | (go_at_call 23; refine (Hid.out CO _ _ (Hid.out H7)).mono ?_; rintro e w' ⟨rfl, rfl⟩))
                  go_roundw
                  case rel => exact ⟨e + 1, min le t, by go_num, by omega, H7.out, .inr (least_one HL.out t1)⟩
                  case measure => simp [intOf]; omega
                · obtain rfl : e = j := by omega
                  have HE := HR.out.fin rfl
                  have ele : le = t := by rcases HL.out with ⟨g, _⟩ | g <;> omega
                  have emx : max v le = t := by have := HV.out; omega
                  rw [emx, hq] at HE
                  have V1 := HE.value
                  have V3 := HE.under
                  have H8 : Hid (Q w b wr (m + e) e false q nob nob 0 0 0 t (r + 1)) := HE
                  have HV2 : Hid (t = 5 * (((r + 1 : Nat)) : Int)) := by show t = _; omega
                  have HK2 : Hid (q = (((r + 1 : Nat)) : Int) % 2) := by have := HK.out; show q = _; omega
                  clear HE ele emx
                  go_wp2_with (first | (go_at_call 22; refine V3.mono ?_; rintro e w' ⟨rfl, rfl⟩) | (go_at_call 20; refine V1.mono ?_; rintro e w' ⟨rfl, rfl⟩))
                  go_roundw
                  case rel => exact ⟨r + 1, m + e, t, q, by go_num, by omega, HV2.out, (by have := HM.out; omega : m + e ≤ 8 * (r + 1)), HK2.out, H8.out⟩
                  case measure => simp [intOf]; omega
    · obtain rfl : r = R := by omega
      go_wp2
      go_ret
      exact ⟨rfl, HQ.out.bel⟩
end Go.Proofs.Ytdfjmnckgcpmgaa
