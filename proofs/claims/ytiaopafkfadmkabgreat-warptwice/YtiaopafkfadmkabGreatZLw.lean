/- Joined: the texts that follow, each with its own sentence. -/
import Derived.Test.YtiaopafkfadmkabGreatZLo
/- Proved: the walk of WarpTwice. -/
namespace Go.Proofs.YtiaopafkfadmkabGreat.V
open Go.RowKit Go.Shelf
set_option linter.unusedVariables false
set_option maxRecDepth 100000

set_option maxHeartbeats 8000000 in
theorem twice_walk (w : World) (sa : Option Addr) (sc : Nat) (z : List Int) (hz : InB w sa z) (hzn : z.length ≤ maxLen) (s : Int) (hs0 : 0 ≤ s) (hs1 : s ≤ 255) :
    Calls Tryz.prog 3 #[.slice sa z.length sc, .int .u8 s] w fun e w' => e = .returned (.bool true) ∧ Below w.heap.size w w' := by
  have mixed : Tryz.prog.follows .mixedOrders = true := by kernel_rfl
  have SH := shown_any w
  obtain ⟨f, hf⟩ := InB.cell2 hz
  obtain ⟨zl, hzl⟩ : ∃ zl, z.length = zl := ⟨_, rfl⟩
  unfold maxLen at hzn
  rw [hzl] at hzn hf ⊢
  by_cases hlong : 30 < zl
  · have hl' : decide ((30 : Int) < (zl : Int)) = true := decide_eq_true (by omega)
    clear hz hf
    go_enter Tryz.func3, Tryz.ntmps3
    go_wp2_with (go_at_call 4; refine SH.mono ?_; rintro e w1 ⟨rfl, hb⟩; have HB : Hid (Below w.heap.size w w1) := hb; clear hb SH)
    go_ret
    exact ⟨rfl, HB.out⟩
  have hl' : decide ((30 : Int) < (zl : Int)) = false := decide_eq_false (by omega)
  have hz30 : zl ≤ 30 := by omega
  have HZ : Hid (∀ i, i < zl → ∃ b off, 0 ≤ f i ∧ f i ≤ 255 ∧ sa = some ⟨b, off, none⟩ ∧ ∀ W, Below w.heap.size w W → W.cell? ⟨b, off + i, none⟩ = some (.int .u8 (f i)) ∧ b < W.heap.size) := hf
  have HBO : Hid (∀ W, Below w.heap.size w W → Calls Tryz.prog 6 #[] W fun e w' => ∃ n, e = .returned (wv (boD n)) ∧ Ww w' (boD n) ∧ Below w.heap.size w w') := fun W hW => (bold_any W).mono fun e w' ⟨h1, h2, h3⟩ => ⟨_, h1, h2, hW.trans (h3.mono hW.size)⟩
  have HN : Hid (∀ n W, Ww W (boD n) → Calls Tryz.prog 5 #[.agg #[.slice (boD n).pa (boD n).ps.length (boD n).pc, .slice (boD n).fa (boD n).fs.length (boD n).fc, .int .i64 (boD n).en], .int .i64 0] W fun en w' => ∃ Z, en = .returned (.tuple #[.pointer (some ⟨Z.nb, 0, none⟩), .int .i64 0]) ∧ Tc W n 2 Z 0 f w') := fun n W h => (bo_new W n h).mono fun en w' ⟨Z, T, he, hp⟩ => ⟨Z, he, Tc.zero hp⟩
  clear hz hzl hf hlong
  go_enter Tryz.func3, Tryz.ntmps3
  go_wp2_with (first
    | (go_at_call 4; refine SH.mono ?_; rintro e w1 ⟨rfl, hb⟩; have HB : Hid (Below w.heap.size w w1) := hb; clear hb SH)
    | (go_at_call 6; refine (Hid.out HBO _ (Hid.out HB)).mono ?_; rintro e w2 ⟨n, rfl, hw2, hb2⟩; have HW2 : Hid (Ww w2 (boD n)) := hw2; have HB2 : Hid (Below w.heap.size w w2) := hb2; clear hw2 hb2 HBO HB)
    | (go_at_call 5; refine (Hid.out HN n _ (Hid.out HW2)).mono ?_; rintro e w3 ⟨Z, rfl, hp⟩; have H0 : Hid (Tc w2 n 2 Z 0 f w3) := hp; clear hp HN HW2))
  have HBW : Hid (∀ W, Below w2.heap.size w2 W → Below w.heap.size w W) := fun W hW => HB2.out.trans (hW.mono HB2.out.size)
  go_loopw [7] (fun s7 wr => ∃ i : Nat, s7 = .int .i64 i ∧ i ≤ zl ∧ Hid (Tc w2 n (i + 2) Z i f wr)) (fun s7 _ => zl - (intOf s7).toNat)
  case atStart => exact ⟨0, rfl, Nat.zero_le _, H0⟩
  case round =>
    clear H0
    obtain ⟨i, rfl, hi, HS⟩ := hrel
    by_cases hlt : i < zl
    · have hlt' : (i : Int) < (zl : Int) := by omega
      obtain ⟨sb, so, ht0, ht1, rfl, hcs⟩ := HZ.out i hlt
      obtain ⟨d0, lsb⟩ := hcs wr (HBW.out _ HS.out.bel)
      have CH := HS.out.hear ht0 ht1 (by omega)
      obtain ⟨t, ht⟩ : ∃ t, f i = t := ⟨_, rfl⟩
      rw [ht] at CH d0 ht0 ht1
      clear HS hcs ht
      go_wp2_with (go_at_call 7; refine CH.mono ?_; rintro e w6 ⟨u6, rfl, h6⟩; have HS6 : Hid (Tc w2 n (i + 2 + 1) Z (i + 1) f w6) := h6; clear h6 CH)
      go_roundw
      case rel => exact ⟨i + 1, by go_num, by omega, HS6.out⟩
      case measure => simp [intOf]; omega
    · obtain rfl : i = zl := by omega
      have hrem : s.tmod 40 = s % 40 := Int.tmod_eq_emod_of_nonneg hs0
      go_wp2_with fail
      go_loopw [8] (fun s8 wq => ∃ k : Nat, s8 = .int .i64 k ∧ k ≤ 40 ∧ Hid (Tc w2 n (i + 2) Z i f wq)) (fun s8 _ => 40 - (intOf s8).toNat)
      case atStart => exact ⟨0, rfl, Nat.zero_le _, HS⟩
      case round =>
        clear HS
        obtain ⟨k, rfl, hk, HS⟩ := hrel
        by_cases hks : (k : Int) < s % 40
        · have CS := HS.out.step (by omega)
          clear HS
          go_wp2_with (go_at_call 8; refine CS.mono ?_; rintro e w7 ⟨u7, rfl, hst⟩; have HS7 : Hid (Tc w2 n (i + 2) Z i f w7) := hst; clear hst CS)
          go_roundw
          case rel => exact ⟨k + 1, by go_num, by omega, HS7⟩
          case measure => simp [intOf]; omega
        · go_wp2_with fail
          go_loopw [9] (fun s9 wq => ∃ j : Nat, s9 = .int .i64 j ∧ j ≤ i ∧ Hid (Tc w2 n (i + 2 + j) Z i f wq)) (fun s9 _ => i - (intOf s9).toNat)
          case atStart => exact ⟨0, rfl, Nat.zero_le _, HS⟩
          case round =>
            clear HS
            obtain ⟨j, rfl, hj, HS⟩ := hrel
            by_cases hji : j < i
            · have hji' : (j : Int) < (i : Int) := by omega
              obtain ⟨sb, so, ht0, ht1, rfl, hcs⟩ := HZ.out j hji
              obtain ⟨d0, lsb⟩ := hcs wr (HBW.out _ HS.out.bel)
              have CH := HS.out.again hji ht0 ht1 (by omega)
              obtain ⟨t, ht⟩ : ∃ t, f j = t := ⟨_, rfl⟩
              rw [ht] at CH d0 ht0 ht1
              clear HS hcs ht
              go_wp2_with (go_at_call 7; refine CH.mono ?_; rintro e w6 ⟨u6, rfl, h6⟩; have HS6 : Hid (Tc w2 n (i + 2 + j + 1) Z i f w6) := h6; clear h6 CH)
              go_roundw
              case rel => exact ⟨j + 1, by go_num, by omega, HS6.out⟩
              case measure => simp [intOf]; omega
            · have hji' : ¬ (j : Int) < (i : Int) := by omega
              have CB := (HS.out.any (M := 100) (by omega)).bound
              clear HS
              go_wp2_with (first
                | (go_at_call 7; refine CB.mono ?_; rintro e v1 ⟨u1, rfl, h1⟩; have H1 : Hid (Ta w2 n 101 Z v1) := h1; clear h1 CB)
                | (go_at_call 10; refine (Hid.out H1).local.mono ?_; rintro e v2 ⟨t2, rfl, h2⟩; have H2 : Hid (Ta w2 n 101 Z v2) := h2; clear h2 H1)
                | (go_at_call 9; refine ((Hid.out H2).commit _ (by omega)).mono ?_; rintro e v3 ⟨u3, rfl, fl, q0, q1, h3⟩; have H3 : Hid (Tf w2 n 101 Z fl v3) := h3; have hws : IntKind.i64.wrap (fl - 1) = fl - 1 := (by rw [IntKind.wrap_i64]; omega); clear h3 H2)
                | (go_at_call 11; refine (Hid.out H3).floor.mono ?_; rintro e v4 ⟨rfl, rfl⟩)
                | (go_at_call 7; refine ((Hid.out H3).early (by omega) q0 q1 (.inl rfl)).mono ?_; rintro e v5 ⟨u5, rfl, h5⟩; have H5 : Hid (Tf w2 n 102 Z fl v5) := h5; clear h5 H3)
                | (go_at_call 7; refine ((Hid.out H5).early (by omega) q0 q1 (.inr rfl)).mono ?_; rintro e v6 ⟨u6, rfl, h6⟩; have H6 : Hid (Tf w2 n 103 Z fl v6) := h6; clear h6 H5))
              go_ret
              exact ⟨rfl, HBW.out _ H6.out.bel⟩
end Go.Proofs.YtiaopafkfadmkabGreat.V
