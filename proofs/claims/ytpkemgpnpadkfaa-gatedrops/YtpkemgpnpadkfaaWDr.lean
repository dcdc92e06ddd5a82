/- Proved: the walk of GateDrops. -/
import Derived.Test.YtpkemgpnpadkfaaTim
import Derived.BigQuiet
import Derived.Deep.QuietTactic
namespace Go.Proofs.Ytpkemgpnpadkfaa
open Go.RowKit Go.Shelf Go.Sort
set_option linter.unusedVariables false

def fB (j : Nat) : M := ((0, 0, 0), 0, 0, (j : Int))
set_option maxRecDepth 100000 in
set_option maxHeartbeats 4000000 in
theorem drops_walk (w : World) (sa : Option Addr) (sc : Nat) (z : List Int) (t : Int) (hz : InN .u8 255 w sa z) (hn : z.length ≤ maxLen) (ht : 0 ≤ t ∧ t ≤ 255) :
    Calls Try.prog 8 #[.slice sa z.length sc, .int .u8 t] w fun e w' => e = .returned (.bool true) ∧ Below w.heap.size w w' := by
  by_cases hlong : 200 < z.length
  · have hl' : (200 : Int) < (z.length : Int) := by omega
    unfold maxLen at hn
    clear hz
    go_enter Try.func8, Try.ntmps8
    go_wp2
    go_ret
    exact ⟨rfl, Below.refl _ _⟩
  have hz2 : z.length ≤ 200 := by omega
  have hl' : ¬ (200 : Int) < (z.length : Int) := by omega
  obtain ⟨ht0, ht2⟩ := ht
  obtain ⟨b, hb⟩ : ∃ b, w.heap.size = b := ⟨_, rfl⟩
  have NW := Ga.new w
  rw [hb] at NW
  have HZ : Hid (InN .u8 255 w sa z) := hz
  obtain ⟨zl, hzl⟩ : ∃ zl, z.length = zl := ⟨_, rfl⟩
  have HZL : Hid (z.length = zl) := hzl
  have HO : Hid (∀ {W : World} {i : Nat}, i < zl → Ga w W 0 (gls fB z i) b [] → Calls Try.prog 11 #[.pointer (some ⟨b, 0, none⟩), .agg #[.int .i64 (nthI z i), .int .i64 0, .int .i64 0], .agg #[.int .i64 0, .int .i64 0, .int .i64 0, .int .i64 0, .int .i64 0, .int .i64 (i : Int)]] W fun e w' => e = .returned (.int .i64 0) ∧ Ga w w' 0 (gls fB z (i + 1)) b []) := fun {W i} hi h => by
    have h1 := h.hold (gh fB z i)
    have h2 := gls_hold (f := fB) (z := z) (n := i) (hz.1 i (by omega)).1 (by omega)
    rw [h2.1, h2.2] at h1
    exact h1
  rw [hzl] at hl' hz2 ⊢
  clear hz hn hlong hb hzl
  go_enter Try.func8, Try.ntmps8
  go_wp2_with (go_at_call 9; refine NW.mono ?_; rintro e w1 ⟨rfl, h1⟩; have H1 : Hid (Ga w w1 0 [] b []) := h1; clear h1 NW)
  go_loopw [6, 7] (fun s6 s7 wr => ∃ i c : Nat, s7 = .int .i64 i ∧ i ≤ zl ∧ s6 = .int .i64 c ∧ c ≤ i ∧ Hid (c = (ixs (fun x => decide (x < t)) z i).length) ∧ Hid (Ga w wr 0 (gls fB z i) b [])) (fun _ s7 _ => zl - (intOf s7).toNat)
  case atStart => exact ⟨0, 0, rfl, Nat.zero_le _, rfl, Nat.le_refl _, rfl, H1.out⟩
  case round =>
    obtain ⟨i, c, rfl, hi, rfl, hci, HC, HN⟩ := hrel
    by_cases hlt : i < zl
    · have hlt' : (i : Int) < (zl : Int) := by omega
      obtain ⟨x0, x1, xb, off, rfl, hxb, hcs⟩ := InN.cell HZ.out (show i < z.length by rw [HZL.out]; exact hlt)
      have cx := hcs _ HN.out.bel
      have hsu := ixs_succ (fun x => decide (x < t)) z i
      have HOI := fun {W : World} h => HO.out (W := W) hlt h
      have HBI : Hid (∀ W, Below w.heap.size w W → W.cell? ⟨xb, off + i, none⟩ = some (.int .u8 (nthI z i))) := hcs
      obtain ⟨x, hx⟩ : ∃ x, nthI z i = x := ⟨_, rfl⟩
      rw [hx] at x0 x1 cx hsu HBI
      have HOX : Hid (∀ {W : World}, Ga w W 0 (gls fB z i) b [] → Calls Try.prog 11 #[.pointer (some ⟨b, 0, none⟩), .agg #[.int .i64 x, .int .i64 0, .int .i64 0], .agg #[.int .i64 0, .int .i64 0, .int .i64 0, .int .i64 0, .int .i64 0, .int .i64 (i : Int)]] W fun e w' => e = .returned (.int .i64 0) ∧ Ga w w' 0 (gls fB z (i + 1)) b []) := fun {W} h => by
        rw [← hx]
        exact HOI h
      have HSU : Hid _ := hsu
      clear hcs hx HOI hsu
      by_cases hxt : x < t
      · have HSU2 : Hid (c + 1 = (ixs (fun x => decide (x < t)) z (i + 1)).length) := by show _ = _; rw [HC.out, HSU.out]; simp [hxt]
        clear HSU HC
        go_wp2_with (go_at_call 11; refine (Hid.out HOX (Hid.out HN)).mono ?_; rintro e w2 ⟨rfl, h2⟩; have H2 : Hid (Ga w w2 0 (gls fB z (i + 1)) b []) := h2; have cx2 := (Hid.out HBI) w2 h2.bel; clear h2)
        go_roundw
        case rel => exact ⟨i + 1, c + 1, by go_num, by omega, by go_num, by omega, HSU2, H2⟩
        case measure => simp [intOf]; omega
      · have HSU2 : Hid (c = (ixs (fun x => decide (x < t)) z (i + 1)).length) := by show _ = _; rw [HC.out, HSU.out]; simp [hxt]
        clear HSU HC
        go_wp2_with (go_at_call 11; refine (Hid.out HOX (Hid.out HN)).mono ?_; rintro e w2 ⟨rfl, h2⟩; have H2 : Hid (Ga w w2 0 (gls fB z (i + 1)) b []) := h2; have cx2 := (Hid.out HBI) w2 h2.bel; clear h2)
        go_roundw
        case rel => exact ⟨i + 1, c, by go_num, by omega, rfl, by omega, HSU2, H2⟩
        case measure => simp [intOf]; omega
    · obtain rfl : i = zl := by omega
      obtain ⟨R, hR⟩ : ∃ R, (gls fB z i).filter (befK (t, 0, 0)) = R := ⟨_, rfl⟩
      have eR : R = (ixs (fun x => decide (x < t)) z i).map (gh fB z) := by rw [← hR]; exact gls_filter fB z i (fun j => bef_gh fB z t j)
      have hRl : R.length = c := by rw [eR, List.length_map, ← HC.out]
      have hRR : R.filter (befK (t, 0, 0)) = R := by
        rw [← hR, List.filter_filter]
        simp
      have hD : (dropG (t, 0, 0) (gls fB z i)).length = i - c := by
        unfold dropG
        rw [msgs_len, gls_filter fB z i (p := fun x => !decide (x < t)) (fun j => by rw [bef_gh]), List.length_map]
        have := ixs_not (fun x => decide (x < t)) z i
        have := HC.out
        omega
      have hD2 : (dropG (t, 0, 0) R).length = 0 := by
        unfold dropG
        rw [msgs_len, ← hR, List.filter_filter]
        have : (gls fB z i).filter (fun a => (!befK (t, 0, 0) a) && befK (t, 0, 0) a) = [] := by
          rw [List.filter_eq_nil_iff]
          intro a _
          cases befK (t, 0, 0) a <;> simp
        rw [this]
        rfl
      obtain ⟨n1, hn1⟩ : ∃ n1, n1 = i - c := ⟨_, rfl⟩
      have S1 : Calls Try.prog 14 #[.pointer (some ⟨b, 0, none⟩), .agg #[.int .i64 t, .int .i64 0, .int .i64 0]] wr fun e w' => ∃ a2 c2, e = .returned (.slice a2 n1 c2) ∧ Ga w w' 0 R b [] := (HN.out.drop (t, 0, 0)).mono fun e w' ⟨a2, c2, he, hg⟩ => ⟨a2, c2, by rw [he, hD, hn1], by rw [← hR]; exact hg.less (fun r hr => by cases hr)⟩
      have S2 : Hid (∀ {W : World}, Ga w W 0 R b [] → Calls Try.prog 14 #[.pointer (some ⟨b, 0, none⟩), .agg #[.int .i64 t, .int .i64 0, .int .i64 0]] W fun e w' => ∃ a2 c2, e = .returned (.slice a2 0 c2) ∧ Ga w w' 0 R b []) := fun h => (h.drop (t, 0, 0)).mono fun e w' ⟨a2, c2, he, hg⟩ => ⟨a2, c2, by rw [he, hD2], by rw [hRR] at hg; exact hg.less (fun r hr => by cases hr)⟩
      have S3 : Hid (∀ {W : World}, Ga w W 0 R b [] → Calls Try.prog 21 #[.pointer (some ⟨b, 0, none⟩)] W fun e w' => ∃ a2 c2, e = .returned (.slice a2 c c2) ∧ Ga w w' 0 R b [(a2, msgs R)]) := fun h => h.held.mono fun e w' ⟨a2, c2, he, hg⟩ => ⟨a2, c2, by rw [he, hRl], hg⟩
      have S4 : Hid (∀ {W : World} {rs : Rws}, Ga w W 0 R b rs → Calls Try.prog 11 #[.pointer (some ⟨b, 0, none⟩), .agg #[.int .i64 (-1), .int .i64 0, .int .i64 0], .agg #[.int .i64 0, .int .i64 0, .int .i64 0, .int .i64 0, .int .i64 0, .int .i64 0]] W fun e w' => e = .returned (.int .i64 110) ∧ Below w.heap.size w w') := fun {W rs} h => by
        have h1 := h.hold ((-1, 0, 0), ((0, 0, 0), 0, 0, 0))
        rw [(hold_early (L := R) (x := ((-1, 0, 0), ((0, 0, 0), 0, 0, 0))) (show (-1 : Int) < 0 by omega)).1] at h1
        exact h1.mono fun e w' ⟨he, hg⟩ => ⟨he, hg.bel⟩
      have XS : Hid (∀ q, q < c → ∃ j : Nat, j < i ∧ nthI z j < t ∧ nth cM (msgs R) q = ((0, 0, 0), 0, 0, (j : Int))) := fun q hq => by
        have hq2 : q < (ixs (fun x => decide (x < t)) z i).length := by rw [← HC.out]; exact hq
        obtain ⟨j, hj⟩ : ∃ j, (ixs (fun x => decide (x < t)) z i)[q] = j := ⟨_, rfl⟩
        have hm := mem_ixs (p := fun x => decide (x < t)) (z := z) (n := i) (j := j) (by rw [← hj]; exact List.getElem_mem _)
        refine ⟨j, hm.1, of_decide_eq_true hm.2, ?_⟩
        rw [nth_get (by rw [msgs_len, hRl]; exact hq)]
        simp only [msgs, eR, List.map_map, List.getElem_map, Function.comp]
        rw [hj]
        rfl
      have XL : Hid ((msgs R).length = c) := by show (msgs R).length = c; rw [msgs_len, hRl]
      have hq1 : ((n1 : Int) == (i : Int) - (c : Int)) = true := by simp; omega
      have hq1' : (n1 : Int) = (i : Int) - (c : Int) := by omega
      have hq2 : ((c : Int) == (c : Int)) = true := by simp
      have hc200 : c ≤ 200 := by omega
      have hn200 : n1 ≤ 200 := by omega
      clear hR eR hRl hRR hD hD2 hn1 HC
      go_wp2_with (first
        | (go_at_call 21; refine (Hid.out S3 (Hid.out H3)).mono ?_; rintro e w4 ⟨ah, ch, rfl, h4⟩; have H4 : Hid (Ga w w4 0 R b [(ah, msgs R)]) := h4; clear h4)
        | (go_at_call 14; refine (Hid.out S2 (Hid.out H2)).mono ?_; rintro e w3 ⟨ay, cy, rfl, h3⟩; have H3 : Hid (Ga w w3 0 R b []) := h3; clear h3)
        | (go_at_call 14; refine S1.mono ?_; rintro e w2 ⟨ax, cx, rfl, h2⟩; have H2 : Hid (Ga w w2 0 R b []) := h2; clear h2 S1))
      go_loopw [11] (fun s11 wr => ∃ q : Nat, s11 = .int .i64 q ∧ q ≤ c ∧ Hid (Ga w wr 0 R b [(ah, msgs R)])) (fun s11 _ => c - (intOf s11).toNat)
      case atStart => exact ⟨0, rfl, Nat.zero_le _, H4⟩
      case round =>
        obtain ⟨q, rfl, hq, H5⟩ := hrel
        by_cases hlt2 : q < c
        · have hlt2' : (q : Int) < (c : Int) := by omega
          obtain ⟨j, hji, hjt, hnx⟩ := XS.out q hlt2
          obtain ⟨hb2, ho2, rfl, lb2, _, _, _, _, _, _, m5⟩ := (H5.out.row (a := ah) (l := msgs R) (by simp)).msg (i := q) (by rw [XL.out]; exact hlt2) hnx
          obtain ⟨x0, x1, xb, off, rfl, hxb, hcs⟩ := InN.cell HZ.out (show j < z.length by rw [HZL.out]; omega)
          have cx := hcs _ H5.out.bel
          obtain ⟨x, hx⟩ : ∃ x, nthI z j = x := ⟨_, rfl⟩
          rw [hx] at x0 x1 cx hjt
          have hj1 : (0 : Int) ≤ (j : Int) := by omega
          have hj2 : (j : Int) < (i : Int) := by omega
          have hj3 : ((j : Int)).toNat = j := by omega
          have hjn : ¬ t ≤ x := by omega
          dsimp only at m5
          clear hcs hx hnx
          go_wp2
          go_roundw
          case rel => exact ⟨q + 1, by go_num, by omega, H5⟩
          case measure => simp [intOf]; omega
        · obtain rfl : q = c := by omega
          go_wp2_with (go_at_call 11; refine (Hid.out S4 (Hid.out H5)).mono ?_; rintro e w6 ⟨rfl, h6⟩)
          go_ret
          exact ⟨rfl, h6⟩
end Go.Proofs.Ytpkemgpnpadkfaa
