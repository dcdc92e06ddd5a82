/- Proved: the walk of GateOpens. -/
import Derived.Test.YtpkemgpnpadkfaaPur
import Derived.BigQuiet
import Derived.Deep.QuietTactic
namespace Go.Proofs.Ytpkemgpnpadkfaa
open Go.RowKit Go.Shelf Go.Sort
set_option linter.unusedVariables false

set_option maxRecDepth 100000 in
set_option maxHeartbeats 4000000 in
theorem opens_walk (w : World) (sa : Option Addr) (sc : Nat) (z : List Int) (t : Int) (hz : InN .u8 255 w sa z) (hn : z.length ≤ maxLen) (ht : 0 ≤ t ∧ t ≤ 255) :
    Calls Try.prog 5 #[.slice sa z.length sc, .int .u8 t] w fun e w' => e = .returned (.bool true) ∧ Below w.heap.size w w' := by
  have mixed : Try.prog.follows .mixedOrders = true := by kernel_rfl
  by_cases hlong : 200 < z.length
  · have hl' : (200 : Int) < (z.length : Int) := by omega
    unfold maxLen at hn
    clear hz
    go_enter Try.func5, Try.ntmps5
    go_wp2
    go_ret
    exact ⟨rfl, Below.refl _ _⟩
  have hz2 : z.length ≤ 200 := by omega
  have hl' : ¬ (200 : Int) < (z.length : Int) := by omega
  obtain ⟨ht0, ht2⟩ := ht
  obtain ⟨b, hb⟩ : ∃ b, w.heap.size = b := ⟨_, rfl⟩
  have NW := Ga.new w
  rw [hb] at NW
  have HZ : Hid (InN .u8 255 w sa z) := hz
  obtain ⟨zl, hzl⟩ : ∃ zl, z.length = zl := ⟨_, rfl⟩
  have HZL : Hid (z.length = zl) := hzl
  have HO : Hid (∀ {W : World} {i : Nat}, i < zl → Ga w W 0 (gls (fO z) z i) b [] → Calls Try.prog 11 #[.pointer (some ⟨b, 0, none⟩), .agg #[.int .i64 (nthI z i), .int .i64 0, .int .i64 0], .agg #[.int .i64 (nthI z i), .int .i64 0, .int .i64 (i : Int), .int .i64 0, .int .i64 0, .int .i64 0]] W fun e w' => e = .returned (.int .i64 0) ∧ Ga w w' 0 (gls (fO z) z (i + 1)) b []) := fun {W i} hi h => by
    have h1 := h.hold (gh (fO z) z i)
    have h2 := gls_hold (f := fO z) (z := z) (n := i) (hz.1 i (by omega)).1 (by omega)
    rw [h2.1, h2.2] at h1
    exact h1
  rw [hzl] at hl' hz2 ⊢
  clear hz hn hlong hb hzl
  go_enter Try.func5, Try.ntmps5
  go_wp2_with (go_at_call 9; refine NW.mono ?_; rintro e w1 ⟨rfl, h1⟩; have H1 : Hid (Ga w w1 0 [] b []) := h1; clear h1 NW)
  go_loopw [6] (fun s6 wr => ∃ i : Nat, s6 = .int .i64 i ∧ i ≤ zl ∧ Hid (Ga w wr 0 (gls (fO z) z i) b [])) (fun s6 _ => zl - (intOf s6).toNat)
  case atStart => exact ⟨0, rfl, Nat.zero_le _, H1.out⟩
  case round =>
    clear H1
    obtain ⟨i, rfl, hi, HN⟩ := hrel
    by_cases hlt : i < zl
    · have hlt' : (i : Int) < (zl : Int) := by omega
      obtain ⟨x0, x1, xb, off, rfl, hxb, hcs⟩ := InN.cell HZ.out (show i < z.length by rw [HZL.out]; exact hlt)
      have cx := hcs _ HN.out.bel
      have HOI := HO.out (W := wr.drew) hlt (HN.out.on (Below.refl _ wr).drew)
      have lxb : xb < wr.heap.size := Nat.lt_of_lt_of_le hxb HN.out.bel.size
      obtain ⟨x, hx⟩ : ∃ x, nthI z i = x := ⟨_, rfl⟩
      rw [hx] at x0 x1 cx HOI
      have HBI : Hid (∀ W, Below w.heap.size w W → W.cell? ⟨xb, off + i, none⟩ = some (.int .u8 x)) := fun W hW => by rw [← hx]; exact hcs W hW
      have HOX : Hid (Calls Try.prog 11 #[.pointer (some ⟨b, 0, none⟩), .agg #[.int .i64 x, .int .i64 0, .int .i64 0], .agg #[.int .i64 x, .int .i64 0, .int .i64 (i : Int), .int .i64 0, .int .i64 0, .int .i64 0]] wr.drew fun e w' => e = .returned (.int .i64 0) ∧ Ga w w' 0 (gls (fO z) z (i + 1)) b []) := HOI
      have hwx : IntKind.i64.wrap x = x := by rw [IntKind.wrap_i64]; omega
      clear hcs hx HOI
      go_wp2_with fail
      go_region_held3 (fun w' => w'.cell? ⟨xb, off + i, none⟩ = some (.int .u8 x)) (first | (go_keep; done) | exact Hid.out KEEP) (first
        | (go_at_call 11; refine (Hid.out HOX).mono ?_; rintro e w2 ⟨rfl, h2⟩; have H2 : Hid (Ga w w2 0 (gls (fO z) z (i + 1)) b []) := h2; have KEEP : Hid (w2.cell? ⟨xb, off + i, none⟩ = some (.int .u8 x)) := Hid.out HBI w2 h2.bel; clear h2 HOX))
      go_wp2
      go_roundw
      case rel => exact ⟨i + 1, by go_num, by omega, H2⟩
      case measure => simp [intOf]; omega
    · obtain rfl : i = zl := by omega
      obtain ⟨hri, hlow, hlen⟩ := opens_rise z i t
      obtain ⟨X, hX⟩ : ∃ X, openG t (gls (fO z) z i) = X := ⟨_, rfl⟩
      rw [hX] at hri hlow hlen
      obtain ⟨R, hR⟩ : ∃ R, (gls (fO z) z i).filter (fun x => !low t x) = R := ⟨_, rfl⟩
      obtain ⟨n1, hn1⟩ : ∃ n1, X.length = n1 := ⟨_, rfl⟩
      obtain ⟨ml, hml⟩ : ∃ ml, R.length = ml := ⟨_, rfl⟩
      have hRl : R.length + (ixs (fun x => decide (x < t)) z i).length = i := by
        rw [← hR, gls_filter (fO z) z i (p := fun x => !decide (x < t)) (fun j => by rw [low_gh]), List.length_map]
        have := ixs_not (fun x => decide (x < t)) z i
        omega
      have e0 : max 0 t = t := by omega
      have S1 : Calls Try.prog 16 #[.pointer (some ⟨b, 0, none⟩), .int .i64 t] wr fun e w' => ∃ a2 c2, e = .returned (.slice a2 n1 c2) ∧ Ga w w' t R b [(a2, X)] := (HN.out.open t).mono fun e w' ⟨a2, c2, he, hg⟩ => ⟨a2, c2, by rw [he, hX, hn1], by rw [e0, hR, hX] at hg; exact hg⟩
      have S2 : Hid (∀ {W : World} {rs : Rws}, Ga w W t R b rs → Calls Try.prog 21 #[.pointer (some ⟨b, 0, none⟩)] W fun e w' => ∃ a2 c2, e = .returned (.slice a2 ml c2) ∧ Ga w w' t R b rs) := fun {W rs} h => h.held.mono fun e w' ⟨a2, c2, he, hg⟩ => ⟨a2, c2, by rw [he, hml], hg.less (fun r hr => List.mem_cons_of_mem _ hr)⟩
      have S3 : Hid (∀ {W : World} {rs : Rws}, Ga w W t R b rs → Calls Try.prog 20 #[.pointer (some ⟨b, 0, none⟩)] W fun e w' => e = .returned (.int .i64 t) ∧ W = w') := fun {W rs} h => h.floor
      have S4 : Hid (∀ {W : World} {rs : Rws}, Ga w W t R b rs → Calls Try.prog 11 #[.pointer (some ⟨b, 0, none⟩), .agg #[.int .i64 (t - 1), .int .i64 0, .int .i64 0], .agg #[.int .i64 0, .int .i64 0, .int .i64 0, .int .i64 0, .int .i64 0, .int .i64 0]] W fun e w' => e = .returned (.int .i64 110) ∧ Ga w w' t R b rs) := fun {W rs} h => by
        have h1 := h.hold ((t - 1, 0, 0), ((0, 0, 0), 0, 0, 0))
        have h2 := hold_early (fl := t) (L := R) (x := ((t - 1, 0, 0), ((0, 0, 0), 0, 0, 0))) (show t - 1 < t by omega)
        rw [h2.1, h2.2] at h1
        exact h1
      have S5 : Hid (∀ {W : World} {rs : Rws}, Ga w W t R b rs → Calls Try.prog 11 #[.pointer (some ⟨b, 0, none⟩), .agg #[.int .i64 t, .int .i64 0, .int .i64 0], .agg #[.int .i64 0, .int .i64 0, .int .i64 0, .int .i64 0, .int .i64 0, .int .i64 0]] W fun e w' => e = .returned (.int .i64 0) ∧ Below w.heap.size w w') := fun {W rs} h => by
        have h1 := h.hold ((t, 0, 0), ((0, 0, 0), 0, 0, 0))
        have h2 := hold_ok (fl := t) (L := R) (x := ((t, 0, 0), ((0, 0, 0), 0, 0, 0))) (Int.le_refl _) (by omega)
        rw [h2.1] at h1
        exact h1.mono fun e w' ⟨he, hg⟩ => ⟨he, hg.bel⟩
      have XR : Hid (X.Pairwise (fun a b => klt a.1 b.1 = true)) := hri
      have XW : Hid (∀ m ∈ X, m.1.1 < t) := hlow
      have XN : Hid (X.length = n1) := hn1
      have XC : Hid (n1 = (ixs (fun x => decide (x < t)) z i).length ∧ ml + n1 = i) := ⟨by rw [← hn1, hlen], by rw [← hn1, hlen, ← hml]; exact hRl⟩
      have hn200 : n1 ≤ 200 := by have := XC.out; omega
      have hm200 : ml ≤ 200 := by have := XC.out; omega
      clear hX hR hn1 hml hRl hri hlow hlen e0
      go_wp2_with (go_at_call 16; refine S1.mono ?_; rintro e w3 ⟨ax, cx, rfl, h3⟩; have H3 : Hid (Ga w w3 t R b [(ax, X)]) := h3; clear h3 S1)
      go_loopw [8, 9] (fun s8 s9 wr => ∃ q c : Nat, s9 = .int .i64 q ∧ q ≤ i ∧ s8 = .int .i64 c ∧ c ≤ q ∧ Hid (c = (ixs (fun x => decide (x < t)) z q).length) ∧ Hid (Ga w wr t R b [(ax, X)])) (fun _ s9 _ => i - (intOf s9).toNat)
      case atStart => exact ⟨0, 0, rfl, Nat.zero_le _, rfl, Nat.le_refl _, rfl, H3⟩
      case round =>
        clear H3
        obtain ⟨q, c, rfl, hq, rfl, hcq, HC, H4⟩ := hrel
        by_cases hlt2 : q < i
        · have hlt2' : (q : Int) < (i : Int) := by omega
          obtain ⟨x0, x1, xb, off, rfl, hxb, hcs⟩ := InN.cell HZ.out (show q < z.length by rw [HZL.out]; exact hlt2)
          have cx := hcs _ H4.out.bel
          have hsu := ixs_succ (fun x => decide (x < t)) z q
          obtain ⟨x, hx⟩ : ∃ x, nthI z q = x := ⟨_, rfl⟩
          rw [hx] at x0 x1 cx hsu
          have HSU : Hid _ := hsu
          clear hcs hx hsu
          by_cases hxt : x < t
          · have HSU2 : Hid (c + 1 = (ixs (fun x => decide (x < t)) z (q + 1)).length) := by show _ = _; rw [HC.out, HSU.out]; simp [hxt]
            clear HSU HC
            go_wp2
            go_roundw
            case rel => exact ⟨q + 1, c + 1, by go_num, by omega, by go_num, by omega, HSU2, H4⟩
            case measure => simp [intOf]; omega
          · have HSU2 : Hid (c = (ixs (fun x => decide (x < t)) z (q + 1)).length) := by show _ = _; rw [HC.out, HSU.out]; simp [hxt]
            clear HSU HC
            go_wp2
            go_roundw
            case rel => exact ⟨q + 1, c, by go_num, by omega, rfl, by omega, HSU2, H4⟩
            case measure => simp [intOf]; omega
        · obtain rfl : q = i := by omega
          have hcn : c = n1 := by rw [HC.out, XC.out.1]
          subst hcn
          have hz1 : ((c : Int) != (c : Int)) = false := by simp
          have hz3 : ((ml : Int) != (q : Int) - (c : Int)) = false := by have := XC.out.2; simp; omega
          have hz4 : (t != t) = false := by simp
          clear HC
          go_wp2_with (first
            | (go_at_call 21; refine (Hid.out S2 (Hid.out H4)).mono ?_; rintro e w5 ⟨ah, ch, rfl, h5⟩; have H5 : Hid (Ga w w5 t R b [(ax, X)]) := h5; clear h5)
            | (go_at_call 20; refine (Hid.out S3 (Hid.out H5)).mono ?_; rintro e w6 ⟨rfl, rfl⟩))
          go_loopw [10] (fun s10 wr => ∃ i : Nat, s10 = .int .i64 i ∧ i ≤ c ∧ Hid (Ga w wr t R b [(ax, X)])) (fun s10 _ => c - (intOf s10).toNat)
          case atStart => exact ⟨0, rfl, Nat.zero_le _, H5⟩
          case round =>
            clear H5 H4
            obtain ⟨i, rfl, hi, H6⟩ := hrel
            by_cases hlt3 : i < c
            · have hlt3' : (i : Int) < (c : Int) := by omega
              have hil : i < X.length := by rw [XN.out]; exact hlt3
              obtain ⟨⟨⟨p1, p2, p3⟩, p4, p5, p6⟩, hxi⟩ : ∃ x, nth cM X i = x := ⟨_, rfl⟩
              have hpt : p1 < t := by
                have := XW.out _ (nth_mem (C := cM) hil)
                rw [hxi] at this
                exact this
              have hpd : decide (t ≤ p1) = false := by simp; omega
              have hpn : ¬ t ≤ p1 := by omega
              have hwt : IntKind.i64.wrap t = t := by rw [IntKind.wrap_i64]; omega
              obtain ⟨ob, oo, rfl, lob, _, m0, m1, m2, m3, m4, m5⟩ := (H6.out.row (a := ax) (l := X) (by simp)).msg hil hxi
              dsimp only at m0 m1 m2 m3 m4 m5
              rcases Nat.eq_zero_or_pos i with h0 | h0
              · subst h0
                simp only [Nat.zero_mul, Nat.add_zero] at m0 m1 m2
                have hd0 : decide ((0 : Int) < ((0 : Nat) : Int)) = false := by simp
                clear hxi hil
                go_wp2_with fail
                go_quiet (fail)
                go_wp2
                go_roundw
                case rel => exact ⟨1, by go_num, by omega, H6.out.on ⟨rfl, rfl, rfl, Nat.le_refl _, fun _ _ => rfl⟩⟩
                case measure => simp [intOf]; omega
              · obtain ⟨j, hj⟩ : ∃ j, i = j + 1 := ⟨i - 1, by omega⟩
                have hjl : j < X.length := by omega
                obtain ⟨⟨⟨q1, q2, q3⟩, q4, q5, q6⟩, hxj⟩ : ∃ x, nth cM X j = x := ⟨_, rfl⟩
                obtain ⟨ob', oo', e', _, _, n0, n1, n2, n3, n4, n5⟩ := (H6.out.row (a := some ⟨ob, oo, none⟩) (l := X) (by simp)).msg hjl hxj
                simp only [Option.some.injEq, Addr.mk.injEq, and_true] at e'
                obtain ⟨rfl, rfl⟩ := e'
                dsimp only at n0 n1 n2 n3 n4 n5
                have hkl : klt (q1, q2, q3) (p1, p2, p3) = true := by
                  have := List.pairwise_iff_getElem.1 XR.out j i hjl hil (by omega)
                  rw [nth_get hil] at hxi
                  rw [nth_get hjl] at hxj
                  rw [hxi, hxj] at this
                  exact this
                obtain ⟨r, hr⟩ : ∃ r, kcmp (q1, q2, q3) (p1, p2, p3) = r := ⟨_, rfl⟩
                have hr0 : r < 0 := by rw [← hr]; exact (kcmp_neg _ _).2 hkl
                have hrd : decide (0 ≤ r) = false := by simp; omega
                have hrn : ¬ 0 ≤ r := by omega
                have HCM : Hid (Calls Try.prog 23 #[.agg #[.int .i64 q1, .int .i64 q2, .int .i64 q3], .agg #[.int .i64 p1, .int .i64 p2, .int .i64 p3]] wr.drew fun e w' => e = .returned (.int .i64 r) ∧ Below wr.heap.size wr w' ∧ (w'.cell? ⟨ob, oo + i * 6, none⟩ = some (.int .i64 p1) ∧ w'.cell? ⟨ob, oo + i * 6 + 1, none⟩ = some (.int .i64 p2) ∧ w'.cell? ⟨ob, oo + i * 6 + 2, none⟩ = some (.int .i64 p3) ∧ w'.cell? ⟨ob, oo + j * 6, none⟩ = some (.int .i64 q1) ∧ w'.cell? ⟨ob, oo + j * 6 + 1, none⟩ = some (.int .i64 q2) ∧ w'.cell? ⟨ob, oo + j * 6 + 2, none⟩ = some (.int .i64 q3))) := (refcmp_any (q1, q2, q3) (p1, p2, p3) wr.drew).mono fun e w' ⟨he, hb⟩ => by
                  have hb' : Below wr.heap.size wr w' := ⟨hb.os, hb.tape, hb.output, hb.size, hb.block⟩
                  have hc := fun o => hb'.cell (p := ⟨ob, o, none⟩) lob
                  exact ⟨by rw [he, hr], hb', (hc _).trans m0, (hc _).trans m1, (hc _).trans m2, (hc _).trans n0, (hc _).trans n1, (hc _).trans n2⟩
                obtain ⟨J, hJ⟩ : ∃ J : Int, (i : Int) = J := ⟨_, rfl⟩
                have e1 : (i : Int) - 1 = (j : Int) := by omega
                have e2 : IntKind.i64.wrap ((i : Int) - 1) = (j : Int) := by rw [e1]; exact wrapN j (by omega)
                have e3 : IntKind.i64.wrap (j : Int) = (j : Int) := wrapN j (by omega)
                have e4 : (0 : Int) ≤ (j : Int) := by omega
                have e5 : (j : Int) < (c : Int) := by omega
                have hd1 : (0 : Int) < (i : Int) := by omega
                have hd2 : decide ((0 : Int) < (i : Int)) = true := by simp; omega
                have hd3 : decide (0 < i) = true := by simp; omega
                clear hxi hil hjl hxj hkl hr hj hJ m3 m4 m5 n3 n4 n5
                go_wp2_with fail
                go_region_held3 (fun w' => w'.cell? ⟨ob, oo + i * 6, none⟩ = some (.int .i64 p1) ∧ w'.cell? ⟨ob, oo + i * 6 + 1, none⟩ = some (.int .i64 p2) ∧ w'.cell? ⟨ob, oo + i * 6 + 2, none⟩ = some (.int .i64 p3) ∧ w'.cell? ⟨ob, oo + j * 6, none⟩ = some (.int .i64 q1) ∧ w'.cell? ⟨ob, oo + j * 6 + 1, none⟩ = some (.int .i64 q2) ∧ w'.cell? ⟨ob, oo + j * 6 + 2, none⟩ = some (.int .i64 q3)) (first | (go_keep; done) | exact Hid.out KEEP) (first
                  | (go_at_call 23; refine (Hid.out HCM).mono ?_; rintro e w7 ⟨rfl, hb7, hk7⟩; have H7 : Hid (Ga w w7 t R b [(some ⟨ob, oo, none⟩, X)]) := (Hid.out H6).on hb7; have KEEP : Hid (w7.cell? ⟨ob, oo + i * 6, none⟩ = some (.int .i64 p1) ∧ w7.cell? ⟨ob, oo + i * 6 + 1, none⟩ = some (.int .i64 p2) ∧ w7.cell? ⟨ob, oo + i * 6 + 2, none⟩ = some (.int .i64 p3) ∧ w7.cell? ⟨ob, oo + j * 6, none⟩ = some (.int .i64 q1) ∧ w7.cell? ⟨ob, oo + j * 6 + 1, none⟩ = some (.int .i64 q2) ∧ w7.cell? ⟨ob, oo + j * 6 + 2, none⟩ = some (.int .i64 q3)) := hk7; clear hb7 hk7 HCM))
                go_wp2
                go_roundw
                case rel => exact ⟨i + 1, by go_num, by omega, H7⟩
                case measure => simp [intOf]; omega
            · obtain rfl : i = c := by omega
              go_wp2_with (first
                | (go_at_call 11; refine (Hid.out S5 (Hid.out H8)).mono ?_; rintro e w9 ⟨rfl, h9⟩; have HB9 : Hid (Below w.heap.size w w9) := h9; clear h9)
                | (go_at_call 11; refine (Hid.out S4 (Hid.out H6)).mono ?_; rintro e w8 ⟨rfl, h8⟩; have H8 : Hid (Ga w w8 t R b [(ax, X)]) := h8; clear h8))
              go_ret
              exact ⟨rfl, HB9.out⟩
end Go.Proofs.Ytpkemgpnpadkfaa
