/- Proved: the walk of PastBack. -/
import Derived.Test.YtgifanioeeacdaaBck
import Derived.Test.YtgifanioeeacdaaBcp
import Derived.BigQuiet
import Derived.Deep.QuietTactic
namespace Go.Proofs.Ytgifanioeeacdaa
open Go.RowKit Go.Shelf Go.Sort
set_option linter.unusedVariables false

set_option maxRecDepth 100000 in
set_option maxHeartbeats 4000000 in
theorem back_walk (w : World) (sa : Option Addr) (sc : Nat) (z : List Int) (at' : Int) (hz : InN .u8 255 w sa z) (hn : z.length ≤ maxLen) (ha : 0 ≤ at' ∧ at' ≤ 255) :
    Calls Try.prog 5 #[.slice sa z.length sc, .int .u8 at'] w fun e w' => e = .returned (.bool true) ∧ Below w.heap.size w w' := by
  by_cases hlong : 60 < z.length
  · have hl' : (60 : Int) < (z.length : Int) := by omega
    unfold maxLen at hn
    clear hz
    go_enter Try.func5, Try.ntmps5
    go_wp2
    go_ret
    exact ⟨rfl, Below.refl _ _⟩
  have mixed : Try.prog.follows .mixedOrders = true := by kernel_rfl
  have hz2 : z.length ≤ 60 := by omega
  have hl' : ¬ (60 : Int) < (z.length : Int) := by omega
  obtain ⟨ha0, ha2⟩ := ha
  obtain ⟨b, hp⟩ : ∃ b, w.heap.size = b := ⟨_, rfl⟩
  have NW := One.new w
  rw [hp] at NW
  have HZ : Hid (InN .u8 255 w sa z) := hz
  have HZ1 : Hid (∀ i, i < z.length → 0 ≤ nthI z i ∧ nthI z i ≤ 255) := hz.1
  have PU : Hid (∀ {W : World} {va : Value} {l : List E} {rs : RowsE} {i : Nat}, i < z.length → Pg w W 0 (pls num z i) b va l rs → Calls Try.prog 11 #[.pointer (some ⟨b, 0, none⟩), .agg #[.int .i64 (tsum z (i + 1)), .int .i64 0, .int .i64 (i : Int), .int .i64 0, .int .i64 0, .int .i64 (i : Int), .int .i64 0, .int .i64 0, .int .i64 (i : Int), .slice none 0 0]] W fun e w' => e = .returned (.int .i64 0) ∧ Pg w w' 0 (pls num z (i + 1)) b va l rs) := fun {W va l rs i} hi h => by
    have h1 := h.push (N := fun _ => True) (x := ⟨pe num z i, none, 0⟩) ⟨RdN.nil _ _ _ _, by simp [pe, mkP]⟩
    have h2 := pls_push (f := num) hz.1 hz2 hi
    dsimp only at h1
    rw [h2.1, h2.2] at h1
    exact h1
  clear hz hn hlong hp
  go_enter Try.func5, Try.ntmps5
  go_wp2_with (go_at_call 9; refine NW.mono ?_; rintro e w1 ⟨rfl, h1⟩; have H1 : Hid (One w w1 0 [] b) := h1; clear h1 NW)
  go_loopw [6, 7, 8] (fun s6 s7 s8 wr => ∃ (i : Nat) (aa : Option Addr) (ac : Nat), s8 = .int .i64 i ∧ i ≤ z.length ∧ s6 = .int .i64 (tsum z i) ∧ s7 = .slice aa i ac ∧ Hid (Pg w wr 0 (pls num z i) b (.slice aa i ac) (als z i) [])) (fun _ _ s8 _ => z.length - (intOf s8).toNat)
  case atStart => exact ⟨0, _, _, rfl, Nat.zero_le _, rfl, rfl, Pg.start H1.out⟩
  case round =>
    obtain ⟨i, aa, ac, rfl, hi, rfl, rfl, HN⟩ := hrel
    by_cases hlt : i < z.length
    · have hlt' : (i : Int) < (z.length : Int) := by omega
      obtain ⟨x0, x1, xb, off, rfl, hxb, hcs⟩ := InN.cell HZ.out hlt
      have cx := hcs _ HN.out.bel
      have hbd := tsum_bd HZ1.out hi
      obtain ⟨T, hT⟩ : ∃ T, tsum z i = T := ⟨_, rfl⟩
      obtain ⟨x, hx⟩ : ∃ x, nthI z i = x := ⟨_, rfl⟩
      have hT1 : tsum z (i + 1) = T + x := by rw [← hT, ← hx]; rfl
      rw [hx] at x0 x1 cx
      rw [hT] at hbd ⊢
      obtain ⟨X, hX⟩ : ∃ X, als z i ++ [⟨mkP (T + x) 0 i i i, none, 0⟩] = X := ⟨_, rfl⟩
      have hX2 : X = als z (i + 1) := by rw [← hX, als_succ, ← hT1]; rfl
      have PU2 : Hid (∀ {W : World} {va : Value} {l : List E} {rs : RowsE}, Pg w W 0 (pls num z i) b va l rs → Calls Try.prog 11 #[.pointer (some ⟨b, 0, none⟩), .agg #[.int .i64 (T + x), .int .i64 0, .int .i64 (i : Int), .int .i64 0, .int .i64 0, .int .i64 (i : Int), .int .i64 0, .int .i64 0, .int .i64 (i : Int), .slice none 0 0]] W fun e w' => e = .returned (.int .i64 0) ∧ Pg w w' 0 (pls num z (i + 1)) b va l rs) := fun h => by
        rw [← hT1]
        exact PU.out hlt h
      have HBX : Hid (Pg w (wr.alloc (.cells #[.int .i64 (T + x), .int .i64 0, .int .i64 (i : Int), .int .i64 0, .int .i64 0, .int .i64 (i : Int), .int .i64 0, .int .i64 0, .int .i64 (i : Int), .slice none 0 0] 34)) 0 (pls num z i) b (.slice aa i ac) (als z i) [(some ⟨wr.heap.size, 0, none⟩, [⟨mkP (T + x) 0 i i i, none, 0⟩])]) := HN.out.box ⟨mkP (T + x) 0 i i i, none, 0⟩ _
      have HT1 : Hid (tsum z (i + 1) = T + x) := hT1
      have HX : Hid (als z i ++ [⟨mkP (T + x) 0 i i i, none, 0⟩] = X) := hX
      have HX2 : Hid (X = als z (i + 1)) := hX2
      have HXL : Hid (X.length = i + 1) := by show X.length = i + 1; rw [hX2, als_len]
      have HAL : Hid ((als z i).length ≤ 100000) := by show (als z i).length ≤ 100000; rw [als_len]; omega
      clear hcs hT hT1 hx hX hX2
      go_wp2_with (first
        | (at_builtin; refine wpList_append_R tyE (fun _ => True) _ rfl (.tmp 46) (.tmp 48) rfl (.slice aa i ac) _ _ (als z i) [⟨mkP (T + x) 0 i i i, none, 0⟩] rfl rfl (OwR.below (Pg.own (Hid.out H3)) (al _ _)) (RdN.new cE _ ⟨mkP (T + x) 0 i i i, none, 0⟩ _ _ rfl trivial) (Hid.out HAL) (by simp) X (Hid.out HX) ?_; intro a' c' w4 ho hm; have H4 : Hid (Pg w w4 0 (pls num z (i + 1)) b (.slice a' X.length c') X []) := Pg.less (Pg.append (Pg.on (Hid.out H3) (al _ _)) ho hm) (fun r hr => by cases hr); clear ho hm)
        | (go_at_call 11; refine (Hid.out PU2 (Hid.out HBX)).mono ?_; rintro e w3 ⟨rfl, h3⟩; have H3 : Hid (Pg w w3 0 (pls num z (i + 1)) b (.slice aa i ac) (als z i) [(some ⟨wr.heap.size, 0, none⟩, [⟨mkP (T + x) 0 i i i, none, 0⟩])]) := h3; obtain ⟨xb', xo', e', _, _, d0, d1, d2, d3, d4, d5, d6, d7, d8, d9⟩ := (Pg.row h3 (List.mem_singleton.2 rfl)).entry (i := 0) (by simp) rfl; simp only [Option.some.injEq, Addr.mk.injEq, and_true] at e'; obtain ⟨e1, e2⟩ := e'; subst e1 e2; simp only [nth, mkP, List.getD_cons_zero, Nat.zero_mul, Nat.add_zero, Nat.zero_add, List.length_nil] at d0 d1 d2 d3 d4 d5 d6 d7 d8 d9; clear h3))
      go_roundw
      case rel =>
        refine ⟨i + 1, a', c', by go_num, by omega, by rw [HT1.out], by rw [HXL.out], ?_⟩
        have g : Pg w w4 0 (pls num z (i + 1)) b (.slice a' X.length c') X [] := H4.out
        rw [HXL.out, HX2.out] at g
        exact g
      case measure => simp [intOf]; omega
    · obtain rfl : i = z.length := by omega
      obtain ⟨c, hcN, hfil, hglen, hgnth, hlo, hhi⟩ := back_facts (f := num) HZ1.out (at' * 8, 0, 0)
      have HPb : Hid (Pb w wr 0 (pls num z z.length) b [(aa, als z z.length)] none []) := (Pg.stop HN.out).2
      obtain ⟨kb, hkb⟩ : ∃ kb, wr.heap.size = kb := ⟨_, rfl⟩
      have HK : Hid (Pb w (wr.alloc (.cells #[.int .i64 (at' * 8), .int .i64 0, .int .i64 0] 29)) 0 (pls num z z.length) b [(aa, als z z.length)] (some ⟨kb, 0, none⟩) [(at' * 8, 0, 0)]) := by rw [← hkb]; exact HPb.out.boxK (at' * 8, 0, 0) _
      obtain ⟨nb, hnb⟩ : ∃ nb, z.length - c = nb := ⟨_, rfl⟩
      obtain ⟨G, hG⟩ : ∃ G, gonK (at' * 8, 0, 0) (pls num z z.length) = G := ⟨_, rfl⟩
      rw [hnb] at hglen hgnth
      rw [hG] at hglen hgnth
      have BK : Calls Try.prog 14 #[.pointer (some ⟨b, 0, none⟩), .agg #[.int .i64 (at' * 8), .int .i64 0, .int .i64 0]] (wr.alloc (.cells #[.int .i64 (at' * 8), .int .i64 0, .int .i64 0] 29)) fun e w' => ∃ ba bc lb, e = .returned (.slice ba nb bc) ∧ lb.map E.p = G ∧ Pb w w' 0 (pls num z c) b [(ba, lb), (aa, als z z.length)] (some ⟨kb, 0, none⟩) [(at' * 8, 0, 0)] := by
        have h1 := HK.out.back (at' * 8, 0, 0)
        rw [hG, hglen, hfil] at h1
        exact h1
      have hcn : ((c : Int) + (nb : Int) != (z.length : Int)) = false := by simp; omega
      have HGL : Hid (G.length = nb) := hglen
      have HGN : Hid (∀ j, j < nb → nthP G j = pe num z (z.length - 1 - j)) := hgnth
      have HLO : Hid (∀ i, i < c → kcmp (pe num z i).m.1 (at' * 8, 0, 0) < 0) := hlo
      have HHI : Hid (∀ i, c ≤ i → i < z.length → ¬ kcmp (pe num z i).m.1 (at' * 8, 0, 0) < 0) := hhi
      have HKB : Hid (wr.heap.size = kb) := hkb
      have hnb60 : nb ≤ 60 := by omega
      have hc60 : c ≤ 60 := by omega
      have HNB : Hid (z.length - c = nb) := hnb
      have HCN : Hid (c ≤ z.length) := hcN
      have hmul : IntKind.i64.wrap (at' * 8) = at' * 8 := by rw [IntKind.wrap_i64]; omega
      clear hlo hhi hglen hgnth hG hfil hkb hnb hcN
      go_wp2_with (first
        | (go_at_call 14; refine BK.mono ?_; rintro e w5 ⟨ba, bc, lb, rfl, ml, h5⟩; have H5 : Hid (Pb w w5 0 (pls num z c) b [(ba, lb), (aa, als z z.length)] (some ⟨kb, 0, none⟩) [(at' * 8, 0, 0)]) := h5; have ML : Hid (lb.map E.p = G) := ml; clear h5 ml BK)
        | (go_at_call 23; refine (Pb.len (Hid.out H5)).mono ?_; rw [pls_len]; rintro e w6 ⟨rfl, rfl⟩))
      simp only [HKB.out]
      go_loopw [13] (fun s13 wr => ∃ m : Nat, c ≤ m ∧ m ≤ z.length ∧ s13 = .int .i64 ((z.length : Int) - 1 - (m : Int)) ∧ Hid (Pb w wr 0 (pls num z m) b [(ba, lb), (aa, als z z.length)] (some ⟨kb, 0, none⟩) [(at' * 8, 0, 0)])) (fun s13 _ => (intOf s13 + 1).toNat)
      case atStart => exact ⟨c, Nat.le_refl _, HCN.out, by have h1 := HNB.out; have h2 := HCN.out; congr 1; omega, H5.out⟩
      case round =>
        obtain ⟨m, hcm, hmN, rfl, H6⟩ := hrel
        by_cases hlt : m < z.length
        · obtain ⟨j, hj⟩ : ∃ j : Nat, (z.length : Int) - 1 - (m : Int) = (j : Int) := ⟨z.length - 1 - m, by omega⟩
          rw [hj]
          have hjn : j < nb := by have h1 := HNB.out; omega
          have hjm : z.length - 1 - j = m := by omega
          obtain ⟨x, hx⟩ : ∃ x, nth cE lb j = x := ⟨_, rfl⟩
          have hxp : x.p = pe num z m := by rw [← hx, ← nthP_map, ML.out, HGN.out j hjn, hjm]
          have hlb : lb.length = nb := by rw [← HGL.out, ← ML.out]; simp
          obtain ⟨T, hT⟩ : ∃ T, tsum z (m + 1) = T := ⟨_, rfl⟩
          obtain ⟨xp, oa, oc⟩ := x
          dsimp only at hxp
          subst hxp
          obtain ⟨bb, bo, rfl, _⟩ := (H6.out.row (a := ba) (l := lb) (by simp)).entry (i := j) (by omega) hx
          have HFC : Hid (∀ {W : World} {m' : Nat}, Pb w W 0 (pls num z m') b [(some ⟨bb, bo, none⟩, lb), (aa, als z z.length)] (some ⟨kb, 0, none⟩) [(at' * 8, 0, 0)] → bb < W.heap.size ∧ kb < W.heap.size ∧ (W.cell? ⟨kb, 0, none⟩ = some (.int .i64 (at' * 8)) ∧ W.cell? ⟨kb, 1, none⟩ = some (.int .i64 0) ∧ W.cell? ⟨kb, 2, none⟩ = some (.int .i64 0)) ∧ (W.cell? ⟨bb, bo + j * 10, none⟩ = some (.int .i64 T) ∧ W.cell? ⟨bb, bo + j * 10 + 1, none⟩ = some (.int .i64 0) ∧ W.cell? ⟨bb, bo + j * 10 + 2, none⟩ = some (.int .i64 (m : Int)) ∧ W.cell? ⟨bb, bo + j * 10 + 3, none⟩ = some (.int .i64 0) ∧ W.cell? ⟨bb, bo + j * 10 + 4, none⟩ = some (.int .i64 0) ∧ W.cell? ⟨bb, bo + j * 10 + 5, none⟩ = some (.int .i64 (m : Int)) ∧ W.cell? ⟨bb, bo + j * 10 + 6, none⟩ = some (.int .i64 0) ∧ W.cell? ⟨bb, bo + j * 10 + 7, none⟩ = some (.int .i64 0) ∧ W.cell? ⟨bb, bo + j * 10 + 8, none⟩ = some (.int .i64 (m : Int)) ∧ W.cell? ⟨bb, bo + j * 10 + 9, none⟩ = some (.slice oa 0 oc))) := fun {W m'} h => by
            obtain ⟨b', o', e, hb', _, u0, u1, u2, u3, u4, u5, u6, u7, u8, u9⟩ := (h.row (a := some ⟨bb, bo, none⟩) (l := lb) (by simp)).entry (i := j) (by omega) hx
            simp at e
            obtain ⟨rfl, rfl⟩ := e
            rw [← hT]
            exact ⟨hb', h.key.1, h.key.2, u0, u1, u2, u3, u4, u5, u6, u7, u8, u9⟩
          have hhi := HHI.out m hcm hlt
          obtain ⟨r, hr⟩ : ∃ r, kcmp (pe num z m).m.1 (at' * 8, 0, 0) = r := ⟨_, rfl⟩
          rw [hr] at hhi
          have HCM : Hid (Calls Try.prog 25 #[.agg #[.int .i64 T, .int .i64 0, .int .i64 (m : Int)], .agg #[.int .i64 (at' * 8), .int .i64 0, .int .i64 0]] wr.drew fun e w' => e = .returned (.int .i64 r) ∧ Below wr.heap.size wr w') := by
            have h1 := refcmp_any (pe num z m).m.1 (at' * 8, 0, 0) wr.drew
            rw [hr] at h1
            rw [← hT]
            exact h1.mono fun e w' ⟨he, hb⟩ => ⟨he, ⟨hb.os, hb.tape, hb.output, hb.size, hb.block⟩⟩
          have HPU : Hid (∀ {W : World}, Pb w W 0 (pls num z m) b [(some ⟨bb, bo, none⟩, lb), (aa, als z z.length)] (some ⟨kb, 0, none⟩) [(at' * 8, 0, 0)] → Calls Try.prog 11 #[.pointer (some ⟨b, 0, none⟩), .agg #[.int .i64 T, .int .i64 0, .int .i64 (m : Int), .int .i64 0, .int .i64 0, .int .i64 (m : Int), .int .i64 0, .int .i64 0, .int .i64 (m : Int), .slice oa 0 oc]] W fun e w' => e = .returned (.int .i64 0) ∧ Pb w w' 0 (pls num z (m + 1)) b [(some ⟨bb, bo, none⟩, lb), (aa, als z z.length)] (some ⟨kb, 0, none⟩) [(at' * 8, 0, 0)]) := fun {W} h => by
            have h1 := h.push (N := fun _ => True) (x := ⟨pe num z m, oa, oc⟩) ⟨RdN.nil _ _ _ _, by simp [pe, mkP]⟩
            have h2 := pls_push (f := num) HZ1.out hz2 hlt
            dsimp only at h1
            rw [h2.1, h2.2] at h1
            rw [← hT]
            exact h1
          have e0 : (0 : Int) ≤ (j : Int) := by omega
          have e1 : IntKind.i64.wrap ((z.length : Int) - 1) = (z.length : Int) - 1 := by rw [IntKind.wrap_i64]; omega
          have e2 : (z.length : Int) - 1 - (j : Int) = (m : Int) := by omega
          have e3 : IntKind.i64.wrap ((z.length : Int) - 1 - (j : Int)) = (m : Int) := by rw [e2]; exact wrapN m (by omega)
          have e4 : IntKind.i64.wrap (m : Int) = (m : Int) := wrapN m (by omega)
          have e5 : (j : Int) < (nb : Int) := by omega
          have e6 : ((m : Int) != (m : Int)) = false := by simp
          have HJ : Hid ((z.length : Int) - 1 - (m : Int) = (j : Int)) := hj
          obtain ⟨lbb, lkb, s0⟩ := HFC.out H6.out
          have KEEP0 : Hid ((wr.drew.cell? ⟨kb, 0, none⟩ = some (.int .i64 (at' * 8)) ∧ wr.drew.cell? ⟨kb, 1, none⟩ = some (.int .i64 0) ∧ wr.drew.cell? ⟨kb, 2, none⟩ = some (.int .i64 0)) ∧ (wr.drew.cell? ⟨bb, bo + j * 10, none⟩ = some (.int .i64 T) ∧ wr.drew.cell? ⟨bb, bo + j * 10 + 1, none⟩ = some (.int .i64 0) ∧ wr.drew.cell? ⟨bb, bo + j * 10 + 2, none⟩ = some (.int .i64 (m : Int)) ∧ wr.drew.cell? ⟨bb, bo + j * 10 + 3, none⟩ = some (.int .i64 0) ∧ wr.drew.cell? ⟨bb, bo + j * 10 + 4, none⟩ = some (.int .i64 0) ∧ wr.drew.cell? ⟨bb, bo + j * 10 + 5, none⟩ = some (.int .i64 (m : Int)) ∧ wr.drew.cell? ⟨bb, bo + j * 10 + 6, none⟩ = some (.int .i64 0) ∧ wr.drew.cell? ⟨bb, bo + j * 10 + 7, none⟩ = some (.int .i64 0) ∧ wr.drew.cell? ⟨bb, bo + j * 10 + 8, none⟩ = some (.int .i64 (m : Int)) ∧ wr.drew.cell? ⟨bb, bo + j * 10 + 9, none⟩ = some (.slice oa 0 oc))) := s0
          obtain ⟨⟨q0, q1, q2⟩, u0, u1, u2, u3, u4, u5, u6, u7, u8, u9⟩ := s0
          have hrd : decide (r < 0) = false := by simpa using hhi
          clear hx hlb hT hr hj hjm
          go_wp2_with fail
          go_region_held3 (fun w' => (w'.cell? ⟨kb, 0, none⟩ = some (.int .i64 (at' * 8)) ∧ w'.cell? ⟨kb, 1, none⟩ = some (.int .i64 0) ∧ w'.cell? ⟨kb, 2, none⟩ = some (.int .i64 0)) ∧ (w'.cell? ⟨bb, bo + j * 10, none⟩ = some (.int .i64 T) ∧ w'.cell? ⟨bb, bo + j * 10 + 1, none⟩ = some (.int .i64 0) ∧ w'.cell? ⟨bb, bo + j * 10 + 2, none⟩ = some (.int .i64 (m : Int)) ∧ w'.cell? ⟨bb, bo + j * 10 + 3, none⟩ = some (.int .i64 0) ∧ w'.cell? ⟨bb, bo + j * 10 + 4, none⟩ = some (.int .i64 0) ∧ w'.cell? ⟨bb, bo + j * 10 + 5, none⟩ = some (.int .i64 (m : Int)) ∧ w'.cell? ⟨bb, bo + j * 10 + 6, none⟩ = some (.int .i64 0) ∧ w'.cell? ⟨bb, bo + j * 10 + 7, none⟩ = some (.int .i64 0) ∧ w'.cell? ⟨bb, bo + j * 10 + 8, none⟩ = some (.int .i64 (m : Int)) ∧ w'.cell? ⟨bb, bo + j * 10 + 9, none⟩ = some (.slice oa 0 oc))) (first | (go_keep; done) | exact Hid.out KEEP3 | exact Hid.out KEEP2 | exact Hid.out KEEP0) (first
            | (go_at_call 11; refine (Hid.out HPU (Hid.out H7)).mono ?_; rintro e w8 ⟨rfl, h8⟩; have H8 : Hid (Pb w w8 0 (pls num z (m + 1)) b [(some ⟨bb, bo, none⟩, lb), (aa, als z z.length)] (some ⟨kb, 0, none⟩) [(at' * 8, 0, 0)]) := h8; have KEEP3 : Hid ((w8.cell? ⟨kb, 0, none⟩ = some (.int .i64 (at' * 8)) ∧ w8.cell? ⟨kb, 1, none⟩ = some (.int .i64 0) ∧ w8.cell? ⟨kb, 2, none⟩ = some (.int .i64 0)) ∧ (w8.cell? ⟨bb, bo + j * 10, none⟩ = some (.int .i64 T) ∧ w8.cell? ⟨bb, bo + j * 10 + 1, none⟩ = some (.int .i64 0) ∧ w8.cell? ⟨bb, bo + j * 10 + 2, none⟩ = some (.int .i64 (m : Int)) ∧ w8.cell? ⟨bb, bo + j * 10 + 3, none⟩ = some (.int .i64 0) ∧ w8.cell? ⟨bb, bo + j * 10 + 4, none⟩ = some (.int .i64 0) ∧ w8.cell? ⟨bb, bo + j * 10 + 5, none⟩ = some (.int .i64 (m : Int)) ∧ w8.cell? ⟨bb, bo + j * 10 + 6, none⟩ = some (.int .i64 0) ∧ w8.cell? ⟨bb, bo + j * 10 + 7, none⟩ = some (.int .i64 0) ∧ w8.cell? ⟨bb, bo + j * 10 + 8, none⟩ = some (.int .i64 (m : Int)) ∧ w8.cell? ⟨bb, bo + j * 10 + 9, none⟩ = some (.slice oa 0 oc))) := (Hid.out HFC h8).2.2; clear h8)
            | (go_at_call 25; refine (Hid.out HCM).mono ?_; rintro e w7 ⟨rfl, h7⟩; have H7 : Hid (Pb w w7 0 (pls num z m) b [(some ⟨bb, bo, none⟩, lb), (aa, als z z.length)] (some ⟨kb, 0, none⟩) [(at' * 8, 0, 0)]) := Pb.on (Hid.out H6) h7; have KEEP2 : Hid ((w7.cell? ⟨kb, 0, none⟩ = some (.int .i64 (at' * 8)) ∧ w7.cell? ⟨kb, 1, none⟩ = some (.int .i64 0) ∧ w7.cell? ⟨kb, 2, none⟩ = some (.int .i64 0)) ∧ (w7.cell? ⟨bb, bo + j * 10, none⟩ = some (.int .i64 T) ∧ w7.cell? ⟨bb, bo + j * 10 + 1, none⟩ = some (.int .i64 0) ∧ w7.cell? ⟨bb, bo + j * 10 + 2, none⟩ = some (.int .i64 (m : Int)) ∧ w7.cell? ⟨bb, bo + j * 10 + 3, none⟩ = some (.int .i64 0) ∧ w7.cell? ⟨bb, bo + j * 10 + 4, none⟩ = some (.int .i64 0) ∧ w7.cell? ⟨bb, bo + j * 10 + 5, none⟩ = some (.int .i64 (m : Int)) ∧ w7.cell? ⟨bb, bo + j * 10 + 6, none⟩ = some (.int .i64 0) ∧ w7.cell? ⟨bb, bo + j * 10 + 7, none⟩ = some (.int .i64 0) ∧ w7.cell? ⟨bb, bo + j * 10 + 8, none⟩ = some (.int .i64 (m : Int)) ∧ w7.cell? ⟨bb, bo + j * 10 + 9, none⟩ = some (.slice oa 0 oc))) := (Hid.out HFC (Pb.on (Hid.out H6) h7)).2.2; clear h7))
          go_wp2
          go_roundw
          case rel => exact ⟨m + 1, by omega, by omega, by congr 1; rw [← HJ.out]; omega, H8.out⟩
          case measure => simp [intOf]
        · obtain rfl : m = z.length := by omega
          have hg0 : ¬ (0 : Int) ≤ (z.length : Int) - 1 - (z.length : Int) := by omega
          have hg1 : (z.length : Int) - 1 - (z.length : Int) = -1 := by omega
          rw [hg1]
          have SA : gonT 1099511627776 (pls num z z.length) = pls num z z.length := settle_all HZ1.out hz2
          have HST : Hid (∀ {W : World} {rs : RowsE} {ka : Option Addr} {kl : List K}, Pb w W 0 (pls num z z.length) b rs ka kl → Calls Try.prog 16 #[.pointer (some ⟨b, 0, none⟩), .int .i64 1099511627776] W fun e w' => ∃ la lc ll R, e = .returned (.slice la z.length lc) ∧ ll.map E.p = pls num z z.length ∧ Pb w w' 1099511627776 R b ((la, ll) :: rs) ka kl) := fun h => by
            have h1 := h.settle 1099511627776
            rw [SA, pls_len] at h1
            exact h1.mono fun e w' ⟨la, lc, ll, he, hl, hp⟩ => ⟨la, lc, ll, _, he, hl, hp⟩
          clear SA hg1
          go_wp2_with fail
          go_loopw [14] (fun s14 wr => ∃ i : Nat, s14 = .int .i64 i ∧ i ≤ c ∧ Hid (Pb w wr 0 (pls num z z.length) b [(ba, lb), (aa, als z z.length)] (some ⟨kb, 0, none⟩) [(at' * 8, 0, 0)])) (fun s14 _ => c - (intOf s14).toNat)
          case atStart => exact ⟨0, rfl, Nat.zero_le _, H6.out⟩
          case round =>
            obtain ⟨i, rfl, hi, H9⟩ := hrel
            by_cases hlt3 : i < c
            · have hlt3' : (i : Int) < (c : Int) := by omega
              have hiN : i < z.length := by have := HCN.out; omega
              have hiN' : (i : Int) < (z.length : Int) := by omega
              have hx : nth cE (als z z.length) i = ⟨pe num z i, none, 0⟩ := als_nth z hiN
              obtain ⟨T, hT⟩ : ∃ T, tsum z (i + 1) = T := ⟨_, rfl⟩
              obtain ⟨ab, ao, rfl, lab, _, u0, u1, u2, _⟩ := (H9.out.row (a := aa) (l := als z z.length) (by simp)).entry (i := i) (by rw [als_len]; exact hiN) hx
              obtain ⟨lkb, q0, q1, q2⟩ := H9.out.key
              have HFC : Hid (∀ {W : World}, Below wr.heap.size wr W → (W.cell? ⟨kb, 0, none⟩ = some (.int .i64 (at' * 8)) ∧ W.cell? ⟨kb, 1, none⟩ = some (.int .i64 0) ∧ W.cell? ⟨kb, 2, none⟩ = some (.int .i64 0)) ∧ (W.cell? ⟨ab, ao + i * 10, none⟩ = some (.int .i64 T) ∧ W.cell? ⟨ab, ao + i * 10 + 1, none⟩ = some (.int .i64 0) ∧ W.cell? ⟨ab, ao + i * 10 + 2, none⟩ = some (.int .i64 (i : Int)))) := fun {W} hW => by
                obtain ⟨b', o', e, hb', _, u0, u1, u2, _⟩ := ((H9.out.on hW).row (a := some ⟨ab, ao, none⟩) (l := als z z.length) (by simp)).entry (i := i) (by rw [als_len]; exact hiN) hx
                simp at e
                obtain ⟨rfl, rfl⟩ := e
                rw [← hT]
                exact ⟨(H9.out.on hW).key.2, u0, u1, u2⟩
              have hlo := HLO.out i hlt3
              obtain ⟨r, hr⟩ : ∃ r, kcmp (pe num z i).m.1 (at' * 8, 0, 0) = r := ⟨_, rfl⟩
              rw [hr] at hlo
              have hlo2 : ¬ (0 : Int) ≤ r := by omega
              have HCM : Hid (Calls Try.prog 25 #[.agg #[.int .i64 T, .int .i64 0, .int .i64 (i : Int)], .agg #[.int .i64 (at' * 8), .int .i64 0, .int .i64 0]] wr.drew fun e w' => e = .returned (.int .i64 r) ∧ Below wr.heap.size wr w') := by
                have h1 := refcmp_any (pe num z i).m.1 (at' * 8, 0, 0) wr.drew
                rw [hr] at h1
                rw [← hT]
                exact h1.mono fun e w' ⟨he, hb⟩ => ⟨he, ⟨hb.os, hb.tape, hb.output, hb.size, hb.block⟩⟩
              have KEEP0 : Hid ((wr.drew.cell? ⟨kb, 0, none⟩ = some (.int .i64 (at' * 8)) ∧ wr.drew.cell? ⟨kb, 1, none⟩ = some (.int .i64 0) ∧ wr.drew.cell? ⟨kb, 2, none⟩ = some (.int .i64 0)) ∧ (wr.drew.cell? ⟨ab, ao + i * 10, none⟩ = some (.int .i64 T) ∧ wr.drew.cell? ⟨ab, ao + i * 10 + 1, none⟩ = some (.int .i64 0) ∧ wr.drew.cell? ⟨ab, ao + i * 10 + 2, none⟩ = some (.int .i64 (i : Int)))) := HFC.out (Below.refl _ wr).drew
              have hTu : wr.cell? ⟨ab, ao + i * 10, none⟩ = some (.int .i64 T) := by rw [← hT]; exact u0
              clear hx hT hr u0
              go_wp2_with fail
              go_region_held3 (fun w' => (w'.cell? ⟨kb, 0, none⟩ = some (.int .i64 (at' * 8)) ∧ w'.cell? ⟨kb, 1, none⟩ = some (.int .i64 0) ∧ w'.cell? ⟨kb, 2, none⟩ = some (.int .i64 0)) ∧ (w'.cell? ⟨ab, ao + i * 10, none⟩ = some (.int .i64 T) ∧ w'.cell? ⟨ab, ao + i * 10 + 1, none⟩ = some (.int .i64 0) ∧ w'.cell? ⟨ab, ao + i * 10 + 2, none⟩ = some (.int .i64 (i : Int)))) (first | (go_keep; done) | exact Hid.out KEEP2 | exact Hid.out KEEP0) (first
                | (go_at_call 25; refine (Hid.out HCM).mono ?_; rintro e w7 ⟨rfl, h7⟩; have H10 : Hid (Pb w w7 0 (pls num z z.length) b [(ba, lb), (some ⟨ab, ao, none⟩, als z z.length)] (some ⟨kb, 0, none⟩) [(at' * 8, 0, 0)]) := Pb.on (Hid.out H9) h7; have KEEP2 : Hid ((w7.cell? ⟨kb, 0, none⟩ = some (.int .i64 (at' * 8)) ∧ w7.cell? ⟨kb, 1, none⟩ = some (.int .i64 0) ∧ w7.cell? ⟨kb, 2, none⟩ = some (.int .i64 0)) ∧ (w7.cell? ⟨ab, ao + i * 10, none⟩ = some (.int .i64 T) ∧ w7.cell? ⟨ab, ao + i * 10 + 1, none⟩ = some (.int .i64 0) ∧ w7.cell? ⟨ab, ao + i * 10 + 2, none⟩ = some (.int .i64 (i : Int)))) := Hid.out HFC h7; clear h7))
              go_wp2
              go_roundw
              case rel => exact ⟨i + 1, by go_num, by omega, H10.out⟩
              case measure => simp [intOf]; omega
            · obtain rfl : i = c := by omega
              have hceq : ((z.length : Int) != (z.length : Int)) = false := by simp
              go_wp2_with (go_at_call 16; refine (Hid.out HST (Hid.out H9)).mono ?_; rintro e w11 ⟨la, lc, ll, R, rfl, ml, h11⟩; have H11 : Hid (Pb w w11 1099511627776 R b [(la, ll), (ba, lb), (aa, als z z.length)] (some ⟨kb, 0, none⟩) [(at' * 8, 0, 0)]) := h11; have MLL : Hid (ll.map E.p = pls num z z.length) := ml; clear h11 ml)
              go_loopw [16] (fun s16 wr => ∃ i : Nat, s16 = .int .i64 i ∧ i ≤ z.length ∧ Hid (Pb w wr 1099511627776 R b [(la, ll), (ba, lb), (aa, als z z.length)] (some ⟨kb, 0, none⟩) [(at' * 8, 0, 0)])) (fun s16 _ => z.length - (intOf s16).toNat)
              case atStart => exact ⟨0, rfl, Nat.zero_le _, H11.out⟩
              case round =>
                obtain ⟨i, rfl, hi4, H12⟩ := hrel
                by_cases hlt4 : i < z.length
                · have hlt4' : (i : Int) < (z.length : Int) := by omega
                  have hx : nth cE (als z z.length) i = ⟨pe num z i, none, 0⟩ := als_nth z hlt4
                  obtain ⟨T, hT⟩ : ∃ T, tsum z (i + 1) = T := ⟨_, rfl⟩
                  obtain ⟨ab, ao, rfl, lab, _, u0, u1, u2, u3, u4, u5, _⟩ := (H12.out.row (a := aa) (l := als z z.length) (by simp)).entry (i := i) (by rw [als_len]; exact hlt4) hx
                  obtain ⟨y, hy⟩ : ∃ y, nth cE ll i = y := ⟨_, rfl⟩
                  have hyp : y.p = pe num z i := by rw [← hy, ← nthP_map, MLL.out, pls_nth num z hlt4]
                  have hll : ll.length = z.length := by have := congrArg List.length MLL.out; simpa [pls_len] using this
                  obtain ⟨yp, yoa, yoc⟩ := y
                  dsimp only at hyp
                  subst hyp
                  obtain ⟨lb', lo', rfl, llb, _, v0, v1, v2, v3, v4, v5, _, _, v8, _⟩ := (H12.out.row (a := la) (l := ll) (by simp)).entry (i := i) (by omega) hy
                  have t0 : wr.cell? ⟨ab, ao + i * 10, none⟩ = some (.int .i64 T) := by rw [← hT]; exact u0
                  have t1 : wr.cell? ⟨ab, ao + i * 10 + 1, none⟩ = some (.int .i64 0) := u1
                  have t2 : wr.cell? ⟨ab, ao + i * 10 + 2, none⟩ = some (.int .i64 (i : Int)) := u2
                  have t3 : wr.cell? ⟨ab, ao + i * 10 + 3, none⟩ = some (.int .i64 0) := u3
                  have t4 : wr.cell? ⟨ab, ao + i * 10 + 4, none⟩ = some (.int .i64 0) := u4
                  have t5 : wr.cell? ⟨ab, ao + i * 10 + 5, none⟩ = some (.int .i64 (i : Int)) := u5
                  have r0 : wr.cell? ⟨lb', lo' + i * 10, none⟩ = some (.int .i64 T) := by rw [← hT]; exact v0
                  have r1 : wr.cell? ⟨lb', lo' + i * 10 + 1, none⟩ = some (.int .i64 0) := v1
                  have r2 : wr.cell? ⟨lb', lo' + i * 10 + 2, none⟩ = some (.int .i64 (i : Int)) := v2
                  have r3 : wr.cell? ⟨lb', lo' + i * 10 + 3, none⟩ = some (.int .i64 0) := v3
                  have r4 : wr.cell? ⟨lb', lo' + i * 10 + 4, none⟩ = some (.int .i64 0) := v4
                  have r5 : wr.cell? ⟨lb', lo' + i * 10 + 5, none⟩ = some (.int .i64 (i : Int)) := v5
                  have r8 : wr.cell? ⟨lb', lo' + i * 10 + 8, none⟩ = some (.int .i64 (i : Int)) := v8
                  have hce : ((i : Int) != (i : Int)) = false := by simp
                  clear u0 u1 u2 u3 u4 u5 v0 v1 v2 v3 v4 v5 v8 hx hy hT hll
                  go_wp2_with fail
                  go_quiet (fail)
                  go_wp2
                  go_roundw
                  case rel => exact ⟨i + 1, by go_num, by omega, H12.out.on ⟨rfl, rfl, rfl, Nat.le_refl _, fun _ _ => rfl⟩⟩
                  case measure => simp [intOf]; omega
                · obtain rfl : i = z.length := by omega
                  have PE : Calls Try.prog 11 #[.pointer (some ⟨b, 0, none⟩), .agg #[.int .i64 0, .int .i64 0, .int .i64 0, .int .i64 0, .int .i64 0, .int .i64 0, .int .i64 0, .int .i64 0, .int .i64 0, .slice none 0 0]] wr fun e w' => e = .returned (.int .i64 110) ∧ Below w.heap.size w w' := by
                    have h1 := H12.out.push (N := fun _ => True) (x := ⟨mkP 0 0 0 0 0, none, 0⟩) ⟨RdN.nil _ _ _ _, by simp [mkP]⟩
                    have h2 := push_early (fl := 1099511627776) (L := R) (e := mkP 0 0 0 0 0) (by decide)
                    dsimp only at h1
                    rw [h2.1] at h1
                    exact h1.mono fun e w' ⟨he, ht⟩ => ⟨he, ht.bel⟩
                  go_wp2_with (go_at_call 11; refine PE.mono ?_; rintro e w13 ⟨rfl, h13⟩)
                  go_ret
                  exact ⟨rfl, h13⟩
end Go.Proofs.Ytgifanioeeacdaa
