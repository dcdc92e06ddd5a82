/- Proved: the walk of GateScript. -/
import Derived.Test.YtpkemgpnpadkfaaSbb
import Derived.Test.YtpkemgpnpadkfaaStp
import Derived.BigQuiet
import Derived.Deep.QuietTactic
namespace Go.Proofs.Ytpkemgpnpadkfaa
open Go.RowKit Go.Shelf Go.Sort
set_option linter.unusedVariables false

theorem Sb.less {Q1 Q2 : TQ} {w W : World} {fl1 fl2 : Int} {L1 L2 : List H} {b1 b2 : Nat} {rs : Rws} {xb : Nat} {o : Obj} (h : Sb Q1 Q2 w W fl1 L1 b1 fl2 L2 b2 rs xb o) : Sb Q1 Q2 w W fl1 L1 b1 fl2 L2 b2 [] xb o := by
  obtain ⟨v1, v2, h1, h2, hb, _, hx⟩ := h
  exact ⟨v1, v2, h1, h2, hb, (fun r hr => by cases hr), hx⟩
theorem Pg.end {w W : World} {fl1 fl2 : Int} {L1 L2 : List H} {p q : Nat} (h : Pg GQ RQ w W fl1 L1 p fl2 L2 q [] nv []) (hf : 0 ≤ fl1) :
    Calls Try.prog 11 #[.pointer (some ⟨p, 0, none⟩), .agg #[.int .i64 (-9), .int .i64 0, .int .i64 0], .agg #[.int .i64 0, .int .i64 0, .int .i64 0, .int .i64 0, .int .i64 0, .int .i64 0]] W fun e w' => e = .returned (.int .i64 110) ∧ Below w.heap.size w w' := by
  have g1 := h.hold kpR ((-9, 0, 0), ((0, 0, 0), 0, 0, 0))
  rw [(hold_early (fl := fl1) (L := L1) (x := ((-9, 0, 0), ((0, 0, 0), 0, 0, 0))) (show (-9 : Int) < fl1 by omega)).1] at g1
  exact g1.mono fun e w' ⟨he, hg⟩ => ⟨he, hg.bel⟩
set_option maxRecDepth 100000 in
set_option maxHeartbeats 8000000 in
theorem script_walk (w : World) (sa : Option Addr) (sc : Nat) (z : List St) (hz : RdS w sa z) (hn : z.length ≤ maxLen) :
    Calls Try.prog 3 #[.slice sa z.length sc] w fun e w' => e = .returned (.bool true) ∧ Below w.heap.size w w' := by
  have mixed : Try.prog.follows .mixedOrders = true := by kernel_rfl
  by_cases hlong : 300 < z.length
  · have hl' : (300 : Int) < (z.length : Int) := by omega
    unfold maxLen at hn
    clear hz
    go_enter Try.func3, Try.ntmps3
    go_wp2
    go_ret
    exact ⟨rfl, Below.refl _ _⟩
  have hz2 : z.length ≤ 300 := by omega
  have hl' : ¬ (300 : Int) < (z.length : Int) := by omega
  obtain ⟨p, hp⟩ : ∃ p, w.heap.size = p := ⟨_, rfl⟩
  have NW := Ga.new w
  rw [hp] at NW
  have HZ : Hid (RdS w sa z) := hz
  obtain ⟨zl, hzl⟩ : ∃ zl, z.length = zl := ⟨_, rfl⟩
  have HZL : Hid (z.length = zl) := hzl
  rw [hzl] at hl' hz2 ⊢
  clear hz hn hlong hp hzl
  go_enter Try.func3, Try.ntmps3
  go_wp2_with (first | (go_at_call 10; refine (Pg.rnew (Hid.out H1)).mono ?_; rintro e w2 ⟨rfl, h2⟩; have H2 : Hid (Pg GQ RQ w w2 0 [] p 0 [] w1.heap.size [] nv []) := h2; clear h2) | (go_at_call 9; refine NW.mono ?_; rintro e w1 ⟨rfl, h1⟩; have H1 : Hid (Ga w w1 0 [] p []) := h1; clear h1 NW))
  obtain ⟨q, hq⟩ : ∃ q, w1.heap.size = q := ⟨_, rfl⟩
  rw [hq] at H2 ⊢
  clear hq H1
  go_loopw [5] (fun s5 wr => ∃ (i : Nat) (fl : Int) (L : List H), s5 = .int .i64 i ∧ i ≤ zl ∧ 0 ≤ fl ∧ Hid (Pg GQ RQ w wr fl L p fl L q [] nv [])) (fun s5 _ => zl - (intOf s5).toNat)
  case atStart => exact ⟨0, 0, [], rfl, Nat.zero_le _, Int.le_refl _, H2.out⟩
  case round =>
    clear H2
    obtain ⟨i, fl, L, rfl, hi, hfl, HN⟩ := hrel
    by_cases hlt : i < zl
    · have hlt' : (i : Int) < (zl : Int) := by omega
      obtain ⟨s, hs⟩ : ∃ s, nth cS z i = s := ⟨_, rfl⟩
      obtain ⟨sb, off, rfl, lsb, hcs⟩ := HZ.out.cells (show i < z.length by rw [HZL.out]; exact hlt) hs
      obtain ⟨kk, ⟨y1, y2, y3⟩, ⟨y4, y5, y6⟩, y7, y8, y9⟩ := s
      obtain ⟨d0, d1, d2, d3, d4, d5, d6, d7, d8, d9⟩ := hcs wr HN.out.bel
      have lsw : sb < wr.heap.size := Nat.lt_of_lt_of_le lsb HN.out.bel.size
      dsimp only at d0 d1 d2 d3 d4 d5 d6 d7 d8 d9
      obtain ⟨xb, hxb⟩ : ∃ xb, wr.heap.size = xb := ⟨_, rfl⟩
      obtain ⟨WB, hWB⟩ : ∃ WB, WB = wr.alloc (.cells #[.int .i64 kk, .int .i64 y1, .int .i64 y2, .int .i64 y3, .int .i64 y4, .int .i64 y5, .int .i64 y6, .int .i64 y7, .int .i64 y8, .int .i64 y9] 32) := ⟨_, rfl⟩
      obtain ⟨OB, hOB⟩ : ∃ OB, OB = Obj.cells #[.int .i64 kk, .int .i64 y1, .int .i64 y2, .int .i64 y3, .int .i64 y4, .int .i64 y5, .int .i64 y6, .int .i64 y7, .int .i64 y8, .int .i64 y9] 32 := ⟨_, rfl⟩
      have HSB : Hid (Sb GQ RQ w WB fl L p fl L q [] xb OB) := by
        show Sb GQ RQ w WB fl L p fl L q [] xb OB
        rw [hWB, ← hxb, hOB]
        exact Sb.start kpG kpR HN.out _
      have HBG : Hid (∀ W : World, W.heap[xb]? = some OB → W.cell? ⟨xb, 1, none⟩ = some (.int .i64 y1) ∧ W.cell? ⟨xb, 2, none⟩ = some (.int .i64 y2) ∧ W.cell? ⟨xb, 3, none⟩ = some (.int .i64 y3) ∧ W.cell? ⟨xb, 4, none⟩ = some (.int .i64 y4) ∧ W.cell? ⟨xb, 5, none⟩ = some (.int .i64 y5) ∧ W.cell? ⟨xb, 6, none⟩ = some (.int .i64 y6) ∧ W.cell? ⟨xb, 7, none⟩ = some (.int .i64 y7) ∧ W.cell? ⟨xb, 8, none⟩ = some (.int .i64 y8) ∧ W.cell? ⟨xb, 9, none⟩ = some (.int .i64 y9)) := fun W hW => by
        rw [hOB] at hW
        exact ⟨cellB hW 1, cellB hW 2, cellB hW 3, cellB hW 4, cellB hW 5, cellB hW 6, cellB hW 7, cellB hW 8, cellB hW 9⟩
      have HWB : Hid (WB = wr.alloc (.cells #[.int .i64 kk, .int .i64 y1, .int .i64 y2, .int .i64 y3, .int .i64 y4, .int .i64 y5, .int .i64 y6, .int .i64 y7, .int .i64 y8, .int .i64 y9] 32)) := hWB
      have HXB : Hid (wr.heap.size = xb) := hxb
      have hbx := HSB.out.box
      rw [hOB] at hbx
      have c0 := cellB hbx 0
      have c1 := cellB hbx 1
      have c2 := cellB hbx 2
      have c3 := cellB hbx 3
      have c4 := cellB hbx 4
      have c5 := cellB hbx 5
      have c6 := cellB hbx 6
      have c7 := cellB hbx 7
      have c8 := cellB hbx 8
      have c9 := cellB hbx 9
      have lxb : xb < WB.heap.size := (Array.getElem?_eq_some_iff.1 hbx).1
      simp only [List.getElem?_toArray, List.getElem?_cons_zero, List.getElem?_cons_succ] at c0 c1 c2 c3 c4 c5 c6 c7 c8 c9
      have hLc := HSB.out.cap
      clear hcs hs HN hWB hxb hbx hOB
      by_cases k0 : kk = 0
      · have q0 : (kk == 0) = true := by simp [k0]
        obtain ⟨r, hr⟩ : ∃ r, holdE fl L ((y1, y2, y3), (y4, y5, y6), y7, y8, y9) = r := ⟨_, rfl⟩
        obtain ⟨LL, hLL⟩ : ∃ LL, holdL fl L ((y1, y2, y3), (y4, y5, y6), y7, y8, y9) = LL := ⟨_, rfl⟩
        have hrr : (r != r) = false := by simp
        have A1 : Hid (Calls Try.prog 11 #[.pointer (some ⟨p, 0, none⟩), .agg #[.int .i64 y1, .int .i64 y2, .int .i64 y3], .agg #[.int .i64 y4, .int .i64 y5, .int .i64 y6, .int .i64 y7, .int .i64 y8, .int .i64 y9]] WB.drew fun e w' => e = .returned (.int .i64 r) ∧ Sb GQ RQ w w' fl LL p fl L q [] xb OB) := (Sb.hold kpR (Sb.on kpG kpR HSB.out (Below.refl _ WB).drew) ((y1, y2, y3), (y4, y5, y6), y7, y8, y9)).mono fun e w' ⟨he, hg⟩ => ⟨by rw [he, hr], by rw [hLL] at hg; exact hg⟩
        have A2 : Hid (∀ {W : World}, Sb GQ RQ w W fl LL p fl L q [] xb OB → Calls Try.prog 12 #[.pointer (some ⟨q, 0, none⟩), .agg #[.int .i64 y1, .int .i64 y2, .int .i64 y3], .agg #[.int .i64 y4, .int .i64 y5, .int .i64 y6, .int .i64 y7, .int .i64 y8, .int .i64 y9]] W fun e w' => e = .returned (.int .i64 r) ∧ Sb GQ RQ w w' fl LL p fl LL q [] xb OB) := fun h => (Sb.rhold kpG h.flip ((y1, y2, y3), (y4, y5, y6), y7, y8, y9)).mono fun e w' ⟨he, hg⟩ => ⟨by rw [he, hr], by rw [hLL] at hg; exact hg.flip⟩
        have HBC : Hid (∀ W : World, W.heap[xb]? = some OB → W.cell? ⟨xb, 1, none⟩ = some (.int .i64 y1) ∧ W.cell? ⟨xb, 2, none⟩ = some (.int .i64 y2) ∧ W.cell? ⟨xb, 3, none⟩ = some (.int .i64 y3) ∧ W.cell? ⟨xb, 4, none⟩ = some (.int .i64 y4) ∧ W.cell? ⟨xb, 5, none⟩ = some (.int .i64 y5) ∧ W.cell? ⟨xb, 6, none⟩ = some (.int .i64 y6) ∧ W.cell? ⟨xb, 7, none⟩ = some (.int .i64 y7) ∧ W.cell? ⟨xb, 8, none⟩ = some (.int .i64 y8) ∧ W.cell? ⟨xb, 9, none⟩ = some (.int .i64 y9)) := HBG.out
        clear hr hLL
        subst k0
        go_wp2_with fail
        simp only [HXB.out]
        rw [← HWB.out]
        go_wp2_with fail
        go_region_held3 (fun w' => w'.cell? ⟨xb, 1, none⟩ = some (.int .i64 y1) ∧ w'.cell? ⟨xb, 2, none⟩ = some (.int .i64 y2) ∧ w'.cell? ⟨xb, 3, none⟩ = some (.int .i64 y3) ∧ w'.cell? ⟨xb, 4, none⟩ = some (.int .i64 y4) ∧ w'.cell? ⟨xb, 5, none⟩ = some (.int .i64 y5) ∧ w'.cell? ⟨xb, 6, none⟩ = some (.int .i64 y6) ∧ w'.cell? ⟨xb, 7, none⟩ = some (.int .i64 y7) ∧ w'.cell? ⟨xb, 8, none⟩ = some (.int .i64 y8) ∧ w'.cell? ⟨xb, 9, none⟩ = some (.int .i64 y9)) (first | (go_keep; done) | exact Hid.out KEEP2 | exact Hid.out KEEP1) (first
          | (go_at_call 12; refine (Hid.out A2 (Hid.out HB3)).mono ?_; rintro e w4 ⟨rfl, h4⟩; have HB5 : Hid (Sb GQ RQ w w4 fl LL p fl LL q [] xb OB) := h4; have KEEP2 : Hid (w4.cell? ⟨xb, 1, none⟩ = some (.int .i64 y1) ∧ w4.cell? ⟨xb, 2, none⟩ = some (.int .i64 y2) ∧ w4.cell? ⟨xb, 3, none⟩ = some (.int .i64 y3) ∧ w4.cell? ⟨xb, 4, none⟩ = some (.int .i64 y4) ∧ w4.cell? ⟨xb, 5, none⟩ = some (.int .i64 y5) ∧ w4.cell? ⟨xb, 6, none⟩ = some (.int .i64 y6) ∧ w4.cell? ⟨xb, 7, none⟩ = some (.int .i64 y7) ∧ w4.cell? ⟨xb, 8, none⟩ = some (.int .i64 y8) ∧ w4.cell? ⟨xb, 9, none⟩ = some (.int .i64 y9)) := Hid.out HBC w4 h4.box; clear h4)
          | (go_at_call 11; refine (Hid.out A1).mono ?_; rintro e w3 ⟨rfl, h3⟩; have HB3 : Hid (Sb GQ RQ w w3 fl LL p fl L q [] xb OB) := h3; have KEEP1 : Hid (w3.cell? ⟨xb, 1, none⟩ = some (.int .i64 y1) ∧ w3.cell? ⟨xb, 2, none⟩ = some (.int .i64 y2) ∧ w3.cell? ⟨xb, 3, none⟩ = some (.int .i64 y3) ∧ w3.cell? ⟨xb, 4, none⟩ = some (.int .i64 y4) ∧ w3.cell? ⟨xb, 5, none⟩ = some (.int .i64 y5) ∧ w3.cell? ⟨xb, 6, none⟩ = some (.int .i64 y6) ∧ w3.cell? ⟨xb, 7, none⟩ = some (.int .i64 y7) ∧ w3.cell? ⟨xb, 8, none⟩ = some (.int .i64 y8) ∧ w3.cell? ⟨xb, 9, none⟩ = some (.int .i64 y9)) := Hid.out HBC w3 h3.box; clear h3))
        obtain ⟨nl, hnl⟩ : ∃ nl, (LL).length = nl := ⟨_, rfl⟩
        obtain ⟨low5, lq5⟩ := HB5.out.lowc
        have hcap5 : nl ≤ 256 := by rw [← hnl]; exact HB5.out.cap
        have hff : (fl != fl) = false := by simp
        have F1 : Hid (Calls Try.prog 20 #[.pointer (some ⟨p, 0, none⟩)] w4.drew fun e w' => e = .returned (.int .i64 fl) ∧ w' = w4.drew) := (Sb.floor (Sb.on kpG kpR HB5.out (Below.refl _ w4).drew)).mono fun e w' ⟨he, hw⟩ => ⟨he, hw.symm⟩
        have F2 : Hid (Calls Try.prog 21 #[.pointer (some ⟨p, 0, none⟩)] w4.drew fun e w' => ∃ a c, e = .returned (.slice a nl c) ∧ Sb GQ RQ w w' fl LL p fl LL q [(a, msgs LL)] xb OB) := (Sb.held kpR (Sb.less (Sb.on kpG kpR HB5.out (Below.refl _ w4).drew))).mono fun e w' ⟨a, c, he, hg⟩ => ⟨a, c, by rw [he, hnl], hg⟩
        have F3 : Hid (∀ {W : World} {a : Option Addr}, Sb GQ RQ w W fl LL p fl LL q [(a, msgs LL)] xb OB → Calls Try.prog 22 #[.pointer (some ⟨q, 0, none⟩)] W fun e w' => ∃ a2 c, e = .returned (.slice a2 nl c) ∧ Sb GQ RQ w w' fl LL p fl LL q [(a2, msgs LL), (a, msgs LL)] xb OB) := fun h => (Sb.rheld kpG h.flip).mono fun e w' ⟨a2, c, he, hg⟩ => ⟨a2, c, by rw [he, hnl], hg.flip⟩
        have XLN : Hid ((msgs LL).length = nl) := by show _ = _; rw [msgs_len, hnl]
        clear hnl
        go_wp2_with fail
        go_region_held3 (fun w' => w'.cell? ⟨q, 0, none⟩ = some (.int .i64 fl)) (first | (go_keep; done) | exact Hid.out KEEPC | exact Hid.out KEEPB | exact Hid.out KEEPA) (first
          | (go_at_call 13; refine (same_eq (n := nl) ((Hid.out HB7).row (a := ag) (ms := msgs LL) (by simp)) ((Hid.out HB7).row (a := ar) (ms := msgs LL) (by simp)) (Hid.out XLN) (by omega)).mono ?_; rintro e w8 ⟨rfl, h8⟩; have HB8 : Hid (Sb GQ RQ w w8 fl LL p fl LL q [(ar, msgs LL), (ag, msgs LL)] xb OB) := Sb.on kpG kpR (Hid.out HB7) h8; have KEEPC : Hid (w8.cell? ⟨q, 0, none⟩ = some (.int .i64 fl)) := (Hid.out HB8).lowc.1; clear h8)
          | (go_at_call 22; refine (Hid.out F3 (Hid.out HB6)).mono ?_; rintro e w7 ⟨ar, cr, rfl, h7⟩; have HB7 : Hid (Sb GQ RQ w w7 fl LL p fl LL q [(ar, msgs LL), (ag, msgs LL)] xb OB) := h7; have KEEPB : Hid (w7.cell? ⟨q, 0, none⟩ = some (.int .i64 fl)) := h7.lowc.1; clear h7)
          | (go_at_call 21; refine (Hid.out F2).mono ?_; rintro e w6 ⟨ag, cg, rfl, h6⟩; have HB6 : Hid (Sb GQ RQ w w6 fl LL p fl LL q [(ag, msgs LL)] xb OB) := h6; have KEEPA : Hid (w6.cell? ⟨q, 0, none⟩ = some (.int .i64 fl)) := h6.lowc.1; clear h6)
          | (go_at_call 20; refine (Hid.out F1).mono ?_; rintro e w9 ⟨rfl, rfl⟩))
        go_wp2
        go_roundw
        case rel => exact ⟨i + 1, fl, LL, by go_num, by omega, by omega, HB8.out.back⟩
        case measure => simp [intOf]; omega
      · have q0 : (kk == 0) = false := by simp [k0]
        by_cases k1 : kk = 1
        · subst k1
          go_wp2_with fail
          simp only [HXB.out]
          rw [← HWB.out]
          go_wp2_with fail
          obtain ⟨RW, hRW⟩ : ∃ RW, dropG (y1, y2, y3) L = RW := ⟨_, rfl⟩
          obtain ⟨LL, hLL⟩ : ∃ LL, L.filter (befK (y1, y2, y3)) = LL := ⟨_, rfl⟩
          obtain ⟨n1, hn1⟩ : ∃ n1, RW.length = n1 := ⟨_, rfl⟩
          have hn256 : n1 ≤ 256 := by
            rw [← hn1, ← hRW]
            unfold dropG; rw [msgs_len]; exact Nat.le_trans (List.length_filter_le _ _) hLc
          have A1 : Hid (Calls Try.prog 14 #[.pointer (some ⟨p, 0, none⟩), .agg #[.int .i64 y1, .int .i64 y2, .int .i64 y3]] WB.drew fun e w' => ∃ a c, e = .returned (.slice a n1 c) ∧ Sb GQ RQ w w' fl LL p fl L q [(a, RW)] xb OB) := (Sb.drop kpR (Sb.on kpG kpR HSB.out (Below.refl _ WB).drew) (y1, y2, y3)).mono fun e w' ⟨a, c, he, hg⟩ => ⟨a, c, by rw [he, hRW, hn1], by rw [hRW, hLL] at hg; exact hg⟩
          have A2 : Hid (∀ {W : World} {a : Option Addr}, Sb GQ RQ w W fl LL p fl L q [(a, RW)] xb OB → Calls Try.prog 15 #[.pointer (some ⟨q, 0, none⟩), .agg #[.int .i64 y1, .int .i64 y2, .int .i64 y3]] W fun e w' => ∃ a2 c, e = .returned (.slice a2 n1 c) ∧ Sb GQ RQ w w' fl LL p fl LL q [(a2, RW), (a, RW)] xb OB) := fun h => (Sb.rdrop kpG h.flip (y1, y2, y3)).mono fun e w' ⟨a2, c, he, hg⟩ => ⟨a2, c, by rw [he, hRW, hn1], by rw [hRW, hLL] at hg; exact hg.flip⟩
          have XRN : Hid (RW.length = n1) := hn1
          have HBC : Hid (∀ W : World, W.heap[xb]? = some OB → W.cell? ⟨xb, 1, none⟩ = some (.int .i64 y1) ∧ W.cell? ⟨xb, 2, none⟩ = some (.int .i64 y2) ∧ W.cell? ⟨xb, 3, none⟩ = some (.int .i64 y3)) := fun W hW => by
            obtain ⟨j1, j2, j3, j4, j5, j6, j7, j8, j9⟩ := HBG.out W hW
            exact ⟨j1, j2, j3⟩
          clear hRW hLL hn1
          go_wp2_with fail
          go_region_held3 (fun w' => w'.cell? ⟨xb, 1, none⟩ = some (.int .i64 y1) ∧ w'.cell? ⟨xb, 2, none⟩ = some (.int .i64 y2) ∧ w'.cell? ⟨xb, 3, none⟩ = some (.int .i64 y3)) (first | (go_keep; done) | exact Hid.out KEEP3 | exact Hid.out KEEP2 | exact Hid.out KEEP1) (first
            | (go_at_call 13; refine (same_eq (n := n1) ((Hid.out HB4).row (a := ax) (ms := RW) (by simp)) ((Hid.out HB4).row (a := ay) (ms := RW) (by simp)) (Hid.out XRN) (by omega)).mono ?_; rintro e w5 ⟨rfl, h5⟩; have HB5 : Hid (Sb GQ RQ w w5 fl LL p fl LL q [(ay, RW), (ax, RW)] xb OB) := Sb.on kpG kpR (Hid.out HB4) h5; have KEEP3 : Hid (w5.cell? ⟨xb, 1, none⟩ = some (.int .i64 y1) ∧ w5.cell? ⟨xb, 2, none⟩ = some (.int .i64 y2) ∧ w5.cell? ⟨xb, 3, none⟩ = some (.int .i64 y3)) := Hid.out HBC w5 (Hid.out HB5).box; clear h5)
            | (go_at_call 15; refine (Hid.out A2 (Hid.out HB3)).mono ?_; rintro e w4 ⟨ay, cy, rfl, h4⟩; have HB4 : Hid (Sb GQ RQ w w4 fl LL p fl LL q [(ay, RW), (ax, RW)] xb OB) := h4; have KEEP2 : Hid (w4.cell? ⟨xb, 1, none⟩ = some (.int .i64 y1) ∧ w4.cell? ⟨xb, 2, none⟩ = some (.int .i64 y2) ∧ w4.cell? ⟨xb, 3, none⟩ = some (.int .i64 y3)) := Hid.out HBC w4 h4.box; clear h4)
            | (go_at_call 14; refine (Hid.out A1).mono ?_; rintro e w3 ⟨ax, cx, rfl, h3⟩; have HB3 : Hid (Sb GQ RQ w w3 fl LL p fl L q [(ax, RW)] xb OB) := h3; have KEEP1 : Hid (w3.cell? ⟨xb, 1, none⟩ = some (.int .i64 y1) ∧ w3.cell? ⟨xb, 2, none⟩ = some (.int .i64 y2) ∧ w3.cell? ⟨xb, 3, none⟩ = some (.int .i64 y3)) := Hid.out HBC w3 h3.box; clear h3))
          obtain ⟨nl, hnl⟩ : ∃ nl, (LL).length = nl := ⟨_, rfl⟩
          obtain ⟨low5, lq5⟩ := HB5.out.lowc
          have hcap5 : nl ≤ 256 := by rw [← hnl]; exact HB5.out.cap
          have hff : (fl != fl) = false := by simp
          have F1 : Hid (Calls Try.prog 20 #[.pointer (some ⟨p, 0, none⟩)] w5.drew fun e w' => e = .returned (.int .i64 fl) ∧ w' = w5.drew) := (Sb.floor (Sb.on kpG kpR HB5.out (Below.refl _ w5).drew)).mono fun e w' ⟨he, hw⟩ => ⟨he, hw.symm⟩
          have F2 : Hid (Calls Try.prog 21 #[.pointer (some ⟨p, 0, none⟩)] w5.drew fun e w' => ∃ a c, e = .returned (.slice a nl c) ∧ Sb GQ RQ w w' fl LL p fl LL q [(a, msgs LL)] xb OB) := (Sb.held kpR (Sb.less (Sb.on kpG kpR HB5.out (Below.refl _ w5).drew))).mono fun e w' ⟨a, c, he, hg⟩ => ⟨a, c, by rw [he, hnl], hg⟩
          have F3 : Hid (∀ {W : World} {a : Option Addr}, Sb GQ RQ w W fl LL p fl LL q [(a, msgs LL)] xb OB → Calls Try.prog 22 #[.pointer (some ⟨q, 0, none⟩)] W fun e w' => ∃ a2 c, e = .returned (.slice a2 nl c) ∧ Sb GQ RQ w w' fl LL p fl LL q [(a2, msgs LL), (a, msgs LL)] xb OB) := fun h => (Sb.rheld kpG h.flip).mono fun e w' ⟨a2, c, he, hg⟩ => ⟨a2, c, by rw [he, hnl], hg.flip⟩
          have XLN : Hid ((msgs LL).length = nl) := by show _ = _; rw [msgs_len, hnl]
          clear hnl
          go_wp2_with fail
          go_region_held3 (fun w' => w'.cell? ⟨q, 0, none⟩ = some (.int .i64 fl)) (first | (go_keep; done) | exact Hid.out KEEPC | exact Hid.out KEEPB | exact Hid.out KEEPA) (first
            | (go_at_call 13; refine (same_eq (n := nl) ((Hid.out HB7).row (a := ag) (ms := msgs LL) (by simp)) ((Hid.out HB7).row (a := ar) (ms := msgs LL) (by simp)) (Hid.out XLN) (by omega)).mono ?_; rintro e w8 ⟨rfl, h8⟩; have HB8 : Hid (Sb GQ RQ w w8 fl LL p fl LL q [(ar, msgs LL), (ag, msgs LL)] xb OB) := Sb.on kpG kpR (Hid.out HB7) h8; have KEEPC : Hid (w8.cell? ⟨q, 0, none⟩ = some (.int .i64 fl)) := (Hid.out HB8).lowc.1; clear h8)
            | (go_at_call 22; refine (Hid.out F3 (Hid.out HB6)).mono ?_; rintro e w7 ⟨ar, cr, rfl, h7⟩; have HB7 : Hid (Sb GQ RQ w w7 fl LL p fl LL q [(ar, msgs LL), (ag, msgs LL)] xb OB) := h7; have KEEPB : Hid (w7.cell? ⟨q, 0, none⟩ = some (.int .i64 fl)) := h7.lowc.1; clear h7)
            | (go_at_call 21; refine (Hid.out F2).mono ?_; rintro e w6 ⟨ag, cg, rfl, h6⟩; have HB6 : Hid (Sb GQ RQ w w6 fl LL p fl LL q [(ag, msgs LL)] xb OB) := h6; have KEEPA : Hid (w6.cell? ⟨q, 0, none⟩ = some (.int .i64 fl)) := h6.lowc.1; clear h6)
            | (go_at_call 20; refine (Hid.out F1).mono ?_; rintro e w9 ⟨rfl, rfl⟩))
          go_wp2
          go_roundw
          case rel => exact ⟨i + 1, fl, LL, by go_num, by omega, by omega, HB8.out.back⟩
          case measure => simp [intOf]; omega
        · have q1 : (kk == 1) = false := by simp [k1]
          by_cases k2 : kk = 2
          · subst k2
            obtain ⟨mx, hmx⟩ : ∃ mx, max fl y1 = mx := ⟨_, rfl⟩
            have hmx0 : 0 ≤ mx := by omega
            go_wp2_with fail
            simp only [HXB.out]
            rw [← HWB.out]
            go_wp2_with fail
            obtain ⟨RW, hRW⟩ : ∃ RW, openG y1 L = RW := ⟨_, rfl⟩
            obtain ⟨LL, hLL⟩ : ∃ LL, L.filter (fun x => !low y1 x) = LL := ⟨_, rfl⟩
            obtain ⟨n1, hn1⟩ : ∃ n1, RW.length = n1 := ⟨_, rfl⟩
            have hn256 : n1 ≤ 256 := by
              rw [← hn1, ← hRW]
              unfold openG; rw [msgs_len, Stb.isort_len]; exact Nat.le_trans (List.length_filter_le _ _) hLc
            have A1 : Hid (Calls Try.prog 16 #[.pointer (some ⟨p, 0, none⟩), .int .i64 y1] WB.drew fun e w' => ∃ a c, e = .returned (.slice a n1 c) ∧ Sb GQ RQ w w' mx LL p fl L q [(a, RW)] xb OB) := (Sb.open kpR (Sb.on kpG kpR HSB.out (Below.refl _ WB).drew) y1).mono fun e w' ⟨a, c, he, hg⟩ => ⟨a, c, by rw [he, hRW, hn1], by rw [hRW, hLL, hmx] at hg; exact hg⟩
            have A2 : Hid (∀ {W : World} {a : Option Addr}, Sb GQ RQ w W mx LL p fl L q [(a, RW)] xb OB → Calls Try.prog 17 #[.pointer (some ⟨q, 0, none⟩), .int .i64 y1] W fun e w' => ∃ a2 c, e = .returned (.slice a2 n1 c) ∧ Sb GQ RQ w w' mx LL p mx LL q [(a2, RW), (a, RW)] xb OB) := fun h => (Sb.ropen kpG h.flip y1).mono fun e w' ⟨a2, c, he, hg⟩ => ⟨a2, c, by rw [he, hRW, hn1], by rw [hRW, hLL, hmx] at hg; exact hg.flip⟩
            have XRN : Hid (RW.length = n1) := hn1
            have HBC : Hid (∀ W : World, W.heap[xb]? = some OB → W.cell? ⟨xb, 1, none⟩ = some (.int .i64 y1)) := fun W hW => by
              obtain ⟨j1, j2, j3, j4, j5, j6, j7, j8, j9⟩ := HBG.out W hW
              exact j1
            clear hRW hLL hn1 hmx
            go_wp2_with fail
            go_region_held3 (fun w' => w'.cell? ⟨xb, 1, none⟩ = some (.int .i64 y1)) (first | (go_keep; done) | exact Hid.out KEEP3 | exact Hid.out KEEP2 | exact Hid.out KEEP1) (first
              | (go_at_call 13; refine (same_eq (n := n1) ((Hid.out HB4).row (a := ax) (ms := RW) (by simp)) ((Hid.out HB4).row (a := ay) (ms := RW) (by simp)) (Hid.out XRN) (by omega)).mono ?_; rintro e w5 ⟨rfl, h5⟩; have HB5 : Hid (Sb GQ RQ w w5 mx LL p mx LL q [(ay, RW), (ax, RW)] xb OB) := Sb.on kpG kpR (Hid.out HB4) h5; have KEEP3 : Hid (w5.cell? ⟨xb, 1, none⟩ = some (.int .i64 y1)) := Hid.out HBC w5 (Hid.out HB5).box; clear h5)
              | (go_at_call 17; refine (Hid.out A2 (Hid.out HB3)).mono ?_; rintro e w4 ⟨ay, cy, rfl, h4⟩; have HB4 : Hid (Sb GQ RQ w w4 mx LL p mx LL q [(ay, RW), (ax, RW)] xb OB) := h4; have KEEP2 : Hid (w4.cell? ⟨xb, 1, none⟩ = some (.int .i64 y1)) := Hid.out HBC w4 h4.box; clear h4)
              | (go_at_call 16; refine (Hid.out A1).mono ?_; rintro e w3 ⟨ax, cx, rfl, h3⟩; have HB3 : Hid (Sb GQ RQ w w3 mx LL p fl L q [(ax, RW)] xb OB) := h3; have KEEP1 : Hid (w3.cell? ⟨xb, 1, none⟩ = some (.int .i64 y1)) := Hid.out HBC w3 h3.box; clear h3))
            obtain ⟨nl, hnl⟩ : ∃ nl, (LL).length = nl := ⟨_, rfl⟩
            obtain ⟨low5, lq5⟩ := HB5.out.lowc
            have hcap5 : nl ≤ 256 := by rw [← hnl]; exact HB5.out.cap
            have hff : (mx != mx) = false := by simp
            have F1 : Hid (Calls Try.prog 20 #[.pointer (some ⟨p, 0, none⟩)] w5.drew fun e w' => e = .returned (.int .i64 mx) ∧ w' = w5.drew) := (Sb.floor (Sb.on kpG kpR HB5.out (Below.refl _ w5).drew)).mono fun e w' ⟨he, hw⟩ => ⟨he, hw.symm⟩
            have F2 : Hid (Calls Try.prog 21 #[.pointer (some ⟨p, 0, none⟩)] w5.drew fun e w' => ∃ a c, e = .returned (.slice a nl c) ∧ Sb GQ RQ w w' mx LL p mx LL q [(a, msgs LL)] xb OB) := (Sb.held kpR (Sb.less (Sb.on kpG kpR HB5.out (Below.refl _ w5).drew))).mono fun e w' ⟨a, c, he, hg⟩ => ⟨a, c, by rw [he, hnl], hg⟩
            have F3 : Hid (∀ {W : World} {a : Option Addr}, Sb GQ RQ w W mx LL p mx LL q [(a, msgs LL)] xb OB → Calls Try.prog 22 #[.pointer (some ⟨q, 0, none⟩)] W fun e w' => ∃ a2 c, e = .returned (.slice a2 nl c) ∧ Sb GQ RQ w w' mx LL p mx LL q [(a2, msgs LL), (a, msgs LL)] xb OB) := fun h => (Sb.rheld kpG h.flip).mono fun e w' ⟨a2, c, he, hg⟩ => ⟨a2, c, by rw [he, hnl], hg.flip⟩
            have XLN : Hid ((msgs LL).length = nl) := by show _ = _; rw [msgs_len, hnl]
            clear hnl
            go_wp2_with fail
            go_region_held3 (fun w' => w'.cell? ⟨q, 0, none⟩ = some (.int .i64 mx)) (first | (go_keep; done) | exact Hid.out KEEPC | exact Hid.out KEEPB | exact Hid.out KEEPA) (first
              | (go_at_call 13; refine (same_eq (n := nl) ((Hid.out HB7).row (a := ag) (ms := msgs LL) (by simp)) ((Hid.out HB7).row (a := ar) (ms := msgs LL) (by simp)) (Hid.out XLN) (by omega)).mono ?_; rintro e w8 ⟨rfl, h8⟩; have HB8 : Hid (Sb GQ RQ w w8 mx LL p mx LL q [(ar, msgs LL), (ag, msgs LL)] xb OB) := Sb.on kpG kpR (Hid.out HB7) h8; have KEEPC : Hid (w8.cell? ⟨q, 0, none⟩ = some (.int .i64 mx)) := (Hid.out HB8).lowc.1; clear h8)
              | (go_at_call 22; refine (Hid.out F3 (Hid.out HB6)).mono ?_; rintro e w7 ⟨ar, cr, rfl, h7⟩; have HB7 : Hid (Sb GQ RQ w w7 mx LL p mx LL q [(ar, msgs LL), (ag, msgs LL)] xb OB) := h7; have KEEPB : Hid (w7.cell? ⟨q, 0, none⟩ = some (.int .i64 mx)) := h7.lowc.1; clear h7)
              | (go_at_call 21; refine (Hid.out F2).mono ?_; rintro e w6 ⟨ag, cg, rfl, h6⟩; have HB6 : Hid (Sb GQ RQ w w6 mx LL p mx LL q [(ag, msgs LL)] xb OB) := h6; have KEEPA : Hid (w6.cell? ⟨q, 0, none⟩ = some (.int .i64 mx)) := h6.lowc.1; clear h6)
              | (go_at_call 20; refine (Hid.out F1).mono ?_; rintro e w9 ⟨rfl, rfl⟩))
            go_wp2
            go_roundw
            case rel => exact ⟨i + 1, mx, LL, by go_num, by omega, by omega, HB8.out.back⟩
            case measure => simp [intOf]; omega
          · have q2 : (kk == 2) = false := by simp [k2]
            by_cases k3 : kk = 3
            · subst k3
              obtain ⟨LL, hLL⟩ : ∃ LL, L.filter (fun x => !hasK (y4, y5, y6) x) = LL := ⟨_, rfl⟩
              obtain ⟨rn, hrn⟩ : ∃ rn, retN (y4, y5, y6) L = rn := ⟨_, rfl⟩
              obtain ⟨re, hre⟩ : ∃ re, retE (y4, y5, y6) L = re := ⟨_, rfl⟩
              have A1 : Hid (Calls Try.prog 18 #[.pointer (some ⟨p, 0, none⟩), .agg #[.int .i64 y4, .int .i64 y5, .int .i64 y6]] WB fun e w' => e = .returned (.tuple #[.int .i64 rn, .int .i64 re]) ∧ Sb GQ RQ w w' fl LL p fl L q [] xb OB) := (Sb.retract kpR HSB.out (y4, y5, y6)).mono fun e w' ⟨he, hg⟩ => ⟨by rw [he, hrn, hre], by rw [hLL] at hg; exact hg⟩
              have A2 : Hid (∀ {W : World}, Sb GQ RQ w W fl LL p fl L q [] xb OB → Calls Try.prog 19 #[.pointer (some ⟨q, 0, none⟩), .agg #[.int .i64 y4, .int .i64 y5, .int .i64 y6]] W fun e w' => e = .returned (.tuple #[.int .i64 rn, .int .i64 re]) ∧ Sb GQ RQ w w' fl LL p fl LL q [] xb OB) := fun h => (Sb.rretract kpG h.flip (y4, y5, y6)).mono fun e w' ⟨he, hg⟩ => ⟨by rw [he, hrn, hre], by rw [hLL] at hg; exact hg.flip⟩
              have hr1 : (rn != rn) = false := by simp
              have hr2 : (re != re) = false := by simp
              clear hLL hrn hre
              go_wp2_with fail
              simp only [HXB.out]
              rw [← HWB.out]
              go_wp2_with (first
                | (go_at_call 19; refine (Hid.out A2 (Hid.out HB3)).mono ?_; rintro e w5 ⟨rfl, h5⟩; have HB5 : Hid (Sb GQ RQ w w5 fl LL p fl LL q [] xb OB) := h5; clear h5)
                | (go_at_call 18; refine (Hid.out A1).mono ?_; rintro e w3 ⟨rfl, h3⟩; have HB3 : Hid (Sb GQ RQ w w3 fl LL p fl L q [] xb OB) := h3; have hb3 := h3.box; obtain ⟨_, _, _, m4, m5, m6, _, _, _⟩ := Hid.out HBG w3 hb3; have lx3 : xb < w3.heap.size := (Array.getElem?_eq_some_iff.1 hb3).1; clear h3 hb3))
              obtain ⟨nl, hnl⟩ : ∃ nl, (LL).length = nl := ⟨_, rfl⟩
              obtain ⟨low5, lq5⟩ := HB5.out.lowc
              have hcap5 : nl ≤ 256 := by rw [← hnl]; exact HB5.out.cap
              have hff : (fl != fl) = false := by simp
              have F1 : Hid (Calls Try.prog 20 #[.pointer (some ⟨p, 0, none⟩)] w5.drew fun e w' => e = .returned (.int .i64 fl) ∧ w' = w5.drew) := (Sb.floor (Sb.on kpG kpR HB5.out (Below.refl _ w5).drew)).mono fun e w' ⟨he, hw⟩ => ⟨he, hw.symm⟩
              have F2 : Hid (Calls Try.prog 21 #[.pointer (some ⟨p, 0, none⟩)] w5.drew fun e w' => ∃ a c, e = .returned (.slice a nl c) ∧ Sb GQ RQ w w' fl LL p fl LL q [(a, msgs LL)] xb OB) := (Sb.held kpR (Sb.less (Sb.on kpG kpR HB5.out (Below.refl _ w5).drew))).mono fun e w' ⟨a, c, he, hg⟩ => ⟨a, c, by rw [he, hnl], hg⟩
              have F3 : Hid (∀ {W : World} {a : Option Addr}, Sb GQ RQ w W fl LL p fl LL q [(a, msgs LL)] xb OB → Calls Try.prog 22 #[.pointer (some ⟨q, 0, none⟩)] W fun e w' => ∃ a2 c, e = .returned (.slice a2 nl c) ∧ Sb GQ RQ w w' fl LL p fl LL q [(a2, msgs LL), (a, msgs LL)] xb OB) := fun h => (Sb.rheld kpG h.flip).mono fun e w' ⟨a2, c, he, hg⟩ => ⟨a2, c, by rw [he, hnl], hg.flip⟩
              have XLN : Hid ((msgs LL).length = nl) := by show _ = _; rw [msgs_len, hnl]
              clear hnl
              go_wp2_with fail
              go_region_held3 (fun w' => w'.cell? ⟨q, 0, none⟩ = some (.int .i64 fl)) (first | (go_keep; done) | exact Hid.out KEEPC | exact Hid.out KEEPB | exact Hid.out KEEPA) (first
                | (go_at_call 13; refine (same_eq (n := nl) ((Hid.out HB7).row (a := ag) (ms := msgs LL) (by simp)) ((Hid.out HB7).row (a := ar) (ms := msgs LL) (by simp)) (Hid.out XLN) (by omega)).mono ?_; rintro e w8 ⟨rfl, h8⟩; have HB8 : Hid (Sb GQ RQ w w8 fl LL p fl LL q [(ar, msgs LL), (ag, msgs LL)] xb OB) := Sb.on kpG kpR (Hid.out HB7) h8; have KEEPC : Hid (w8.cell? ⟨q, 0, none⟩ = some (.int .i64 fl)) := (Hid.out HB8).lowc.1; clear h8)
                | (go_at_call 22; refine (Hid.out F3 (Hid.out HB6)).mono ?_; rintro e w7 ⟨ar, cr, rfl, h7⟩; have HB7 : Hid (Sb GQ RQ w w7 fl LL p fl LL q [(ar, msgs LL), (ag, msgs LL)] xb OB) := h7; have KEEPB : Hid (w7.cell? ⟨q, 0, none⟩ = some (.int .i64 fl)) := h7.lowc.1; clear h7)
                | (go_at_call 21; refine (Hid.out F2).mono ?_; rintro e w6 ⟨ag, cg, rfl, h6⟩; have HB6 : Hid (Sb GQ RQ w w6 fl LL p fl LL q [(ag, msgs LL)] xb OB) := h6; have KEEPA : Hid (w6.cell? ⟨q, 0, none⟩ = some (.int .i64 fl)) := h6.lowc.1; clear h6)
                | (go_at_call 20; refine (Hid.out F1).mono ?_; rintro e w9 ⟨rfl, rfl⟩))
              go_wp2
              go_roundw
              case rel => exact ⟨i + 1, fl, LL, by go_num, by omega, by omega, HB8.out.back⟩
              case measure => simp [intOf]; omega
            · have q3 : (kk == 3) = false := by simp [k3]
              go_wp2_with fail
              simp only [HXB.out]
              rw [← HWB.out]
              obtain ⟨nl, hnl⟩ : ∃ nl, (L).length = nl := ⟨_, rfl⟩
              obtain ⟨low5, lq5⟩ := HSB.out.lowc
              have hcap5 : nl ≤ 256 := by rw [← hnl]; exact HSB.out.cap
              have hff : (fl != fl) = false := by simp
              have F1 : Hid (Calls Try.prog 20 #[.pointer (some ⟨p, 0, none⟩)] WB.drew fun e w' => e = .returned (.int .i64 fl) ∧ w' = WB.drew) := (Sb.floor (Sb.on kpG kpR HSB.out (Below.refl _ WB).drew)).mono fun e w' ⟨he, hw⟩ => ⟨he, hw.symm⟩
              have F2 : Hid (Calls Try.prog 21 #[.pointer (some ⟨p, 0, none⟩)] WB.drew fun e w' => ∃ a c, e = .returned (.slice a nl c) ∧ Sb GQ RQ w w' fl L p fl L q [(a, msgs L)] xb OB) := (Sb.held kpR (Sb.less (Sb.on kpG kpR HSB.out (Below.refl _ WB).drew))).mono fun e w' ⟨a, c, he, hg⟩ => ⟨a, c, by rw [he, hnl], hg⟩
              have F3 : Hid (∀ {W : World} {a : Option Addr}, Sb GQ RQ w W fl L p fl L q [(a, msgs L)] xb OB → Calls Try.prog 22 #[.pointer (some ⟨q, 0, none⟩)] W fun e w' => ∃ a2 c, e = .returned (.slice a2 nl c) ∧ Sb GQ RQ w w' fl L p fl L q [(a2, msgs L), (a, msgs L)] xb OB) := fun h => (Sb.rheld kpG h.flip).mono fun e w' ⟨a2, c, he, hg⟩ => ⟨a2, c, by rw [he, hnl], hg.flip⟩
              have XLN : Hid ((msgs L).length = nl) := by show _ = _; rw [msgs_len, hnl]
              clear hnl
              go_wp2_with fail
              go_region_held3 (fun w' => w'.cell? ⟨q, 0, none⟩ = some (.int .i64 fl)) (first | (go_keep; done) | exact Hid.out KEEPC | exact Hid.out KEEPB | exact Hid.out KEEPA) (first
                | (go_at_call 13; refine (same_eq (n := nl) ((Hid.out HB7).row (a := ag) (ms := msgs L) (by simp)) ((Hid.out HB7).row (a := ar) (ms := msgs L) (by simp)) (Hid.out XLN) (by omega)).mono ?_; rintro e w8 ⟨rfl, h8⟩; have HB8 : Hid (Sb GQ RQ w w8 fl L p fl L q [(ar, msgs L), (ag, msgs L)] xb OB) := Sb.on kpG kpR (Hid.out HB7) h8; have KEEPC : Hid (w8.cell? ⟨q, 0, none⟩ = some (.int .i64 fl)) := (Hid.out HB8).lowc.1; clear h8)
                | (go_at_call 22; refine (Hid.out F3 (Hid.out HB6)).mono ?_; rintro e w7 ⟨ar, cr, rfl, h7⟩; have HB7 : Hid (Sb GQ RQ w w7 fl L p fl L q [(ar, msgs L), (ag, msgs L)] xb OB) := h7; have KEEPB : Hid (w7.cell? ⟨q, 0, none⟩ = some (.int .i64 fl)) := h7.lowc.1; clear h7)
                | (go_at_call 21; refine (Hid.out F2).mono ?_; rintro e w6 ⟨ag, cg, rfl, h6⟩; have HB6 : Hid (Sb GQ RQ w w6 fl L p fl L q [(ag, msgs L)] xb OB) := h6; have KEEPA : Hid (w6.cell? ⟨q, 0, none⟩ = some (.int .i64 fl)) := h6.lowc.1; clear h6)
                | (go_at_call 20; refine (Hid.out F1).mono ?_; rintro e w9 ⟨rfl, rfl⟩))
              go_wp2
              go_roundw
              case rel => exact ⟨i + 1, fl, L, by go_num, by omega, by omega, HB8.out.back⟩
              case measure => simp [intOf]; omega
    · obtain rfl : i = zl := by omega
      go_wp2_with (go_at_call 11; refine (Pg.end (Hid.out HN) hfl).mono ?_; rintro e w9 ⟨rfl, h9⟩)
      go_ret
      exact ⟨rfl, h9⟩
end Go.Proofs.Ytpkemgpnpadkfaa
