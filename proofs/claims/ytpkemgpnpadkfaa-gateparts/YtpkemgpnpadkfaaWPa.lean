/- Proved: the walk of GateParts. -/
import Derived.Test.YtpkemgpnpadkfaaPur
import Derived.Test.YtpkemgpnpadkfaaTwo
import Derived.BigQuiet
import Derived.Deep.QuietTactic
namespace Go.Proofs.Ytpkemgpnpadkfaa
open Go.RowKit Go.Shelf Go.Sort
set_option linter.unusedVariables false

set_option maxRecDepth 100000 in
set_option maxHeartbeats 4000000 in
theorem parts_walk (w : World) (sa : Option Addr) (sc : Nat) (z : List Int) (a b : Int) (hz : InN .u8 255 w sa z) (hn : z.length ≤ maxLen) (ha : 0 ≤ a ∧ a ≤ 255) (hb : 0 ≤ b ∧ b ≤ 255) :
    Calls Try.prog 6 #[.slice sa z.length sc, .int .u8 a, .int .u8 b] w fun e w' => e = .returned (.bool true) ∧ Below w.heap.size w w' := by
  by_cases hlong : 200 < z.length
  · have hl' : (200 : Int) < (z.length : Int) := by omega
    unfold maxLen at hn
    clear hz
    go_enter Try.func6, Try.ntmps6
    go_wp2
    go_ret
    exact ⟨rfl, Below.refl _ _⟩
  have hz2 : z.length ≤ 200 := by omega
  have hl' : ¬ (200 : Int) < (z.length : Int) := by omega
  obtain ⟨ha0, ha2⟩ := ha
  obtain ⟨hb0, hb2⟩ := hb
  obtain ⟨p, hp⟩ : ∃ p, w.heap.size = p := ⟨_, rfl⟩
  have NW := Ga.new w
  rw [hp] at NW
  have HZ : Hid (InN .u8 255 w sa z) := hz
  obtain ⟨zl, hzl⟩ : ∃ zl, z.length = zl := ⟨_, rfl⟩
  have HZL : Hid (z.length = zl) := hzl
  have HO : Hid (∀ {W : World} {i p q : Nat} {L2 : List H}, i < zl → Pg GQ GQ w W 0 (gls (fO z) z i) p 0 L2 q [] nv [] → Calls Try.prog 11 #[.pointer (some ⟨p, 0, none⟩), .agg #[.int .i64 (nthI z i), .int .i64 0, .int .i64 0], .agg #[.int .i64 (nthI z i), .int .i64 0, .int .i64 (i : Int), .int .i64 0, .int .i64 0, .int .i64 0]] W fun e w' => e = .returned (.int .i64 0) ∧ Pg GQ GQ w w' 0 (gls (fO z) z (i + 1)) p 0 L2 q [] nv []) := fun {W i p q L2} hi h => by
    have h1 := h.hold kpG (gh (fO z) z i)
    have h2 := gls_hold (f := fO z) (z := z) (n := i) (hz.1 i (by omega)).1 (by omega)
    rw [h2.1, h2.2] at h1
    exact h1
  rw [hzl] at hl' hz2 ⊢
  clear hz hn hlong hp hzl
  go_enter Try.func6, Try.ntmps6
  go_wp2_with (first | (go_at_call 9; refine (Pg.new (Hid.out H1)).mono ?_; rintro e w2 ⟨rfl, h2⟩; have H2 : Hid (Pg GQ GQ w w2 0 [] p 0 [] w1.heap.size [] nv []) := h2; clear h2) | (go_at_call 9; refine NW.mono ?_; rintro e w1 ⟨rfl, h1⟩; have H1 : Hid (Ga w w1 0 [] p []) := h1; clear h1 NW))
  obtain ⟨q, hq⟩ : ∃ q, w1.heap.size = q := ⟨_, rfl⟩
  rw [hq] at H2 ⊢
  clear hq H1
  go_loopw [9] (fun s9 wr => ∃ i : Nat, s9 = .int .i64 i ∧ i ≤ zl ∧ Hid (Pg GQ GQ w wr 0 (gls (fO z) z i) p 0 (gls (fO z) z i) q [] nv [])) (fun s9 _ => zl - (intOf s9).toNat)
  case atStart => exact ⟨0, rfl, Nat.zero_le _, H2.out⟩
  case round =>
    clear H2
    obtain ⟨i, rfl, hi, HN⟩ := hrel
    by_cases hlt : i < zl
    · have hlt' : (i : Int) < (zl : Int) := by omega
      obtain ⟨x0, x1, xb, off, rfl, hxb, hcs⟩ := InN.cell HZ.out (show i < z.length by rw [HZL.out]; exact hlt)
      have cx := hcs _ HN.out.bel
      have lxb : xb < wr.heap.size := Nat.lt_of_lt_of_le hxb HN.out.bel.size
      obtain ⟨x, hx⟩ : ∃ x, nthI z i = x := ⟨_, rfl⟩
      rw [hx] at x0 x1 cx
      have HOX : Hid (∀ {W : World} {p q : Nat} {L2 : List H}, Pg GQ GQ w W 0 (gls (fO z) z i) p 0 L2 q [] nv [] → Calls Try.prog 11 #[.pointer (some ⟨p, 0, none⟩), .agg #[.int .i64 x, .int .i64 0, .int .i64 0], .agg #[.int .i64 x, .int .i64 0, .int .i64 (i : Int), .int .i64 0, .int .i64 0, .int .i64 0]] W fun e w' => e = .returned (.int .i64 0) ∧ Pg GQ GQ w w' 0 (gls (fO z) z (i + 1)) p 0 L2 q [] nv []) := fun h => by
        rw [← hx]
        exact HO.out hlt h
      have HFI : Hid (Calls Try.prog 11 #[.pointer (some ⟨p, 0, none⟩), .agg #[.int .i64 x, .int .i64 0, .int .i64 0], .agg #[.int .i64 x, .int .i64 0, .int .i64 (i : Int), .int .i64 0, .int .i64 0, .int .i64 0]] ((wr.alloc (.cells #[.int .i64 x, .int .i64 0, .int .i64 0] 28)).alloc (.cells #[.int .i64 x, .int .i64 0, .int .i64 (i : Int), .int .i64 0, .int .i64 0, .int .i64 0] 30)) fun e w' => e = .returned (.int .i64 0) ∧ Pg GQ GQ w w' 0 (gls (fO z) z (i + 1)) p 0 (gls (fO z) z i) q [] nv [] ∧ ∀ k, wr.heap.size ≤ k → k < ((wr.alloc (.cells #[.int .i64 x, .int .i64 0, .int .i64 0] 28)).alloc (.cells #[.int .i64 x, .int .i64 0, .int .i64 (i : Int), .int .i64 0, .int .i64 0, .int .i64 0] 30)).heap.size → w'.heap[k]? = ((wr.alloc (.cells #[.int .i64 x, .int .i64 0, .int .i64 0] 28)).alloc (.cells #[.int .i64 x, .int .i64 0, .int .i64 (i : Int), .int .i64 0, .int .i64 0, .int .i64 0] 30)).heap[k]?) := by
        have h1 := Pg.hold_new kpG HN.out (Below.on (al wr (.cells #[.int .i64 x, .int .i64 0, .int .i64 0] 28)) (al _ (.cells #[.int .i64 x, .int .i64 0, .int .i64 (i : Int), .int .i64 0, .int .i64 0, .int .i64 0] 30))) (gh (fO z) z i)
        have h2 := gls_hold (f := fO z) (z := z) (n := i) (by rw [hx]; exact x0) (by omega)
        rw [h2.1, h2.2] at h1
        have e1 : kv (gh (fO z) z i).1 = .agg #[.int .i64 x, .int .i64 0, .int .i64 0] := by rw [← hx]; rfl
        have e2 : mv (gh (fO z) z i).2 = .agg #[.int .i64 x, .int .i64 0, .int .i64 (i : Int), .int .i64 0, .int .i64 0, .int .i64 0] := by rw [← hx]; rfl
        rw [e1, e2] at h1
        exact h1
      have HDD : Hid (∀ W : World, (∀ k, wr.heap.size ≤ k → k < ((wr.alloc (.cells #[.int .i64 x, .int .i64 0, .int .i64 0] 28)).alloc (.cells #[.int .i64 x, .int .i64 0, .int .i64 (i : Int), .int .i64 0, .int .i64 0, .int .i64 0] 30)).heap.size → W.heap[k]? = ((wr.alloc (.cells #[.int .i64 x, .int .i64 0, .int .i64 0] 28)).alloc (.cells #[.int .i64 x, .int .i64 0, .int .i64 (i : Int), .int .i64 0, .int .i64 0, .int .i64 0] 30)).heap[k]?) → W.heap[wr.heap.size]? = some (.cells #[.int .i64 x, .int .i64 0, .int .i64 0] 28) ∧ W.heap[wr.heap.size + 1]? = some (.cells #[.int .i64 x, .int .i64 0, .int .i64 (i : Int), .int .i64 0, .int .i64 0, .int .i64 0] 30)) := fun W hW => by
        refine ⟨(hW _ (Nat.le_refl _) (by first | (simp; done) | (simp; omega))).trans (((al (wr.alloc (.cells #[.int .i64 x, .int .i64 0, .int .i64 0] 28)) (.cells #[.int .i64 x, .int .i64 0, .int .i64 (i : Int), .int .i64 0, .int .i64 0, .int .i64 0] 30)).block _ (by simp)).trans (newB _ _)), (hW _ (by omega) (by first | (simp; done) | (simp; omega))).trans ?_⟩
        have h1 := newB (wr.alloc (.cells #[.int .i64 x, .int .i64 0, .int .i64 0] 28)) (.cells #[.int .i64 x, .int .i64 0, .int .i64 (i : Int), .int .i64 0, .int .i64 0, .int .i64 0] 30)
        simpa using h1
      clear hcs hx
      go_wp2_with (first
        | (go_at_call 11; refine (Hid.out HOX (Pg.flip (Hid.out H3))).mono ?_; rintro e w4 ⟨rfl, h4⟩; have H4 : Hid (Pg GQ GQ w w4 0 (gls (fO z) z (i + 1)) q 0 (gls (fO z) z (i + 1)) p [] nv []) := h4; clear h4)
        | (go_at_call 11; refine (Hid.out HFI).mono ?_; rintro e w3 ⟨rfl, h3, hk3⟩; have H3 : Hid (Pg GQ GQ w w3 0 (gls (fO z) z (i + 1)) p 0 (gls (fO z) z i) q [] nv []) := h3; obtain ⟨g1, g2⟩ := Hid.out HDD w3 hk3; have d0 := cellB g1 0; have d1 := cellB g1 1; have d2 := cellB g1 2; have f0 := cellB g2 0; have f1 := cellB g2 1; have f2 := cellB g2 2; have f3 := cellB g2 3; have f4 := cellB g2 4; have f5 := cellB g2 5; simp only [List.getElem?_toArray, List.getElem?_cons_zero, List.getElem?_cons_succ] at d0 d1 d2 f0 f1 f2 f3 f4 f5; clear h3 hk3 g1 g2 HFI))
      go_roundw
      case rel => exact ⟨i + 1, by go_num, by omega, H4.out.flip⟩
      case measure => simp [intOf]; omega
    · obtain rfl : i = zl := by omega
      obtain ⟨L, hL⟩ : ∃ L, gls (fO z) z i = L := ⟨_, rfl⟩
      rw [hL] at HN
      obtain ⟨hg, hR⟩ := open_parts L (m := min a b) (n := max a b) (by omega)
      obtain ⟨R1, hR1⟩ : ∃ R1, L.filter (fun x => !low (min a b) x) = R1 := ⟨_, rfl⟩
      rw [hR1] at hg hR
      obtain ⟨X1, hX1⟩ : ∃ X1, openG (min a b) L = X1 := ⟨_, rfl⟩
      obtain ⟨X2, hX2⟩ : ∃ X2, openG (max a b) R1 = X2 := ⟨_, rfl⟩
      obtain ⟨X3, hX3⟩ : ∃ X3, openG (max a b) L = X3 := ⟨_, rfl⟩
      obtain ⟨R, hRR⟩ : ∃ R, L.filter (fun x => !low (max a b) x) = R := ⟨_, rfl⟩
      rw [hX1, hX2, hX3] at hg
      rw [hRR] at hR
      have hlen : L.length ≤ 200 := by rw [← hL, gls_len]; exact hz2
      have h3l : X3.length ≤ 256 := by
        rw [← hX3]
        unfold openG
        rw [msgs_len, Stb.isort_len]
        have : (L.filter (low (max a b))).length ≤ L.length := List.length_filter_le _ _
        omega
      have hRl : R.length ≤ 256 := by
        rw [← hRR]
        have : (L.filter (fun x => !low (max a b) x)).length ≤ L.length := List.length_filter_le _ _
        omega
      have e1 : max 0 (min a b) = min a b := by omega
      have e2 : max (min a b) (max a b) = max a b := by omega
      have e3 : max 0 (max a b) = max a b := by omega
      have S1 : Calls Try.prog 16 #[.pointer (some ⟨p, 0, none⟩), .int .i64 (min a b)] wr fun e w' => ∃ aa c, e = .returned (.slice aa X1.length c) ∧ Pg GQ GQ w w' (min a b) R1 p 0 L q [(aa, X1)] nv [] := by
        have h1 := HN.out.open kpG (min a b)
        rw [hX1, hR1, e1] at h1
        exact h1
      have S2 : Hid (∀ {W : World} {rs : Rws}, Pg GQ GQ w W (min a b) R1 p 0 L q rs nv [] → Calls Try.prog 16 #[.pointer (some ⟨p, 0, none⟩), .int .i64 (max a b)] W fun e w' => ∃ aa c, e = .returned (.slice aa X2.length c) ∧ Pg GQ GQ w w' (max a b) R p 0 L q ((aa, X2) :: rs) nv []) := fun h => by
        have h1 := h.open kpG (max a b)
        rw [hX2, hR, e2] at h1
        exact h1
      have S3 : Hid (∀ {W : World} {rs : Rws} {vl : Value}, Pg GQ GQ w W (max a b) R p 0 L q rs vl X3 → Calls Try.prog 16 #[.pointer (some ⟨q, 0, none⟩), .int .i64 (max a b)] W fun e w' => ∃ aa c, e = .returned (.slice aa X3.length c) ∧ Pg GQ GQ w w' (max a b) R q (max a b) R p ((aa, X3) :: rs) vl X3) := fun h => by
        have h1 := h.flip.open kpG (max a b)
        rw [hX3, hRR, e3] at h1
        exact h1
      have S4 : Hid (∀ {W : World} {rs : Rws} {vl : Value} {p q : Nat}, Pg GQ GQ w W (max a b) R p (max a b) R q rs vl X3 → Calls Try.prog 21 #[.pointer (some ⟨p, 0, none⟩)] W fun e w' => ∃ aa c, e = .returned (.slice aa R.length c) ∧ Pg GQ GQ w w' (max a b) R p (max a b) R q ((aa, msgs R) :: rs) vl X3) := fun h => h.held kpG
      have S5 : Hid (∀ {W : World} {rs : Rws} {vl : Value} {p q : Nat}, Pg GQ GQ w W (max a b) R p (max a b) R q rs vl X3 → Calls Try.prog 20 #[.pointer (some ⟨p, 0, none⟩)] W fun e w' => e = .returned (.int .i64 (max a b)) ∧ W = w') := fun h => h.floor
      have S6 : Hid (∀ {W : World} {rs : Rws} {vl : Value}, Pg GQ GQ w W (max a b) R p (max a b) R q rs vl X3 → Calls Try.prog 11 #[.pointer (some ⟨p, 0, none⟩), .agg #[.int .i64 (-1), .int .i64 0, .int .i64 0], .agg #[.int .i64 0, .int .i64 0, .int .i64 0, .int .i64 0, .int .i64 0, .int .i64 0]] W fun e w' => e = .returned (.int .i64 110) ∧ Below w.heap.size w w') := fun {W rs vl} h => by
        have h1 := h.hold kpG ((-1, 0, 0), ((0, 0, 0), 0, 0, 0))
        rw [(hold_early (fl := max a b) (L := R) (x := ((-1, 0, 0), ((0, 0, 0), 0, 0, 0))) (show (-1 : Int) < max a b by omega)).1] at h1
        exact h1.mono fun e w' ⟨he, hg⟩ => ⟨he, hg.bel⟩
      have HG : Hid (X1 ++ X2 = X3) := hg.symm
      have HG1 : Hid (([] : List M) ++ X1 = X1) := rfl
      have h12 : X1.length ≤ 256 ∧ X2.length ≤ 256 := by
        have := congrArg List.length hg
        rw [List.length_append] at this
        omega
      obtain ⟨h1l, h2l⟩ := h12
      have HLN : Hid ((msgs R).length = R.length) := msgs_len R
      obtain ⟨rn, hrn⟩ : ∃ rn, R.length = rn := ⟨_, rfl⟩
      rw [hrn] at S4 HLN hRl
      clear hL hg hR hR1 hX1 hX2 hX3 hRR hlen e1 e2 e3 hrn
      go_wp2_with (first
        | (go_at_call 16; refine (Hid.out S3 (Hid.out H6)).mono ?_; rintro e w7 ⟨aw, cw, rfl, h7⟩; have H7 : Hid (Pg GQ GQ w w7 (max a b) R q (max a b) R p [(aw, X3), (ay, X2), (ax, X1)] (.slice a6 X3.length c6) X3) := h7; clear h7)
        | (go_at_call 16; refine (Hid.out S2 (Hid.out H3)).mono ?_; rintro e w4 ⟨ay, cy, rfl, h4⟩; have H4 : Hid (Pg GQ GQ w w4 (max a b) R p 0 L q [(ay, X2), (ax, X1)] nv []) := h4; have HM4 : Hid (Pg GQ GQ w (w4.alloc (.cells #[] 30)) (max a b) R p 0 L q [(ay, X2), (ax, X1)] (.slice (some ⟨w4.heap.size, 0, none⟩) 0 0) []) := Pg.made kpG kpG h4; clear h4)
        | (go_at_call 16; refine S1.mono ?_; rintro e w3 ⟨ax, cx, rfl, h3⟩; have H3 : Hid (Pg GQ GQ w w3 (min a b) R1 p 0 L q [(ax, X1)] nv []) := h3; clear h3 S1)
        | (at_builtin; refine wpList_append_R tyM (fun _ => True) _ rfl (.tmp 68) (.tmp 69) rfl (.slice a5 X1.length c5) ay cy X1 X2 rfl rfl (Pg.own (Hid.out H5)) (Pg.row (Hid.out H5) (a := ay) (ms := X2) (by simp)) (by omega) (by omega) X3 HG.out ?_; intro a6 c6 w6 ho hm; have H6 : Hid (Pg GQ GQ w w6 (max a b) R p 0 L q [(ay, X2), (ax, X1)] (.slice a6 X3.length c6) X3) := Pg.app kpG kpG (Hid.out H5) ho hm; clear ho hm)
        | (at_builtin; refine wpList_append_R tyM (fun _ => True) _ rfl (.tmp 65) (.tmp 66) rfl (.slice (some ⟨w4.heap.size, 0, none⟩) 0 0) ax cx [] X1 rfl rfl (Pg.own (Hid.out HM4)) (Pg.row (Hid.out HM4) (a := ax) (ms := X1) (by simp)) (by simp) (by omega) X1 HG1.out ?_; intro a5 c5 w5 ho hm; have H5 : Hid (Pg GQ GQ w w5 (max a b) R p 0 L q [(ay, X2), (ax, X1)] (.slice a5 X1.length c5) X1) := Pg.app kpG kpG (Hid.out HM4) ho hm; clear ho hm)
        | (go_at_call 13; refine (same_eq (n := rn) (Pg.row (Hid.out H10) (a := ag) (ms := msgs R) (by simp)) (Pg.row (Hid.out H10) (a := ah) (ms := msgs R) (by simp)) (Hid.out HLN) (by omega)).mono ?_; rintro e w11 ⟨rfl, h11⟩; have H11 : Hid (Pg GQ GQ w w11 (max a b) R q (max a b) R p [(ah, msgs R), (ag, msgs R), (aw, X3), (ay, X2), (ax, X1)] (.slice a6 X3.length c6) X3) := Pg.on kpG kpG (Hid.out H10) h11; clear h11)
        | (go_at_call 13; refine (same_eq (n := X3.length) (RdN.wide ((Pg.own (Hid.out H7)).look.2) (fun _ _ _ => trivial)) (Pg.row (Hid.out H7) (a := aw) (ms := X3) (by simp)) rfl (by omega)).mono ?_; rintro e w8 ⟨rfl, h8⟩; have H8 : Hid (Pg GQ GQ w w8 (max a b) R q (max a b) R p [(aw, X3), (ay, X2), (ax, X1)] (.slice a6 X3.length c6) X3) := Pg.on kpG kpG (Hid.out H7) h8; clear h8)
        | (go_at_call 21; refine (Hid.out S4 (Pg.flip (Hid.out H9))).mono ?_; rintro e w10 ⟨ah, ch, rfl, h10⟩; have H10 : Hid (Pg GQ GQ w w10 (max a b) R q (max a b) R p [(ah, msgs R), (ag, msgs R), (aw, X3), (ay, X2), (ax, X1)] (.slice a6 X3.length c6) X3) := h10; clear h10)
        | (go_at_call 21; refine (Hid.out S4 (Pg.flip (Hid.out H8))).mono ?_; rintro e w9 ⟨ag, cg, rfl, h9⟩; have H9 : Hid (Pg GQ GQ w w9 (max a b) R p (max a b) R q [(ag, msgs R), (aw, X3), (ay, X2), (ax, X1)] (.slice a6 X3.length c6) X3) := h9; clear h9)
        | (go_at_call 20; refine (Hid.out S5 (Hid.out H11)).mono ?_; rintro e w12 ⟨rfl, rfl⟩)
        | (go_at_call 20; refine (Hid.out S5 (Pg.flip (Hid.out H11))).mono ?_; rintro e w12 ⟨rfl, rfl⟩)
        | (go_at_call 11; refine (Hid.out S6 (Pg.flip (Hid.out H11))).mono ?_; rintro e w13 ⟨rfl, h13⟩; have HB13 : Hid (Below w.heap.size w w13) := h13; clear h13))
      go_ret
      exact ⟨rfl, HB13.out⟩
end Go.Proofs.Ytpkemgpnpadkfaa
