/- Proved: the walk of PastParts. -/
import Derived.Test.YtgifanioeeacdaaTwo
import Derived.Test.YtgifanioeeacdaaTim
import Derived.BigQuiet
import Derived.Deep.QuietTactic
namespace Go.Proofs.Ytgifanioeeacdaa
open Go.RowKit Go.Shelf Go.Sort
set_option linter.unusedVariables false

/-- What is told of three rows: their states. -/
theorem row_st {W : World} {a : Option Addr} {l : List E} {L : List P} (hr : RdN cE (fun _ => True) W a l) (el : l.map E.p = L) {i : Nat} (hi : i < L.length) {x : P} (hx : nthP L i = x) :
    ∃ b off, a = some ⟨b, off, none⟩ ∧ b < W.heap.size ∧ W.cell? ⟨b, off + i * 10 + 8, none⟩ = some (.int .i64 x.st) := by
  have hl : i < l.length := by rw [← el] at hi; simpa using hi
  obtain ⟨b, off, e, hb, _, _, _, _, _, _, _, _, _, h8, _⟩ := hr.entry hl rfl
  refine ⟨b, off, e, hb, ?_⟩
  rw [← nthP_map, el, hx] at h8
  exact h8
set_option maxRecDepth 100000 in
set_option maxHeartbeats 4000000 in
theorem parts_walk (w : World) (sa : Option Addr) (sc : Nat) (z : List Int) (a b : Int) (hz : InN .u8 255 w sa z) (hn : z.length ≤ maxLen) (ha : 0 ≤ a ∧ a ≤ 65535) (hb : 0 ≤ b ∧ b ≤ 65535) :
    Calls Try.prog 6 #[.slice sa z.length sc, .int .u16 a, .int .u16 b] w fun e w' => e = .returned (.bool true) ∧ Below w.heap.size w w' := by
  by_cases hlong : 60 < z.length
  · have hl' : (60 : Int) < (z.length : Int) := by omega
    unfold maxLen at hn
    clear hz
    go_enter Try.func6, Try.ntmps6
    go_wp2
    go_ret
    exact ⟨rfl, Below.refl _ _⟩
  have hz2 : z.length ≤ 60 := by omega
  have hl' : ¬ (60 : Int) < (z.length : Int) := by omega
  obtain ⟨ha0, ha2⟩ := ha
  obtain ⟨hb0, hb2⟩ := hb
  obtain ⟨p, hp⟩ : ∃ p, w.heap.size = p := ⟨_, rfl⟩
  have NW := One.new w
  rw [hp] at NW
  have HZ : Hid (InN .u8 255 w sa z) := hz
  have HZ1 : Hid (∀ i, i < z.length → 0 ≤ nthI z i ∧ nthI z i ≤ 255) := hz.1
  have PU : Hid (∀ {W : World} {p q : Nat} {rs : RowsE} {i : Nat} {L2 : List P}, i < z.length → Tw w W 0 (pls (fun _ => 0) z i) p 0 L2 q rs → Calls Try.prog 11 #[.pointer (some ⟨p, 0, none⟩), .agg #[.int .i64 (tsum z (i + 1)), .int .i64 0, .int .i64 (i : Int), .int .i64 0, .int .i64 0, .int .i64 0, .int .i64 0, .int .i64 0, .int .i64 (i : Int), .slice none 0 0]] W fun e w' => e = .returned (.int .i64 0) ∧ Tw w w' 0 (pls (fun _ => 0) z (i + 1)) p 0 L2 q rs) := fun {W p q rs i L2} hi h => by
    have h1 := h.push (N := fun _ => True) (x := ⟨pe (fun _ => 0) z i, none, 0⟩) ⟨RdN.nil _ _ _ _, by simp [pe, mkP]⟩
    have h2 := pls_push (f := fun _ => 0) hz.1 hz2 hi
    dsimp only at h1
    rw [h2.1, h2.2] at h1
    exact h1
  clear hz hn hlong hp
  go_enter Try.func6, Try.ntmps6
  go_wp2_with (first | (go_at_call 9; refine (Tw.new (Hid.out H1)).mono ?_; rintro e w2 ⟨rfl, h2⟩; have H2 : Hid (Tw w w2 0 [] p 0 [] w1.heap.size []) := h2; clear h2) | (go_at_call 9; refine NW.mono ?_; rintro e w1 ⟨rfl, h1⟩; have H1 : Hid (One w w1 0 [] p) := h1; clear h1 NW))
  obtain ⟨q, hq⟩ : ∃ q, w1.heap.size = q := ⟨_, rfl⟩
  rw [hq] at H2 ⊢
  clear hq H1
  go_loopw [9, 10] (fun s9 s10 wr => ∃ i : Nat, s10 = .int .i64 i ∧ i ≤ z.length ∧ s9 = .int .i64 (tsum z i) ∧ Hid (Tw w wr 0 (pls (fun _ => 0) z i) p 0 (pls (fun _ => 0) z i) q [])) (fun _ s10 _ => z.length - (intOf s10).toNat)
  case atStart => exact ⟨0, rfl, Nat.zero_le _, rfl, H2.out⟩
  case round =>
    obtain ⟨i, rfl, hi, rfl, HN⟩ := hrel
    by_cases hlt : i < z.length
    · have hlt' : (i : Int) < (z.length : Int) := by omega
      obtain ⟨x0, x1, xb, off, rfl, hxb, hcs⟩ := InN.cell HZ.out hlt
      have cx := hcs _ HN.out.bel
      have hbd := tsum_bd HZ1.out hi
      obtain ⟨T, hT⟩ : ∃ T, tsum z i = T := ⟨_, rfl⟩
      obtain ⟨x, hx⟩ : ∃ x, nthI z i = x := ⟨_, rfl⟩
      have hT1 : tsum z (i + 1) = T + x := by rw [← hT, ← hx]; rfl
      rw [hx] at x0 x1 cx
      rw [hT] at hbd ⊢
      have PU2 : Hid (∀ {W : World} {p q : Nat} {rs : RowsE} {L2 : List P}, Tw w W 0 (pls (fun _ => 0) z i) p 0 L2 q rs → Calls Try.prog 11 #[.pointer (some ⟨p, 0, none⟩), .agg #[.int .i64 (T + x), .int .i64 0, .int .i64 (i : Int), .int .i64 0, .int .i64 0, .int .i64 0, .int .i64 0, .int .i64 0, .int .i64 (i : Int), .slice none 0 0]] W fun e w' => e = .returned (.int .i64 0) ∧ Tw w w' 0 (pls (fun _ => 0) z (i + 1)) p 0 L2 q rs) := fun h => by
        rw [← hT1]
        exact PU.out hlt h
      have HBX : Hid (Tw w (wr.alloc (.cells #[.int .i64 (T + x), .int .i64 0, .int .i64 (i : Int), .int .i64 0, .int .i64 0, .int .i64 0, .int .i64 0, .int .i64 0, .int .i64 (i : Int), .slice none 0 0] 34)) 0 (pls (fun _ => 0) z i) p 0 (pls (fun _ => 0) z i) q [(some ⟨wr.heap.size, 0, none⟩, [⟨mkP (T + x) 0 i 0 i, none, 0⟩])]) := HN.out.box ⟨mkP (T + x) 0 i 0 i, none, 0⟩ _
      have HT1 : Hid (tsum z (i + 1) = T + x) := hT1
      clear hcs hT hT1 hx
      go_wp2_with (first
        | (go_at_call 11; refine (Hid.out PU2 (Tw.flip (Hid.out H3))).mono ?_; rintro e w4 ⟨rfl, h4⟩; have H4 : Hid (Tw w w4 0 (pls (fun _ => 0) z (i + 1)) q 0 (pls (fun _ => 0) z (i + 1)) p [(some ⟨wr.heap.size, 0, none⟩, [⟨mkP (T + x) 0 i 0 i, none, 0⟩])]) := h4; clear h4)
        | (go_at_call 11; refine (Hid.out PU2 (Hid.out HBX)).mono ?_; rintro e w3 ⟨rfl, h3⟩; have H3 : Hid (Tw w w3 0 (pls (fun _ => 0) z (i + 1)) p 0 (pls (fun _ => 0) z i) q [(some ⟨wr.heap.size, 0, none⟩, [⟨mkP (T + x) 0 i 0 i, none, 0⟩])]) := h3; obtain ⟨xb', xo', e', _, _, d0, d1, d2, d3, d4, d5, d6, d7, d8, d9⟩ := (Tw.row h3 (List.mem_singleton.2 rfl)).entry (i := 0) (by simp) rfl; simp only [Option.some.injEq, Addr.mk.injEq, and_true] at e'; obtain ⟨e1, e2⟩ := e'; subst e1 e2; simp only [nth, mkP, List.getD_cons_zero, Nat.zero_mul, Nat.add_zero, Nat.zero_add, List.length_nil] at d0 d1 d2 d3 d4 d5 d6 d7 d8 d9; clear h3))
      go_roundw
      case rel => exact ⟨i + 1, by go_num, by omega, by rw [HT1.out], H4.out.flip.less (fun r hr => by cases hr)⟩
      case measure => simp [intOf]; omega
    · obtain rfl : i = z.length := by omega
      have mixed : Try.prog.follows .mixedOrders = true := by kernel_rfl
      obtain ⟨L, hL⟩ : ∃ L, pls (fun _ => 0) z z.length = L := ⟨_, rfl⟩
      have hsrt : SrtP L := by rw [← hL]; exact pls_srt HZ1.out (Nat.le_refl _)
      have hlen : L.length ≤ 60 := by rw [← hL, pls_len]; exact hz2
      obtain ⟨hg, hR⟩ := gon_parts hsrt (m := min a b) (M := max a b) (by omega)
      have hnth : ∀ i, i < (gonT (max a b) L).length → nthP (gonT (max a b) L) i = pe (fun _ => 0) z i := fun i hi => by rw [← hL] at hi ⊢; exact gon_nth HZ1.out hi
      have S1 := HN.out.settle (min a b)
      rw [hL] at S1
      obtain ⟨R1, hR1⟩ : ∃ R1, L.filter (fun x => !low (min a b) x) = R1 := ⟨_, rfl⟩
      rw [hR1] at S1 hg hR
      obtain ⟨G1, hG1⟩ : ∃ G1, gonT (min a b) L = G1 := ⟨_, rfl⟩
      obtain ⟨G2, hG2⟩ : ∃ G2, gonT (max a b) R1 = G2 := ⟨_, rfl⟩
      obtain ⟨G3, hG3⟩ : ∃ G3, gonT (max a b) L = G3 := ⟨_, rfl⟩
      obtain ⟨R, hRR⟩ : ∃ R, L.filter (fun x => !low (max a b) x) = R := ⟨_, rfl⟩
      rw [hG1] at S1 hg
      rw [hG3] at hg hnth
      rw [hG2] at hg
      rw [hRR] at hR
      have e1 : max 0 (min a b) = min a b := by omega
      have e2 : max (min a b) (max a b) = max a b := by omega
      have e3 : max 0 (max a b) = max a b := by omega
      rw [e1] at S1
      have S2 : Hid (∀ {W : World} {rs : RowsE}, Tw w W (min a b) R1 p 0 L q rs → Calls Try.prog 16 #[.pointer (some ⟨p, 0, none⟩), .int .i64 (max a b)] W fun e w' => ∃ aa c l, e = .returned (.slice aa G2.length c) ∧ l.map E.p = G2 ∧ Tw w w' (max a b) R p 0 L q ((aa, l) :: rs)) := fun h => by
        have h1 := h.settle (max a b)
        rw [hG2, hR, e2] at h1
        exact h1
      have S3 : Hid (∀ {W : World} {rs : RowsE}, Tw w W (max a b) R p 0 L q rs → Calls Try.prog 16 #[.pointer (some ⟨q, 0, none⟩), .int .i64 (max a b)] W fun e w' => ∃ aa c l, e = .returned (.slice aa G3.length c) ∧ l.map E.p = G3 ∧ Tw w w' (max a b) R q (max a b) R p ((aa, l) :: rs)) := fun h => by
        have h1 := h.flip.settle (max a b)
        rw [hG3, hRR, e3] at h1
        exact h1
      obtain ⟨n1, hn1⟩ : ∃ n1, G1.length = n1 := ⟨_, rfl⟩
      obtain ⟨n2, hn2⟩ : ∃ n2, G2.length = n2 := ⟨_, rfl⟩
      obtain ⟨n3, hn3⟩ : ∃ n3, G3.length = n3 := ⟨_, rfl⟩
      have h123 : n1 + n2 = n3 := by rw [← hn1, ← hn2, ← hn3, hg, List.length_append]
      have h60 : n3 ≤ 60 := by
        rw [← hn3, ← hG3]
        have : (gonT (max a b) L).length ≤ L.length := List.length_filter_le _ _
        omega
      have hc : ((n1 : Int) + (n2 : Int) != (n3 : Int)) = false := by simp; omega
      have S1' : Calls Try.prog 16 #[.pointer (some ⟨p, 0, none⟩), .int .i64 (min a b)] wr fun e w' => ∃ aa c l, e = .returned (.slice aa n1 c) ∧ l.map E.p = G1 ∧ Tw w w' (min a b) R1 p 0 L q [(aa, l)] := by rw [← hn1]; exact S1
      rw [hn2] at S2
      rw [hn3] at S3
      have X1 : Hid (∀ i, i < n1 → ∃ y, nthP G1 i = y ∧ y.st = (i : Int)) := fun i hi => ⟨_, rfl, by
        have e : nthP G3 i = nthP G1 i := by rw [hg]; unfold nthP; simp [List.getElem?_append_left (show i < G1.length by omega)]
        rw [← e, hnth i (by omega)]; rfl⟩
      have X2 : Hid (∀ j, j < n2 → ∃ y, nthP G2 j = y ∧ y.st = ((n1 + j : Nat) : Int)) := fun j hj => ⟨_, rfl, by
        have e : nthP G3 (n1 + j) = nthP G2 j := by rw [hg, ← hn1]; unfold nthP; simp [List.getElem?_append_right]
        rw [← e, hnth (n1 + j) (by omega)]; rfl⟩
      have X3 : Hid (∀ i, i < n3 → ∃ y, nthP G3 i = y ∧ y.st = (i : Int)) := fun i hi => ⟨_, rfl, by rw [hnth i (by omega)]; rfl⟩
      have HE : Hid (G1.length = n1 ∧ G2.length = n2 ∧ G3.length = n3) := ⟨hn1, hn2, hn3⟩
      clear hn1 hn2 hn3 hg hR hG1 hG2 hG3 hRR hR1 hL hsrt hlen hnth S1 e1 e2 e3
      go_wp2_with (first
        | (go_at_call 16; refine (Hid.out S3 (Hid.out H4)).mono ?_; rintro e w5 ⟨az, cz, l3, rfl, m3, h5⟩; have H5 : Hid (Tw w w5 (max a b) R q (max a b) R p [(az, l3), (ay, l2), (ax, l1)]) := h5; have M3 : Hid (l3.map E.p = G3) := m3; clear h5 m3)
        | (go_at_call 16; refine (Hid.out S2 (Hid.out H3)).mono ?_; rintro e w4 ⟨ay, cy, l2, rfl, m2, h4⟩; have H4 : Hid (Tw w w4 (max a b) R p 0 L q [(ay, l2), (ax, l1)]) := h4; have M2 : Hid (l2.map E.p = G2) := m2; clear h4 m2)
        | (go_at_call 16; refine S1'.mono ?_; rintro e w3 ⟨ax, cx, l1, rfl, m1, h3⟩; have H3 : Hid (Tw w w3 (min a b) R1 p 0 L q [(ax, l1)]) := h3; have M1 : Hid (l1.map E.p = G1) := m1; clear h3 m1 S1')
        | (go_at_call 23; refine (Tw.len (Tw.flip (Hid.out H5))).mono ?_; rintro e w6 ⟨rfl, rfl⟩)
        | (go_at_call 23; refine (Tw.len (Hid.out H5)).mono ?_; rintro e w6 ⟨rfl, rfl⟩)
        | (go_at_call 24; refine (Tw.floor (Tw.flip (Hid.out H5))).mono ?_; rintro e w6 ⟨rfl, rfl⟩)
        | (go_at_call 24; refine (Tw.floor (Hid.out H5)).mono ?_; rintro e w6 ⟨rfl, rfl⟩))
      go_loopw [15] (fun s15 wr => ∃ i : Nat, s15 = .int .i64 i ∧ i ≤ n3 ∧ Hid (Tw w wr (max a b) R q (max a b) R p [(az, l3), (ay, l2), (ax, l1)])) (fun s15 _ => n3 - (intOf s15).toNat)
      case atStart => exact ⟨0, rfl, Nat.zero_le _, H5.out⟩
      case round =>
        obtain ⟨i, rfl, hi, H6⟩ := hrel
        by_cases hlt : i < n3
        · have hlt' : (i : Int) < (n3 : Int) := by omega
          obtain ⟨y3, hy3, hs3⟩ := X3.out i hlt
          obtain ⟨bz, oz, rfl, lbz, cz8⟩ := row_st (H6.out.row (a := az) (l := l3) (by simp)) M3.out (i := i) (by rw [HE.out.2.2]; exact hlt) hy3
          rw [hs3] at cz8
          by_cases h1 : i < n1
          · have h1' : (i : Int) < (n1 : Int) := by omega
            have h1'' : ¬ (n1 : Int) ≤ (i : Int) := by omega
            have d1 : decide ((i : Int) < (n1 : Int)) = true := by simpa using h1
            have d1n : decide (i < n1) = true := by simpa using h1
            have d2 : decide ((n1 : Int) ≤ (i : Int)) = false := by simpa using h1
            have d2n : decide (n1 ≤ i) = false := by simp; omega
            obtain ⟨y1, hy1, hs1⟩ := X1.out i h1
            obtain ⟨bx, ox, rfl, lbx, cx8⟩ := row_st (H6.out.row (a := ax) (l := l1) (by simp)) M1.out (i := i) (by rw [HE.out.1]; exact h1) hy1
            rw [hs1] at cx8
            have hce : ((i : Int) != (i : Int)) = false := by simp
            clear hy1 hy3 hs1 hs3
            go_wp2_with fail
            go_quiet (fail)
            go_wp2
            go_roundw
            case rel => exact ⟨i + 1, by go_num, by omega, H6.out.on ⟨rfl, rfl, rfl, Nat.le_refl _, fun _ _ => rfl⟩⟩
            case measure => simp [intOf]; omega
          · obtain ⟨j, hj⟩ : ∃ j, i = n1 + j := ⟨i - n1, by omega⟩
            have h1' : ¬ (i : Int) < (n1 : Int) := by omega
            have h1'' : (n1 : Int) ≤ (i : Int) := by omega
            have h1n : n1 ≤ i := by omega
            have d1 : decide ((i : Int) < (n1 : Int)) = false := by simpa using h1
            have d1n : decide (i < n1) = false := by simpa using h1
            have d2 : decide ((n1 : Int) ≤ (i : Int)) = true := by simp; omega
            have d2n : decide (n1 ≤ i) = true := by simp; omega
            have hj2 : j < n2 := by omega
            obtain ⟨y2, hy2, hs2⟩ := X2.out j hj2
            obtain ⟨by', oy, rfl, lby, cy8⟩ := row_st (H6.out.row (a := ay) (l := l2) (by simp)) M2.out (i := j) (by rw [HE.out.2.1]; exact hj2) hy2
            rw [hs2, ← hj] at cy8
            have hce : ((i : Int) != (i : Int)) = false := by simp
            have e1 : (i : Int) - (n1 : Int) = (j : Int) := by omega
            have e2 : IntKind.i64.wrap ((i : Int) - (n1 : Int)) = (j : Int) := by rw [e1]; exact wrapN j (by omega)
            have e3 : IntKind.i64.wrap (j : Int) = (j : Int) := wrapN j (by omega)
            have e4 : (0 : Int) ≤ (j : Int) := by omega
            have e5 : (j : Int) < (n2 : Int) := by omega
            clear hy2 hy3 hs2 hs3 hj
            go_wp2_with fail
            go_quiet (fail)
            go_wp2
            go_roundw
            case rel => exact ⟨i + 1, by go_num, by omega, H6.out.on ⟨rfl, rfl, rfl, Nat.le_refl _, fun _ _ => rfl⟩⟩
            case measure => simp [intOf]; omega
        · obtain rfl : i = n3 := by omega
          have PE : Calls Try.prog 11 #[.pointer (some ⟨p, 0, none⟩), .agg #[.int .i64 (-1), .int .i64 0, .int .i64 0, .int .i64 0, .int .i64 0, .int .i64 0, .int .i64 0, .int .i64 0, .int .i64 0, .slice none 0 0]] wr fun e w' => e = .returned (.int .i64 110) ∧ Below w.heap.size w w' := by
            have h1 := H6.out.flip.push (N := fun _ => True) (x := ⟨mkP (-1) 0 0 0 0, none, 0⟩) ⟨RdN.nil _ _ _ _, by simp [mkP]⟩
            have h2 := push_early (fl := max a b) (L := R) (e := mkP (-1) 0 0 0 0) (by show (-1 : Int) < max a b; omega)
            dsimp only at h1
            rw [h2.1] at h1
            exact h1.mono fun e w' ⟨he, ht⟩ => ⟨he, ht.bel⟩
          go_wp2_with (go_at_call 11; refine PE.mono ?_; rintro e w7 ⟨rfl, h7⟩)
          go_ret
          exact ⟨rfl, h7⟩
end Go.Proofs.Ytgifanioeeacdaa
