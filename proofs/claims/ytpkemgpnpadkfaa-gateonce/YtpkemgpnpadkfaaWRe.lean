/- Proved: the walk of GateRetracts. -/
import Derived.Test.YtpkemgpnpadkfaaStp
import Derived.Test.YtpkemgpnpadkfaaGro
import Derived.BigQuiet
import Derived.Deep.QuietTactic
namespace Go.Proofs.Ytpkemgpnpadkfaa
open Go.RowKit Go.Shelf Go.Sort
set_option linter.unusedVariables false

theorem hls_len (z : List St) (n : Nat) : (hls z n).length ≤ n := by
  induction n with
  | zero => exact Nat.le_refl _
  | succ n ih =>
    unfold hls
    split
    · unfold holdL
      split
      · simp; omega
      · omega
    · omega
/-- Messages whose keys are others. -/
def oth (k : K) (m : M) : Bool := !sameK m.1 k
theorem oth_msgs (k : K) (L : List H) : (msgs L).filter (oth k) = msgs (L.filter (fun x => !hasK k x)) := by
  unfold msgs
  rw [List.filter_map]
  rfl
theorem take_snocM {p : M → Bool} {l : List M} {i : Nat} {x : M} (hi : i < l.length) (hx : nth cM l i = x) : (l.take (i + 1)).filter p = if p x = true then (l.take i).filter p ++ [x] else (l.take i).filter p := by
  rw [List.take_add_one, List.filter_append, List.getElem?_eq_getElem hi]
  rw [nth_get hi] at hx
  rw [hx]
  cases h : p x <;> simp [h]
theorem parts_len (p : H → Bool) (L : List H) : (L.filter p).length + (L.filter (fun x => !p x)).length = L.length := by
  induction L with
  | nil => rfl
  | cons a r ih => cases h : p a <;> simp [h] <;> omega
theorem ret_again (k : K) (L : List H) : retN k (L.filter (fun x => !hasK k x)) = 0 ∧ retE k (L.filter (fun x => !hasK k x)) = 209 ∧ (L.filter (fun x => !hasK k x)).filter (fun x => !hasK k x) = L.filter (fun x => !hasK k x) := by
  have e : (L.filter (fun x => !hasK k x)).filter (hasK k) = [] := by
    rw [List.filter_filter, List.filter_eq_nil_iff]
    intro a _
    cases hasK k a <;> simp
  refine ⟨by unfold retN; rw [e]; rfl, by unfold retE; rw [e]; rfl, ?_⟩
  rw [List.filter_filter]
  simp
set_option maxRecDepth 100000 in
set_option maxHeartbeats 4000000 in
theorem retracts_walk (w : World) (sa : Option Addr) (sc : Nat) (z : List St) (k1 k2 k3 : Int) (hz : RdS w sa z) (hn : z.length ≤ maxLen) :
    Calls Try.prog 7 #[.slice sa z.length sc, .agg #[.int .i64 k1, .int .i64 k2, .int .i64 k3]] w fun e w' => e = .returned (.bool true) ∧ Below w.heap.size w w' := by
  have mixed : Try.prog.follows .mixedOrders = true := by kernel_rfl
  by_cases hlong : 200 < z.length
  · have hl' : (200 : Int) < (z.length : Int) := by omega
    unfold maxLen at hn
    clear hz
    go_enter Try.func7, Try.ntmps7
    go_wp2
    go_ret
    exact ⟨rfl, al _ _⟩
  have hz2 : z.length ≤ 200 := by omega
  have hl' : ¬ (200 : Int) < (z.length : Int) := by omega
  obtain ⟨w1, hw1⟩ : ∃ w1, w1 = w.alloc (.cells #[.int .i64 k1, .int .i64 k2, .int .i64 k3] 28) := ⟨_, rfl⟩
  obtain ⟨B, hB⟩ : ∃ B, w.heap.size = B := ⟨_, rfl⟩
  have hb1 : Below w.heap.size w w1 := by rw [hw1]; exact al _ _
  have B0 : w1.heap[B]? = some (.cells #[.int .i64 k1, .int .i64 k2, .int .i64 k3] 28) := by rw [hw1, ← hB]; exact newB _ _
  have lB : B < w1.heap.size := (Array.getElem?_eq_some_iff.1 B0).1
  have HKB : Hid (∀ W, Below w1.heap.size w1 W → W.cell? ⟨B, 0, none⟩ = some (.int .i64 k1) ∧ W.cell? ⟨B, 1, none⟩ = some (.int .i64 k2) ∧ W.cell? ⟨B, 2, none⟩ = some (.int .i64 k3)) := fun W hW => by
    have b0 := (hW.block B lB).trans B0
    exact ⟨cellB b0 0, cellB b0 1, cellB b0 2⟩
  have NW := Ga.new w1
  obtain ⟨b, hb⟩ : ∃ b, w1.heap.size = b := ⟨_, rfl⟩
  rw [hb] at NW
  have HZ : Hid (RdS w1 sa z) := hz.below hb1
  obtain ⟨zl, hzl⟩ : ∃ zl, z.length = zl := ⟨_, rfl⟩
  have HZL : Hid (z.length = zl) := hzl
  have HW : Hid (w1 = w.alloc (.cells #[.int .i64 k1, .int .i64 k2, .int .i64 k3] 28)) := hw1
  have HBB : Hid (w.heap.size = B) := hB
  have HB1 : Hid (Below w.heap.size w w1) := hb1
  rw [hzl] at hl' hz2 ⊢
  clear hz hn hlong hb hzl hw1 hB hb1 B0
  go_enter Try.func7, Try.ntmps7
  go_wp2_with fail
  rw [← HW.out]
  simp only [HBB.out]
  go_wp2_with (go_at_call 9; refine NW.mono ?_; rintro e w2 ⟨rfl, h1⟩; have H1 : Hid (Ga w1 w2 0 [] b []) := h1; clear h1 NW)
  go_loopw [6] (fun s6 wr => ∃ i : Nat, s6 = .int .i64 i ∧ i ≤ zl ∧ Hid (Ga w1 wr 0 (hls z i) b [])) (fun s6 _ => zl - (intOf s6).toNat)
  case atStart => exact ⟨0, rfl, Nat.zero_le _, H1.out⟩
  case round =>
    clear H1
    obtain ⟨i, rfl, hi, HN⟩ := hrel
    by_cases hlt : i < zl
    · have hlt' : (i : Int) < (zl : Int) := by omega
      obtain ⟨s, hs⟩ : ∃ s, nth cS z i = s := ⟨_, rfl⟩
      obtain ⟨sb, off, rfl, lsb, hcs⟩ := HZ.out.cells (show i < z.length by rw [HZL.out]; exact hlt) hs
      obtain ⟨kk, ⟨y1, y2, y3⟩, ⟨y4, y5, y6⟩, y7, y8, y9⟩ := s
      have HCS : Hid (∀ W, Below w1.heap.size w1 W → (W.cell? ⟨sb, off + i * 10 + 1, none⟩ = some (.int .i64 y1) ∧ W.cell? ⟨sb, off + i * 10 + 2, none⟩ = some (.int .i64 y2) ∧ W.cell? ⟨sb, off + i * 10 + 3, none⟩ = some (.int .i64 y3) ∧ W.cell? ⟨sb, off + i * 10 + 4, none⟩ = some (.int .i64 y4) ∧ W.cell? ⟨sb, off + i * 10 + 5, none⟩ = some (.int .i64 y5) ∧ W.cell? ⟨sb, off + i * 10 + 6, none⟩ = some (.int .i64 y6) ∧ W.cell? ⟨sb, off + i * 10 + 7, none⟩ = some (.int .i64 y7) ∧ W.cell? ⟨sb, off + i * 10 + 8, none⟩ = some (.int .i64 y8) ∧ W.cell? ⟨sb, off + i * 10 + 9, none⟩ = some (.int .i64 y9))) := fun W hW => (hcs W hW).2
      have c0 := (hcs wr HN.out.bel).1
      obtain ⟨d1, d2, d3, d4, d5, d6, d7, d8, d9⟩ := HCS.out wr HN.out.bel
      have lsw : sb < wr.heap.size := Nat.lt_of_lt_of_le lsb HN.out.bel.size
      dsimp only at c0
      by_cases hk : kk = 0
      · have hkb : (kk == 0) = true := by simp [hk]
        have e1 : hls z (i + 1) = holdL 0 (hls z i) ((y1, y2, y3), (y4, y5, y6), y7, y8, y9) := by
          show (if (nth cS z i).k = 0 then holdL 0 (hls z i) (nth cS z i).x else hls z i) = _
          rw [hs]
          exact if_pos hk
        have HOX : Hid (Calls Try.prog 11 #[.pointer (some ⟨b, 0, none⟩), .agg #[.int .i64 y1, .int .i64 y2, .int .i64 y3], .agg #[.int .i64 y4, .int .i64 y5, .int .i64 y6, .int .i64 y7, .int .i64 y8, .int .i64 y9]] wr.drew fun e w' => ∃ r : Int, e = .returned (.int .i64 r) ∧ Ga w1 w' 0 (hls z (i + 1)) b []) := ((HN.out.on (Below.refl _ wr).drew).hold ((y1, y2, y3), (y4, y5, y6), y7, y8, y9)).mono fun e w' ⟨he, hg⟩ => ⟨_, he, by rw [e1]; exact hg⟩
        clear hcs hs e1
        subst hk
        go_wp2_with fail
        go_region_held3 (fun w' => w'.cell? ⟨sb, off + i * 10 + 1, none⟩ = some (.int .i64 y1) ∧ w'.cell? ⟨sb, off + i * 10 + 2, none⟩ = some (.int .i64 y2) ∧ w'.cell? ⟨sb, off + i * 10 + 3, none⟩ = some (.int .i64 y3) ∧ w'.cell? ⟨sb, off + i * 10 + 4, none⟩ = some (.int .i64 y4) ∧ w'.cell? ⟨sb, off + i * 10 + 5, none⟩ = some (.int .i64 y5) ∧ w'.cell? ⟨sb, off + i * 10 + 6, none⟩ = some (.int .i64 y6) ∧ w'.cell? ⟨sb, off + i * 10 + 7, none⟩ = some (.int .i64 y7) ∧ w'.cell? ⟨sb, off + i * 10 + 8, none⟩ = some (.int .i64 y8) ∧ w'.cell? ⟨sb, off + i * 10 + 9, none⟩ = some (.int .i64 y9)) (first | (go_keep; done) | exact Hid.out KEEP) (first
          | (go_at_call 11; refine (Hid.out HOX).mono ?_; rintro e w2 ⟨r, rfl, h2⟩; have H2 : Hid (Ga w1 w2 0 (hls z (i + 1)) b []) := h2; have KEEP : Hid (w2.cell? ⟨sb, off + i * 10 + 1, none⟩ = some (.int .i64 y1) ∧ w2.cell? ⟨sb, off + i * 10 + 2, none⟩ = some (.int .i64 y2) ∧ w2.cell? ⟨sb, off + i * 10 + 3, none⟩ = some (.int .i64 y3) ∧ w2.cell? ⟨sb, off + i * 10 + 4, none⟩ = some (.int .i64 y4) ∧ w2.cell? ⟨sb, off + i * 10 + 5, none⟩ = some (.int .i64 y5) ∧ w2.cell? ⟨sb, off + i * 10 + 6, none⟩ = some (.int .i64 y6) ∧ w2.cell? ⟨sb, off + i * 10 + 7, none⟩ = some (.int .i64 y7) ∧ w2.cell? ⟨sb, off + i * 10 + 8, none⟩ = some (.int .i64 y8) ∧ w2.cell? ⟨sb, off + i * 10 + 9, none⟩ = some (.int .i64 y9)) := Hid.out HCS w2 h2.bel; clear h2 HOX))
        go_wp2
        go_roundw
        case rel => exact ⟨i + 1, by go_num, by omega, H2⟩
        case measure => simp [intOf]; omega
      · have hkb : (kk == 0) = false := by simp [hk]
        have e1 : hls z (i + 1) = hls z i := by
          show (if (nth cS z i).k = 0 then holdL 0 (hls z i) (nth cS z i).x else hls z i) = _
          rw [hs]
          exact if_neg hk
        have HN2 : Hid (Ga w1 wr 0 (hls z (i + 1)) b []) := by rw [e1]; exact HN.out
        clear hcs hs e1 HN
        go_wp2
        go_roundw
        case rel => exact ⟨i + 1, by go_num, by omega, HN2⟩
        case measure => simp [intOf]; omega
    · obtain rfl : i = zl := by omega
      have hLl : (hls z i).length ≤ 200 := Nat.le_trans (hls_len z i) hz2
      obtain ⟨L, hL⟩ : ∃ L, hls z i = L := ⟨_, rfl⟩
      rw [hL] at HN hLl
      obtain ⟨R, hR⟩ : ∃ R, L.filter (fun x => !hasK (k1, k2, k3) x) = R := ⟨_, rfl⟩
      obtain ⟨nl, hnl⟩ : ∃ nl, L.length = nl := ⟨_, rfl⟩
      obtain ⟨ml, hml⟩ : ∃ ml, R.length = ml := ⟨_, rfl⟩
      obtain ⟨nn, hnn⟩ : ∃ nn, (L.filter (hasK (k1, k2, k3))).length = nn := ⟨_, rfl⟩
      obtain ⟨ee, hee⟩ : ∃ ee, retE (k1, k2, k3) L = ee := ⟨_, rfl⟩
      have hee2 : ee = if nn = 0 then 209 else 0 := by rw [← hee, ← hnn]; rfl
      have hsum : nn + ml = nl := by
        have := parts_len (hasK (k1, k2, k3)) L
        rw [hnn, hR, hml, hnl] at this
        exact this
      obtain ⟨ra1, ra2, ra3⟩ := ret_again (k1, k2, k3) L
      rw [hR] at ra1 ra2 ra3
      obtain ⟨ML, hML⟩ : ∃ ML, msgs R = ML := ⟨_, rfl⟩
      have hOT : (msgs L).filter (oth (k1, k2, k3)) = ML := by rw [oth_msgs, hR, hML]
      have S1 : Calls Try.prog 21 #[.pointer (some ⟨b, 0, none⟩)] wr fun e w' => ∃ a2 c2, e = .returned (.slice a2 nl c2) ∧ Ga w1 w' 0 L b [(a2, msgs L)] := HN.out.held.mono fun e w' ⟨a2, c2, he, hg⟩ => ⟨a2, c2, by rw [he, hnl], hg⟩
      have S2 : Hid (∀ {W : World} {rs : Rws}, Ga w1 W 0 L b rs → Calls Try.prog 18 #[.pointer (some ⟨b, 0, none⟩), .agg #[.int .i64 k1, .int .i64 k2, .int .i64 k3]] W fun e w' => e = .returned (.tuple #[.int .i64 nn, .int .i64 ee]) ∧ Ga w1 w' 0 R b rs) := fun {W rs} h => (h.retract (k1, k2, k3)).mono fun e w' ⟨he, hg⟩ => ⟨by rw [he, hee]; unfold retN; rw [hnn], by rw [hR] at hg; exact hg⟩
      have S3 : Hid (∀ {W : World} {rs : Rws}, Ga w1 W 0 R b rs → Calls Try.prog 18 #[.pointer (some ⟨b, 0, none⟩), .agg #[.int .i64 k1, .int .i64 k2, .int .i64 k3]] W fun e w' => e = .returned (.tuple #[.int .i64 0, .int .i64 209]) ∧ Ga w1 w' 0 R b rs) := fun {W rs} h => (h.retract (k1, k2, k3)).mono fun e w' ⟨he, hg⟩ => ⟨by rw [he, ra1, ra2], by rw [ra3] at hg; exact hg⟩
      have S9 : Hid (∀ {W : World} {rs : Rws}, Ga w1 W 0 R b rs → Calls Try.prog 21 #[.pointer (some ⟨b, 0, none⟩)] W fun e w' => ∃ a2 c2, e = .returned (.slice a2 ml c2) ∧ Ga w1 w' 0 R b ((a2, ML) :: rs)) := fun {W rs} h => h.held.mono fun e w' ⟨a2, c2, he, hg⟩ => ⟨a2, c2, by rw [he, hml], by rw [hML] at hg; exact hg⟩
      have XM : Hid (ML.length = ml) := by show ML.length = ml; rw [← hML, msgs_len, hml]
      have XL : Hid ((msgs L).length = nl) := by show (msgs L).length = nl; rw [msgs_len, hnl]
      have XO : Hid ((msgs L).filter (oth (k1, k2, k3)) = ML) := hOT
      have XE : Hid (ee = if nn = 0 then 209 else 0) := hee2
      have XS : Hid (nn + ml = nl) := hsum
      have hnl2 : nl ≤ 200 := by rw [← hnl]; exact hLl
      have hml2 : ml ≤ 200 := by omega
      have hnn2 : nn ≤ 200 := by omega
      obtain ⟨q0, q1, q2⟩ := HKB.out wr HN.out.bel
      clear hL hR hnl hml hnn hee hee2 hsum ra1 ra2 ra3 hML hOT hLl q0 q1 q2
      go_wp2_with (first
        | (go_at_call 18; refine (Hid.out S3 (Hid.out H4)).mono ?_; rintro e w5 ⟨rfl, h5⟩; have H5 : Hid (Ga w1 w5 0 R b [(aw, msgs L)]) := h5; clear h5)
        | (go_at_call 18; refine (Hid.out S2 (Hid.out H3)).mono ?_; rintro e w4 ⟨rfl, h4⟩; have H4 : Hid (Ga w1 w4 0 R b [(aw, msgs L)]) := h4; obtain ⟨p0, p1, p2⟩ := Hid.out HKB w4 h4.bel; clear h4)
        | (go_at_call 21; refine S1.mono ?_; rintro e w3 ⟨aw, cw, rfl, h3⟩; have H3 : Hid (Ga w1 w3 0 L b [(aw, msgs L)]) := h3; obtain ⟨p0, p1, p2⟩ := Hid.out HKB w3 h3.bel; clear h3 S1))
      go_loopw [12, 13] (fun s12 s13 wr => ∃ (q m c2 : Nat) (al2 : Option Addr) (l2 : List M), s13 = .int .i64 q ∧ q ≤ nl ∧ s12 = .slice al2 m c2 ∧ Hid (Gr w1 wr 0 R b [(aw, msgs L)] (.slice al2 m c2) l2) ∧ Hid (l2 = ((msgs L).take q).filter (oth (k1, k2, k3)))) (fun _ s13 _ => nl - (intOf s13).toNat)
      case atStart => exact ⟨0, 0, 0, _, [], rfl, Nat.zero_le _, rfl, Gr.start H5.out, (rfl : ([] : List M) = ((msgs L).take 0).filter (oth (k1, k2, k3)))⟩
      case round =>
        clear H5
        obtain ⟨q, m, c2, al2, l2, rfl, hq, rfl, H6, HL2⟩ := hrel
        by_cases hlt2 : q < nl
        · have hlt2' : (q : Int) < (nl : Int) := by omega
          obtain ⟨⟨⟨a1, a2, a3⟩, a4, a5, a6⟩, hx⟩ : ∃ x, nth cM (msgs L) q = x := ⟨_, rfl⟩
          have hql : q < (msgs L).length := by rw [XL.out]; exact hlt2
          obtain ⟨ob, oo, rfl, lob, _, m0, m1, m2, m3, m4, m5⟩ := (H6.out.row (a := aw) (ms := msgs L) (by simp)).msg hql hx
          obtain ⟨p0, p1, p2⟩ := HKB.out wr H6.out.bel
          have hB2 : B < wr.heap.size := Nat.lt_of_lt_of_le lB H6.out.bel.size
          have e2 := take_snocM (p := oth (k1, k2, k3)) hql hx
          rw [← HL2.out] at e2
          have hne := neqK (a1, a2, a3) (k1, k2, k3)
          dsimp only [kv] at hne
          have hl2 : l2.length ≤ 200 := by
            rw [HL2.out]
            have := List.length_filter_le (oth (k1, k2, k3)) ((msgs L).take q)
            rw [List.length_take] at this
            omega
          have hot : oth (k1, k2, k3) ((a1, a2, a3), a4, a5, a6) = !sameK (a1, a2, a3) (k1, k2, k3) := rfl
          rw [hot] at e2
          dsimp only at m0 m1 m2 m3 m4 m5
          cases hsk : sameK (a1, a2, a3) (k1, k2, k3)
          · rw [hsk] at hne e2
            simp only [Bool.not_false, if_true] at hne e2
            obtain ⟨Y, hY⟩ : ∃ Y, l2 ++ [((a1, a2, a3), a4, a5, a6)] = Y := ⟨_, rfl⟩
            have HY : Hid (l2 ++ [((a1, a2, a3), a4, a5, a6)] = Y) := hY
            have HE2 : Hid (Y = ((msgs L).take (q + 1)).filter (oth (k1, k2, k3))) := by show _ = _; rw [e2, hY]
            have HL22 : Hid (l2.length ≤ 200) := hl2
            clear hx hql e2 hot hY hl2
            go_wp2_with fail
            go_quiet (fail)
            have H7 : Hid (Gr w1 (wr.drewN nq) 0 R b [(some ⟨ob, oo, none⟩, msgs L)] (.slice al2 m c2) l2) := H6.out.on ⟨rfl, rfl, rfl, Nat.le_refl _, fun _ _ => rfl⟩
            go_wp2_with (at_builtin; refine wpList_append_R tyM (fun _ => True) _ rfl (.tmp 70) (.tmp 75) rfl (.slice al2 m c2) _ _ l2 [((a1, a2, a3), a4, a5, a6)] rfl rfl ((H7.out.on (al _ _)).own) (RdN.newAt cM _ _ _ _ _ (by simp) rfl trivial) (by have := HL22.out; omega) (by simp) Y HY.out ?_; intro a' c' w8 ho hm; have H8 : Hid (Gr w1 w8 0 R b [(some ⟨ob, oo, none⟩, msgs L)] (.slice a' Y.length c') Y) := (H7.out.on (al _ _)).app ho hm; clear ho hm)
            go_roundw
            case rel => exact ⟨q + 1, Y.length, c', a', Y, by go_num, by omega, rfl, H8, HE2⟩
            case measure => simp [intOf]; omega
          · rw [hsk] at hne e2
            simp only [Bool.not_true, Bool.false_eq_true, if_false] at hne e2
            have HE2 : Hid (l2 = ((msgs L).take (q + 1)).filter (oth (k1, k2, k3))) := e2.symm
            clear hx hql e2 hot hl2
            go_wp2_with fail
            go_quiet (fail)
            go_wp2
            go_roundw
            case rel => exact ⟨q + 1, m, c2, al2, l2, by go_num, by omega, rfl, H6.out.on ⟨rfl, rfl, rfl, Nat.le_refl _, fun _ _ => rfl⟩, HE2⟩
            case measure => simp [intOf]; omega
        · obtain rfl : q = nl := by omega
          have el2 : l2 = ML := by
            rw [HL2.out, List.take_of_length_le (by rw [XL.out]; exact Nat.le_refl _), XO.out]
          subst el2
          have hmm : m = ml := by rw [H6.out.own.look.1, XM.out]
          subst hmm
          have H8 : Hid (Ga w1 wr 0 R b [(al2, l2), (aw, msgs L)]) := H6.out.done
          have hs1 : ((nn : Int) == (q : Int) - (m : Int)) = true := by have := XS.out; simp; omega
          have hs2 : (nn : Int) = (q : Int) - (m : Int) := by have := XS.out; omega
          clear H6 HL2
          by_cases h0 : nn = 0
          · have hE : ee = 209 := by rw [XE.out, if_pos h0]
            subst hE
            subst h0
            have hz1 : ((q : Int) - (m : Int)) = 0 := by omega
            have hz2 : ((0 : Nat) : Int) = 0 := rfl
            clear hs1 hs2 XS
            go_wp2_with (first
              | (go_at_call 13; refine (same_eq (n := m) ((Hid.out H9).row (a := ah) (l := l2) (by simp)) ((Hid.out H9).row (a := al2) (l := l2) (by simp)) (Hid.out XM) (by omega)).mono ?_; rintro e w10 ⟨rfl, h10⟩; have HB10 : Hid (Below w.heap.size w w10) := Below.on (Below.on (Hid.out HB1) ((Hid.out H9).bel)) h10; clear h10)
              | (go_at_call 21; refine (Hid.out S9 (Hid.out H8)).mono ?_; rintro e w9 ⟨ah, ch, rfl, h9⟩; have H9 : Hid (Ga w1 w9 0 R b [(ah, l2), (al2, l2), (aw, msgs L)]) := h9; clear h9))
            go_ret
            exact ⟨rfl, HB10.out⟩
          · have hE : ee = 0 := by rw [XE.out, if_neg h0]
            subst hE
            have hp : (0 : Int) < (nn : Int) := by omega
            have hpd : decide ((0 : Int) < (nn : Int)) = true := by simp; omega
            have hpn : 0 < nn := by omega
            have hpn2 : decide (0 < nn) = true := by simp; omega
            go_wp2_with (first
              | (go_at_call 13; refine (same_eq (n := m) ((Hid.out H9).row (a := ah) (l := l2) (by simp)) ((Hid.out H9).row (a := al2) (l := l2) (by simp)) (Hid.out XM) (by omega)).mono ?_; rintro e w10 ⟨rfl, h10⟩; have HB10 : Hid (Below w.heap.size w w10) := Below.on (Below.on (Hid.out HB1) ((Hid.out H9).bel)) h10; clear h10)
              | (go_at_call 21; refine (Hid.out S9 (Hid.out H8)).mono ?_; rintro e w9 ⟨ah, ch, rfl, h9⟩; have H9 : Hid (Ga w1 w9 0 R b [(ah, l2), (al2, l2), (aw, msgs L)]) := h9; clear h9))
            go_ret
            exact ⟨rfl, HB10.out⟩
end Go.Proofs.Ytpkemgpnpadkfaa
