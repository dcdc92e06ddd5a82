/- Proved: contracts of Drop and Retract of the document's gate. -/
import Derived.Test.YtpkemgpnpadkfaaRw
namespace Go.Proofs.Ytpkemgpnpadkfaa
open Go.RowKit Go.Shelf Go.Sort
set_option linter.unusedVariables false

def OutR (X : Nat → Prop) (w : World) (fl : Int) (ms : List M) (L : List H) (b : Nat) (v : Value) (e : Ending) (w' : World) : Prop :=
  ∃ a n c v', e = .returned (.slice a n c) ∧ OwR cM 30 w' (.slice a n c) ms ∧ (∀ k, (Value.slice a n c).ownBlock = some k → w.heap.size ≤ k ∧ ¬ D b v' k) ∧ RQ X w' fl L b v' ∧ Mw (D b v) (D b v') w w'
theorem rput_fin {X : Nat → Prop} {w W : World} {fl : Int} {ms : List M} {L L' : List H} {b : Nat} {v v' : Value} {a : Option Addr} {n c : Nat} (h : RQ X w fl L b v) (ht : T2 cM 30 cH 58 w W (.slice a n c) v' ms L') (hl : L'.length ≤ 256) : OutR X w fl ms L' b v (.returned (.slice a n c)) (W.setCell ⟨b, 1, none⟩ v') := by
  have hm : Mw (fun k => v.ownBlock = some k) (fun k => v'.ownBlock = some k) w W := ⟨Fr.of_below ht.bel, fun k hk e => by have := ht.nb k e; omega⟩
  obtain ⟨g1, g2⟩ := h.put hm ht.rb hl
  have hlt := h.lt
  refine ⟨a, n, c, v', rfl, ht.ra.keep ((Fr.refl (fun k => k = b) _).setCell _ _ (Or.inl rfl)) (fun k e s => by have := ht.na k e; omega), fun k e => ⟨ht.na k e, fun d => ?_⟩, g1, g2⟩
  rcases d with d | d
  · have := ht.na k e
    omega
  · exact ht.ne k e d
theorem drop_snoc {k : K} {l : List H} {i : Nat} {x : H} (hi : i < l.length) (hx : nth cH l i = x) : (l.take (i + 1)).filter (befK k) = (if befK k x = true then (l.take i).filter (befK k) ++ [x] else (l.take i).filter (befK k)) ∧ msgs ((l.take (i + 1)).filter (fun x => !befK k x)) = (if befK k x = true then msgs ((l.take i).filter (fun x => !befK k x)) else msgs ((l.take i).filter (fun x => !befK k x)) ++ [x.2]) := by
  rw [filter_snoc hi hx, filter_snoc hi hx]
  refine ⟨rfl, ?_⟩
  cases h : befK k x <;> simp [msgs]
set_option maxRecDepth 100000 in
set_option maxHeartbeats 4000000 in
theorem rdrop_any {X : Nat → Prop} {w : World} {fl : Int} {L : List H} {b : Nat} {v : Value} (h : RQ X w fl L b v) (k : K) :
    Calls Try.prog 15 #[.pointer (some ⟨b, 0, none⟩), kv k] w (OutR X w fl (dropG k L) (L.filter (befK k)) b v) := by
  have mixed : Try.prog.follows .mixedOrders = true := by kernel_rfl
  obtain ⟨k1, k2, k3⟩ := k
  obtain ⟨a, c, rfl, hr⟩ := h.row.rd (N := fun _ => True) (fun _ _ => trivial)
  obtain ⟨w1, hw1⟩ : ∃ w1, w1 = w.alloc (.cells #[.int .i64 k1, .int .i64 k2, .int .i64 k3] 28) := ⟨_, rfl⟩
  obtain ⟨B, hB⟩ : ∃ B, w.heap.size = B := ⟨_, rfl⟩
  have hb1 : Below w.heap.size w w1 := by rw [hw1]; exact al _ _
  have B0 : w1.heap[B]? = some (.cells #[.int .i64 k1, .int .i64 k2, .int .i64 k3] 28) := by rw [hw1, ← hB]; exact newB _ _
  have lB : B < w1.heap.size := (Array.getElem?_eq_some_iff.1 B0).1
  have hbl := h.lt
  have hcap := h.cap
  obtain ⟨n, hn⟩ : ∃ n, L.length = n := ⟨_, rfl⟩
  have T0 := T2.start cM 30 cH 58 hb1
  -- rows that are made behind w1 leave the box as it is
  have HT0 : Hid (T2 cM 30 cH 58 w1 ((w1.alloc (.cells #[] 30)).alloc (.cells #[] 58)) (.slice (some ⟨B + 1, 0, none⟩) 0 0) (.slice (some ⟨B + 1 + 1, 0, none⟩) 0 0) [] []) := by
    have e1 : w1.heap.size = B + 1 := by rw [hw1, ← hB]; simp
    have t0 := T2.start cM 30 cH 58 (Below.refl _ w1)
    rw [e1] at t0
    exact t0
  have HQ : Hid (RQ X w fl L b (.slice a n c)) := by rw [← hn]; exact h
  have HRD : Hid (∀ W, Below w1.heap.size w1 W → W.cell? ⟨b, 1, none⟩ = some (.slice a n c) ∧ W.frozen? ⟨b, 1, none⟩ = false ∧ b < W.heap.size ∧ B < W.heap.size ∧ W.cell? ⟨B, 0, none⟩ = some (.int .i64 k1) ∧ W.cell? ⟨B, 1, none⟩ = some (.int .i64 k2) ∧ W.cell? ⟨B, 2, none⟩ = some (.int .i64 k3)) := fun W hW => by
    have q := h.below (Below.on hb1 hW)
    have b0 := (hW.block B lB).trans B0
    refine ⟨by rw [← hn]; exact q.c1, q.froz 1, q.lt, Nat.lt_of_lt_of_le lB hW.size, cellB b0 0, cellB b0 1, cellB b0 2⟩
  have HR : Hid (∀ W, Below w1.heap.size w1 W → RdN cH (fun _ => True) W a L) := fun W hW => hr.below (Below.on hb1 hW)
  have HN : Hid (L.length = n) := hn
  have HW : Hid (w1 = w.alloc (.cells #[.int .i64 k1, .int .i64 k2, .int .i64 k3] 28)) := hw1
  have HBB : Hid (w.heap.size = B) := hB
  have HB1 : Hid (Below w.heap.size w w1) := hb1
  have HCAP : Hid (L.length ≤ 256) := hcap
  have hn256 : n ≤ 256 := by omega
  have HFIN : Hid (∀ {W : World} {oa : Option Addr} {on oc : Nat} {vl : Value}, T2 cM 30 cH 58 w1 W (.slice oa on oc) vl (dropG (k1, k2, k3) L) (L.filter (befK (k1, k2, k3))) → OutR X w fl (dropG (k1, k2, k3) L) (L.filter (befK (k1, k2, k3))) b (.slice a n c) (.returned (.slice oa on oc)) (W.setCell ⟨b, 1, none⟩ vl)) := fun {W oa on oc vl} ht => by
    have ht2 : T2 cM 30 cH 58 w W (.slice oa on oc) vl (dropG (k1, k2, k3) L) (L.filter (befK (k1, k2, k3))) := ⟨ht.ra, ht.rb, fun k e => Nat.le_trans hb1.size (ht.na k e), fun k e => Nat.le_trans hb1.size (ht.nb k e), ht.ne, Below.on hb1 ht.bel⟩
    have := rput_fin h ht2 (Nat.le_trans (List.length_filter_le _ _) hcap)
    rw [hn] at this
    exact this
  dsimp only [kv]
  rw [hn]
  clear h hr hw1 hB hb1 B0 hbl hcap hn T0 lB
  go_enter Try.func15, Try.ntmps15
  go_wp2_with fail
  rw [← HW.out]
  simp only [HBB.out]
  go_wp2
  go_loopw [5, 6, 7] (fun s5 s6 s7 wr => ∃ (i : Nat) (oa la : Option Addr) (on oc ln lc : Nat) (A : List M) (B : List H), s7 = .int .i64 i ∧ i ≤ n ∧ s5 = .slice oa on oc ∧ s6 = .slice la ln lc ∧ Hid (T2 cM 30 cH 58 w1 wr (.slice oa on oc) (.slice la ln lc) A B) ∧ Hid (A = msgs ((L.take i).filter (fun x => !befK (k1, k2, k3) x)) ∧ B = (L.take i).filter (befK (k1, k2, k3)))) (fun _ _ s7 _ => n - (intOf s7).toNat)
  case atStart => exact ⟨0, _, _, 0, 0, 0, 0, [], [], rfl, Nat.zero_le _, rfl, rfl, HT0, (⟨rfl, rfl⟩ : ([] : List M) = msgs ((L.take 0).filter (fun x => !befK (k1, k2, k3) x)) ∧ ([] : List H) = (L.take 0).filter (befK (k1, k2, k3)))⟩
  case round =>
    clear HT0
    obtain ⟨i, oa, la, on, oc, ln, lc, A, Bl, rfl, hi, rfl, rfl, HT, HE⟩ := hrel
    obtain ⟨g1, gf, gb, gB, gk1, gk2, gk3⟩ := HRD.out wr HT.out.bel
    by_cases hlt : i < n
    · have hlt' : (i : Int) < (n : Int) := by omega
      have hil : i < L.length := by rw [HN.out]; exact hlt
      obtain ⟨x, hx⟩ : ∃ x, nth cH L i = x := ⟨_, rfl⟩
      obtain ⟨rb, off, rfl, hgb, hgN, x0, x1, x2, x3, x4, x5, x6, x7, x8⟩ := (HR.out wr HT.out.bel).held hil hx
      obtain ⟨e1, e2⟩ := drop_snoc (k := (k1, k2, k3)) hil hx
      rw [← HE.out.2] at e1
      rw [← HE.out.1] at e2
      have HA : Hid (A.length ≤ 256 ∧ Bl.length ≤ 256) := by
        show _ ∧ _
        rw [HE.out.1, HE.out.2, msgs_len]
        have h1 := List.length_filter_le (fun x => !befK (k1, k2, k3) x) (L.take i)
        have h2 := List.length_filter_le (befK (k1, k2, k3)) (L.take i)
        rw [List.length_take] at h1 h2
        omega
      obtain ⟨⟨y1, y2, y3⟩, ⟨y4, y5, y6⟩, y7, y8, y9⟩ := x
      dsimp only at x0 x1 x2 x3 x4 x5 x6 x7 x8
      obtain ⟨r, hr⟩ : ∃ r, kcmp (y1, y2, y3) (k1, k2, k3) = r := ⟨_, rfl⟩
      have hbe : befK (k1, k2, k3) ((y1, y2, y3), (y4, y5, y6), y7, y8, y9) = decide (r < 0) := by rw [← hr]; rfl
      rw [hbe] at e1 e2
      have HCM : Hid (Calls Try.prog 23 #[.agg #[.int .i64 y1, .int .i64 y2, .int .i64 y3], .agg #[.int .i64 k1, .int .i64 k2, .int .i64 k3]] wr.drew fun e w' => e = .returned (.int .i64 r) ∧ Below wr.heap.size wr w') := (refcmp_any (y1, y2, y3) (k1, k2, k3) wr.drew).mono fun e w' ⟨he, hb⟩ => ⟨by rw [he, hr], ⟨hb.os, hb.tape, hb.output, hb.size, hb.block⟩⟩
      have HRW : Hid (∀ W, Below wr.heap.size wr W → W.cell? ⟨rb, off + i * 9, none⟩ = some (.int .i64 y1) ∧ W.cell? ⟨rb, off + i * 9 + 1, none⟩ = some (.int .i64 y2) ∧ W.cell? ⟨rb, off + i * 9 + 2, none⟩ = some (.int .i64 y3) ∧ W.cell? ⟨rb, off + i * 9 + 3, none⟩ = some (.int .i64 y4) ∧ W.cell? ⟨rb, off + i * 9 + 4, none⟩ = some (.int .i64 y5) ∧ W.cell? ⟨rb, off + i * 9 + 5, none⟩ = some (.int .i64 y6) ∧ W.cell? ⟨rb, off + i * 9 + 6, none⟩ = some (.int .i64 y7) ∧ W.cell? ⟨rb, off + i * 9 + 7, none⟩ = some (.int .i64 y8) ∧ W.cell? ⟨rb, off + i * 9 + 8, none⟩ = some (.int .i64 y9)) := fun W hW => by
        have hc := fun o => hW.cell (p := ⟨rb, o, none⟩) hgb
        exact ⟨(hc _).trans x0, (hc _).trans x1, (hc _).trans x2, (hc _).trans x3, (hc _).trans x4, (hc _).trans x5, (hc _).trans x6, (hc _).trans x7, (hc _).trans x8⟩
      have HS6 : Hid (∀ W, Below wr.heap.size wr W → W.cell? ⟨b, 1, none⟩ = some (.slice (some ⟨rb, off, none⟩) n c) ∧ W.cell? ⟨rb, off + i * 9, none⟩ = some (.int .i64 y1) ∧ W.cell? ⟨rb, off + i * 9 + 1, none⟩ = some (.int .i64 y2) ∧ W.cell? ⟨rb, off + i * 9 + 2, none⟩ = some (.int .i64 y3) ∧ W.cell? ⟨B, 0, none⟩ = some (.int .i64 k1) ∧ W.cell? ⟨B, 1, none⟩ = some (.int .i64 k2) ∧ W.cell? ⟨B, 2, none⟩ = some (.int .i64 k3)) := fun W hW => by
        obtain ⟨t1, _, _, _, t2, t3, t4⟩ := HRD.out W (Below.on HT.out.bel hW)
        obtain ⟨u0, u1, u2, _⟩ := HRW.out W hW
        exact ⟨t1, u0, u1, u2, t2, t3, t4⟩
      by_cases hr0 : r < 0
      · have hrd : decide (r < 0) = true := by simpa using hr0
        rw [hrd] at e1 e2
        simp only [if_true] at e1 e2
        obtain ⟨Y, hY⟩ : ∃ Y, Bl ++ [((y1, y2, y3), (y4, y5, y6), y7, y8, y9)] = Y := ⟨_, rfl⟩
        have HY : Hid (Bl ++ [((y1, y2, y3), (y4, y5, y6), y7, y8, y9)] = Y) := hY
        have HE2 : Hid (A = msgs ((L.take (i + 1)).filter (fun x => !befK (k1, k2, k3) x)) ∧ Y = (L.take (i + 1)).filter (befK (k1, k2, k3))) := ⟨e2.symm, by rw [e1, hY]⟩
        clear e1 e2 hx hil hY hbe hr
        go_wp2_with fail
        go_region_held3 (fun w' => w'.cell? ⟨b, 1, none⟩ = some (.slice (some ⟨rb, off, none⟩) n c) ∧ w'.cell? ⟨rb, off + i * 9, none⟩ = some (.int .i64 y1) ∧ w'.cell? ⟨rb, off + i * 9 + 1, none⟩ = some (.int .i64 y2) ∧ w'.cell? ⟨rb, off + i * 9 + 2, none⟩ = some (.int .i64 y3) ∧ w'.cell? ⟨B, 0, none⟩ = some (.int .i64 k1) ∧ w'.cell? ⟨B, 1, none⟩ = some (.int .i64 k2) ∧ w'.cell? ⟨B, 2, none⟩ = some (.int .i64 k3)) (first | (go_keep; done) | exact Hid.out KEEP) (first
          | (go_at_call 23; refine (Hid.out HCM).mono ?_; rintro e w2 ⟨rfl, hb2⟩; have HT2 : Hid (T2 cM 30 cH 58 w1 w2 (.slice oa on oc) (.slice la ln lc) A Bl) := (Hid.out HT).on hb2; have KEEP : Hid (w2.cell? ⟨b, 1, none⟩ = some (.slice (some ⟨rb, off, none⟩) n c) ∧ w2.cell? ⟨rb, off + i * 9, none⟩ = some (.int .i64 y1) ∧ w2.cell? ⟨rb, off + i * 9 + 1, none⟩ = some (.int .i64 y2) ∧ w2.cell? ⟨rb, off + i * 9 + 2, none⟩ = some (.int .i64 y3) ∧ w2.cell? ⟨B, 0, none⟩ = some (.int .i64 k1) ∧ w2.cell? ⟨B, 1, none⟩ = some (.int .i64 k2) ∧ w2.cell? ⟨B, 2, none⟩ = some (.int .i64 k3)) := Hid.out HS6 w2 hb2; obtain ⟨u0, u1, u2, u3, u4, u5, u6, u7, u8⟩ := Hid.out HRW w2 hb2; have lb2 : b < w2.heap.size := Nat.lt_of_lt_of_le gb hb2.size; have lr2 : rb < w2.heap.size := Nat.lt_of_lt_of_le hgb hb2.size; clear hb2 HCM))
        obtain ⟨t1, _, _, _, _, _, _⟩ := KEEP.out
        go_wp2_with (at_builtin; refine wpList_append_R tyP (fun _ => True) _ rfl (.tmp 30) (.tmp 38) rfl (.slice la ln lc) _ _ Bl [((y1, y2, y3), (y4, y5, y6), y7, y8, y9)] rfl rfl (((Hid.out HT2).on (al _ _)).rb) (RdN.newAt cH _ _ _ _ _ (by simp) rfl trivial) (by have := HA.out; omega) (by simp) Y HY.out ?_; intro a' c' w3 ho hm; have HT3 : Hid (T2 cM 30 cH 58 w1 w3 (.slice oa on oc) (.slice a' Y.length c') A Y) := ((((Hid.out HT2).on (al _ _)).flip).app ho hm).flip; clear ho hm)
        go_roundw
        case rel => exact ⟨i + 1, oa, a', on, oc, Y.length, c', A, Y, by go_num, by omega, rfl, rfl, HT3.out, HE2.out⟩
        case measure => simp [intOf]; omega
      · have hrd : decide (r < 0) = false := by simpa using hr0
        rw [hrd] at e1 e2
        simp only [Bool.false_eq_true, if_false] at e1 e2
        obtain ⟨Y, hY⟩ : ∃ Y, A ++ [((y4, y5, y6), y7, y8, y9)] = Y := ⟨_, rfl⟩
        have HY : Hid (A ++ [((y4, y5, y6), y7, y8, y9)] = Y) := hY
        have HE2 : Hid (Y = msgs ((L.take (i + 1)).filter (fun x => !befK (k1, k2, k3) x)) ∧ Bl = (L.take (i + 1)).filter (befK (k1, k2, k3))) := ⟨by rw [e2, hY], e1.symm⟩
        clear e1 e2 hx hil hY hbe hr
        go_wp2_with fail
        go_region_held3 (fun w' => w'.cell? ⟨b, 1, none⟩ = some (.slice (some ⟨rb, off, none⟩) n c) ∧ w'.cell? ⟨rb, off + i * 9, none⟩ = some (.int .i64 y1) ∧ w'.cell? ⟨rb, off + i * 9 + 1, none⟩ = some (.int .i64 y2) ∧ w'.cell? ⟨rb, off + i * 9 + 2, none⟩ = some (.int .i64 y3) ∧ w'.cell? ⟨B, 0, none⟩ = some (.int .i64 k1) ∧ w'.cell? ⟨B, 1, none⟩ = some (.int .i64 k2) ∧ w'.cell? ⟨B, 2, none⟩ = some (.int .i64 k3)) (first | (go_keep; done) | exact Hid.out KEEP) (first
          | (go_at_call 23; refine (Hid.out HCM).mono ?_; rintro e w2 ⟨rfl, hb2⟩; have HT2 : Hid (T2 cM 30 cH 58 w1 w2 (.slice oa on oc) (.slice la ln lc) A Bl) := (Hid.out HT).on hb2; have KEEP : Hid (w2.cell? ⟨b, 1, none⟩ = some (.slice (some ⟨rb, off, none⟩) n c) ∧ w2.cell? ⟨rb, off + i * 9, none⟩ = some (.int .i64 y1) ∧ w2.cell? ⟨rb, off + i * 9 + 1, none⟩ = some (.int .i64 y2) ∧ w2.cell? ⟨rb, off + i * 9 + 2, none⟩ = some (.int .i64 y3) ∧ w2.cell? ⟨B, 0, none⟩ = some (.int .i64 k1) ∧ w2.cell? ⟨B, 1, none⟩ = some (.int .i64 k2) ∧ w2.cell? ⟨B, 2, none⟩ = some (.int .i64 k3)) := Hid.out HS6 w2 hb2; obtain ⟨u0, u1, u2, u3, u4, u5, u6, u7, u8⟩ := Hid.out HRW w2 hb2; have lb2 : b < w2.heap.size := Nat.lt_of_lt_of_le gb hb2.size; have lr2 : rb < w2.heap.size := Nat.lt_of_lt_of_le hgb hb2.size; clear hb2 HCM))
        obtain ⟨t1, _, _, _, _, _, _⟩ := KEEP.out
        go_wp2_with (at_builtin; refine wpList_append_R tyM (fun _ => True) _ rfl (.tmp 40) (.tmp 49) rfl (.slice oa on oc) _ _ A [((y4, y5, y6), y7, y8, y9)] rfl rfl (((Hid.out HT2).on (al _ _)).ra) (RdN.newAt cM _ _ _ _ _ (by simp) rfl trivial) (by have := HA.out; omega) (by simp) Y HY.out ?_; intro a' c' w3 ho hm; have HT3 : Hid (T2 cM 30 cH 58 w1 w3 (.slice a' Y.length c') (.slice la ln lc) Y Bl) := ((Hid.out HT2).on (al _ _)).app ho hm; clear ho hm)
        go_roundw
        case rel => exact ⟨i + 1, a', la, Y.length, c', ln, lc, Y, Bl, by go_num, by omega, rfl, rfl, HT3.out, HE2.out⟩
        case measure => simp [intOf]; omega
    · obtain rfl : i = n := by omega
      go_wp2
      go_ret
      have hE := HE.out
      rw [List.take_of_length_le (by rw [HN.out]; exact Nat.le_refl _)] at hE
      have hT := HT.out
      rw [hE.1, hE.2] at hT
      exact HFIN.out hT
theorem parts_len2 (p : H → Bool) (L : List H) : (L.filter p).length + (L.filter (fun x => !p x)).length = L.length := by
  induction L with
  | nil => rfl
  | cons a r ih => cases h : p a <;> simp [h] <;> omega
set_option maxRecDepth 100000 in
set_option maxHeartbeats 4000000 in
theorem rretract_any {X : Nat → Prop} {w : World} {fl : Int} {L : List H} {b : Nat} {v : Value} (h : RQ X w fl L b v) (k : K) :
    Calls Try.prog 19 #[.pointer (some ⟨b, 0, none⟩), kv k] w fun e w' => ∃ v', e = .returned (.tuple #[.int .i64 (retN k L), .int .i64 (retE k L)]) ∧ RQ X w' fl (L.filter (fun x => !hasK k x)) b v' ∧ Mw (D b v) (D b v') w w' := by
  have mixed : Try.prog.follows .mixedOrders = true := by kernel_rfl
  obtain ⟨k1, k2, k3⟩ := k
  obtain ⟨a, c, rfl, hr⟩ := h.row.rd (N := fun _ => True) (fun _ _ => trivial)
  obtain ⟨w1, hw1⟩ : ∃ w1, w1 = w.alloc (.cells #[.int .i64 k1, .int .i64 k2, .int .i64 k3] 28) := ⟨_, rfl⟩
  obtain ⟨B, hB⟩ : ∃ B, w.heap.size = B := ⟨_, rfl⟩
  have hb1 : Below w.heap.size w w1 := by rw [hw1]; exact al _ _
  have B0 : w1.heap[B]? = some (.cells #[.int .i64 k1, .int .i64 k2, .int .i64 k3] 28) := by rw [hw1, ← hB]; exact newB _ _
  have lB : B < w1.heap.size := (Array.getElem?_eq_some_iff.1 B0).1
  have hcap := h.cap
  obtain ⟨n, hn⟩ : ∃ n, L.length = n := ⟨_, rfl⟩
  obtain ⟨nn, hnn⟩ : ∃ nn, (L.filter (hasK (k1, k2, k3))).length = nn := ⟨_, rfl⟩
  obtain ⟨R, hR⟩ : ∃ R, L.filter (fun x => !hasK (k1, k2, k3) x) = R := ⟨_, rfl⟩
  have hsum := parts_len2 (hasK (k1, k2, k3)) L
  rw [hnn, hR, hn] at hsum
  have HRD : Hid (∀ W, Below w1.heap.size w1 W → W.cell? ⟨b, 1, none⟩ = some (.slice a n c) ∧ W.frozen? ⟨b, 1, none⟩ = false ∧ b < W.heap.size ∧ B < W.heap.size ∧ W.cell? ⟨B, 0, none⟩ = some (.int .i64 k1) ∧ W.cell? ⟨B, 1, none⟩ = some (.int .i64 k2) ∧ W.cell? ⟨B, 2, none⟩ = some (.int .i64 k3)) := fun W hW => by
    have q := h.below (Below.on hb1 hW)
    have b0 := (hW.block B lB).trans B0
    refine ⟨by rw [← hn]; exact q.c1, q.froz 1, q.lt, Nat.lt_of_lt_of_le lB hW.size, cellB b0 0, cellB b0 1, cellB b0 2⟩
  have HR : Hid (∀ W, Below w1.heap.size w1 W → RdN cH (fun _ => True) W a L) := fun W hW => hr.below (Below.on hb1 hW)
  have HN : Hid (L.length = n) := hn
  have HW : Hid (w1 = w.alloc (.cells #[.int .i64 k1, .int .i64 k2, .int .i64 k3] 28)) := hw1
  have HBB : Hid (w.heap.size = B) := hB
  have hn256 : n ≤ 256 := by omega
  have HNO : Hid (∀ W, nn = 0 → Below w1.heap.size w1 W → ∃ v', (Ending.returned (.tuple #[.int .i64 0, .int .i64 209]) = .returned (.tuple #[.int .i64 (retN (k1, k2, k3) L), .int .i64 (retE (k1, k2, k3) L)])) ∧ RQ X W fl R b v' ∧ Mw (D b (.slice a n c)) (D b v') w W) := fun W h0 hW => by
    refine ⟨.slice a n c, ?_, ?_, Mw.below (Below.on hb1 hW)⟩
    · unfold retN retE
      rw [hnn, h0]
      rfl
    · rw [← hR, filter_none (by rw [hnn]; exact h0), ← hn]
      exact h.below (Below.on hb1 hW)
  have HFIN : Hid (∀ {W : World} {la : Option Addr} {ln lc : Nat}, ¬ nn = 0 → Below w1.heap.size w1 W → OwR cH 58 W (.slice la ln lc) R → (∀ k, (Value.slice la ln lc).ownBlock = some k → w1.heap.size ≤ k) → ∃ v', (Ending.returned (.tuple #[.int .i64 nn, .int .i64 0]) = .returned (.tuple #[.int .i64 (retN (k1, k2, k3) L), .int .i64 (retE (k1, k2, k3) L)])) ∧ RQ X (W.setCell ⟨b, 1, none⟩ (.slice la ln lc)) fl R b v' ∧ Mw (D b (.slice a n c)) (D b v') w (W.setCell ⟨b, 1, none⟩ (.slice la ln lc))) := fun {W la ln lc} h0 hW ho hnw => by
    have hm : Mw (fun k => (Value.slice a L.length c).ownBlock = some k) (fun k => (Value.slice la ln lc).ownBlock = some k) w W := ⟨Fr.of_below (Below.on hb1 hW), fun k hk e => by have := hnw k e; have := hb1.size; omega⟩
    obtain ⟨g1, g2⟩ := h.put hm ho (by omega)
    rw [hn] at g2
    refine ⟨_, ?_, g1, g2⟩
    unfold retN retE
    rw [hnn, if_neg h0]
  have HSM : Hid (nn + R.length = n) := hsum
  have HRR : Hid (L.filter (fun x => !hasK (k1, k2, k3) x) = R) := hR
  have hs1 : w1.heap.size = B + 1 := by rw [hw1, ← hB]; simp
  have HS1 : Hid (w1.heap.size = B + 1) := hs1
  have HST : Hid (OwR cH 58 (w1.alloc (.cells #[] 58)) (.slice (some ⟨B + 1, 0, none⟩) 0 0) []) := by
    have t0 := OwR.made cH 58 w1
    rw [hs1] at t0
    exact t0
  dsimp only [kv]
  rw [hn, hR]
  clear h hr hw1 hB hb1 B0 hcap hn lB hnn hR hsum hs1
  go_enter Try.func19, Try.ntmps19
  go_wp2_with fail
  rw [← HW.out]
  simp only [HBB.out]
  go_wp2
  go_loopw [6, 7] (fun s6 s7 wr => ∃ (i : Nat) (la : Option Addr) (ln lc : Nat) (Bl : List H), s7 = .int .i64 i ∧ i ≤ n ∧ s6 = .slice la ln lc ∧ Hid (OwR cH 58 wr (.slice la ln lc) Bl) ∧ Hid (∀ k, (Value.slice la ln lc).ownBlock = some k → w1.heap.size ≤ k) ∧ Hid (Below w1.heap.size w1 wr) ∧ Hid (Bl = (L.take i).filter (fun x => !hasK (k1, k2, k3) x))) (fun _ s7 _ => n - (intOf s7).toNat)
  case atStart => exact ⟨0, _, 0, 0, [], rfl, Nat.zero_le _, rfl, HST, (fun k e => by simp [Value.ownBlock] at e; have := HS1.out; omega : ∀ k, (Value.slice (some ⟨B + 1, 0, none⟩) 0 0).ownBlock = some k → w1.heap.size ≤ k), (al w1 _ : Below w1.heap.size w1 _), (rfl : ([] : List H) = (L.take 0).filter (fun x => !hasK (k1, k2, k3) x))⟩
  case round =>
    clear HST
    obtain ⟨i, la, ln, lc, Bl, rfl, hi, rfl, HO, HNW, HB, HE⟩ := hrel
    obtain ⟨g1, gf, gb, gB, gk1, gk2, gk3⟩ := HRD.out wr HB.out
    by_cases hlt : i < n
    · have hlt' : (i : Int) < (n : Int) := by omega
      have hil : i < L.length := by rw [HN.out]; exact hlt
      obtain ⟨x, hx⟩ : ∃ x, nth cH L i = x := ⟨_, rfl⟩
      obtain ⟨rb, off, rfl, hgb, hgN, x0, x1, x2, x3, x4, x5, x6, x7, x8⟩ := (HR.out wr HB.out).held hil hx
      have e1 := filter_snoc (p := fun x => !hasK (k1, k2, k3) x) hil hx
      rw [← HE.out] at e1
      have HA : Hid (Bl.length ≤ 256) := by
        show _ ≤ _
        rw [HE.out]
        have h1 := List.length_filter_le (fun x => !hasK (k1, k2, k3) x) (L.take i)
        rw [List.length_take] at h1
        omega
      obtain ⟨⟨y1, y2, y3⟩, ⟨y4, y5, y6⟩, y7, y8, y9⟩ := x
      dsimp only at x0 x1 x2 x3 x4 x5 x6 x7 x8
      have hne := neqK (y4, y5, y6) (k1, k2, k3)
      dsimp only [kv] at hne
      have hot : (!hasK (k1, k2, k3) ((y1, y2, y3), (y4, y5, y6), y7, y8, y9)) = !sameK (y4, y5, y6) (k1, k2, k3) := rfl
      rw [hot] at e1
      cases hsk : sameK (y4, y5, y6) (k1, k2, k3)
      · rw [hsk] at hne e1
        simp only [Bool.not_false, if_true] at hne e1
        obtain ⟨Y, hY⟩ : ∃ Y, Bl ++ [((y1, y2, y3), (y4, y5, y6), y7, y8, y9)] = Y := ⟨_, rfl⟩
        have HY : Hid (Bl ++ [((y1, y2, y3), (y4, y5, y6), y7, y8, y9)] = Y) := hY
        have HE2 : Hid (Y = (L.take (i + 1)).filter (fun x => !hasK (k1, k2, k3) x)) := by show _ = _; rw [e1, hY]
        clear e1 hx hil hY hot
        go_wp2_with fail
        go_quiet (fail)
        obtain ⟨w2, hw2⟩ : ∃ w2, wr.drewN nq = w2 := ⟨_, rfl⟩
        have hbd : Below wr.heap.size wr w2 := by rw [← hw2]; exact ⟨rfl, rfl, rfl, Nat.le_refl _, fun _ _ => rfl⟩
        rw [hw2]
        obtain ⟨t1, t2, t3, t4, t5, t6, t7⟩ := HRD.out w2 (Below.on HB.out hbd)
        have hc := fun o => hbd.cell (p := ⟨rb, o, none⟩) hgb
        have v0 := (hc _).trans x0
        have v1 := (hc _).trans x1
        have v2 := (hc _).trans x2
        have v3 := (hc _).trans x3
        have v4 := (hc _).trans x4
        have v5 := (hc _).trans x5
        have v6 := (hc _).trans x6
        have v7 := (hc _).trans x7
        have v8 := (hc _).trans x8
        have lr2 : rb < w2.heap.size := Nat.lt_of_lt_of_le hgb hbd.size
        have HO2 : Hid (OwR cH 58 w2 (.slice la ln lc) Bl) := HO.out.below hbd
        have HB2 : Hid (Below w1.heap.size w1 w2) := Below.on HB.out hbd
        clear hw2 hbd hc
        go_wp2_with (at_builtin; refine wpList_append_R tyP (fun _ => True) _ rfl (.tmp 30) (.tmp 38) rfl (.slice la ln lc) _ _ Bl [((y1, y2, y3), (y4, y5, y6), y7, y8, y9)] rfl rfl ((Hid.out HO2).below (al _ _)) (RdN.newAt cH _ _ _ _ _ (by simp) rfl trivial) (by have := HA.out; omega) (by simp) Y HY.out ?_; intro a' c' w3 ho hm; have HO3 : Hid (OwR cH 58 w3 (.slice a' Y.length c') Y) := ho; have HN3 : Hid (∀ k, (Value.slice a' Y.length c').ownBlock = some k → w1.heap.size ≤ k) := (fun k e => new_ge (Below.on (Hid.out HB2) (al _ _)).size (Hid.out HNW) hm e); have HB3 : Hid (Below w1.heap.size w1 w3) := (Below.on (Hid.out HB2) (al _ _)).trans (hm.fr.below (Below.on (Hid.out HB2) (al _ _)).size (Hid.out HNW)); clear ho hm)
        go_roundw
        case rel => exact ⟨i + 1, a', Y.length, c', Y, by go_num, by omega, rfl, HO3, HN3, HB3, HE2⟩
        case measure => simp [intOf]; omega
      · rw [hsk] at hne e1
        simp only [Bool.not_true, Bool.false_eq_true, if_false] at hne e1
        have HE2 : Hid (Bl = (L.take (i + 1)).filter (fun x => !hasK (k1, k2, k3) x)) := e1.symm
        clear e1 hx hil hot
        go_wp2_with fail
        go_quiet (fail)
        go_wp2
        go_roundw
        case rel => exact ⟨i + 1, la, ln, lc, Bl, by go_num, by omega, rfl, HO.out.below ⟨rfl, rfl, rfl, Nat.le_refl _, fun _ _ => rfl⟩, HNW, Below.on HB.out ⟨rfl, rfl, rfl, Nat.le_refl _, fun _ _ => rfl⟩, HE2⟩
        case measure => simp [intOf]; omega
    · obtain rfl : i = n := by omega
      have eB : Bl = R := by rw [HE.out, List.take_of_length_le (by rw [HN.out]; exact Nat.le_refl _), HRR.out]
      subst eB
      have hln : ln = Bl.length := HO.out.look.1
      have hs2 : (i : Int) - (ln : Int) = (nn : Int) := by have := HSM.out; omega
      have hln2 : ln ≤ 256 := by have := HSM.out; omega
      have hnn2 : nn ≤ 256 := by have := HSM.out; omega
      clear hln
      by_cases h0 : nn = 0
      · have hz : ((nn : Int) == 0) = true := by simp [h0]
        have hz2 : (nn : Int) = 0 := by omega
        go_wp2
        go_ret2
        exact HNO.out wr h0 HB.out
      · have hz : ((nn : Int) == 0) = false := by simp; omega
        have hz2 : ¬ (nn : Int) = 0 := by omega
        go_wp2
        go_ret2
        exact HFIN.out h0 HB.out HO.out HNW.out
end Go.Proofs.Ytpkemgpnpadkfaa
