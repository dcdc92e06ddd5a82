/- Proved: the walk of LbtsTurned. -/
import Derived.Test.YtmkhgihhledegaaMkl
namespace Go.Proofs.Ytmkhgihhledegaa
open Go.RowKit Go.Shelf
open L (Mb IsG lbt oth outM cnt vadd)
set_option linter.unusedVariables false

/-- Whose place is where, and back. -/
theorem turn_out {l : List Mb} {t n : Nat} {O P : Nat → Int} (hn : l.length = n) (ht : t < n) (h : IsG l O) (h' : IsG (l.drop t ++ l.take t) P) {i : Nat} (hi : i < n) : P i = O ((i + t) % n) := by
  have n0 : 0 < n := by omega
  have e1 : ∀ i, i < n → (i + t) % n = if i + t < n then i + t else i + t - n := fun i hi => by
    split
    · exact Nat.mod_eq_of_lt (by assumption)
    · rw [Nat.mod_eq_sub_mod (by omega), Nat.mod_eq_of_lt (by omega)]
  have e2 : ∀ i, i < n → (i + (n - t)) % n = if i < t then i + (n - t) else i - t := fun i hi => by
    split
    · exact Nat.mod_eq_of_lt (by omega)
    · rw [Nat.mod_eq_sub_mod (by omega), Nat.mod_eq_of_lt (by omega)]; omega
  refine h.turn h' (fun i => (i + t) % n) (fun i => (i + (n - t)) % n) (by simp; omega) (fun i hi => ?_) (fun i hi => ?_) (fun i hi => ?_) (by rw [hn]; exact hi)
  · rw [hn] at hi ⊢
    refine ⟨Nat.mod_lt _ n0, ?_⟩
    show ((i + t) % n + (n - t)) % n = i
    have g := Nat.mod_lt (i + t) n0
    rw [e2 _ g, e1 i hi]
    split <;> split <;> omega
  · rw [hn] at hi ⊢
    refine ⟨Nat.mod_lt _ n0, ?_⟩
    show ((i + (n - t)) % n + t) % n = i
    have g := Nat.mod_lt (i + (n - t)) n0
    rw [e1 _ g, e2 i hi]
    split <;> split <;> omega
  · rw [hn] at hi
    show L.nth (l.drop t ++ l.take t) i = L.nth l ((i + t) % n)
    rw [e1 i hi]
    unfold L.nth
    by_cases g : i + t < n
    · rw [if_pos g]
      simp [List.getElem?_append_left (show i < (l.drop t).length by simp; omega), Nat.add_comm]
    · rw [if_neg g]
      have hd : (l.drop t).length = n - t := by simp; omega
      have ei : i - (n - t) = i + t - n := by omega
      simp only [List.getD_eq_getElem?_getD]
      rw [List.getElem?_append_right (show (l.drop t).length ≤ i by omega), hd, ei, List.getElem?_take_of_lt (show i + t - n < t by omega)]
set_option maxRecDepth 100000 in
set_option maxHeartbeats 4000000 in
theorem turned_walk (w : World) (sa : Option Addr) (sc : Nat) (l : List Mb) (hn : l.length ≤ maxLen) (hc : l.length ≤ sc) (hz : RdN cB (fun _ => True) w sa l) (i : Int) (hi : 0 ≤ i ∧ i ≤ 255) :
    Calls Try.prog 8 #[.slice sa l.length sc, .int .u8 i] w fun e w' => e = .returned (.bool true) ∧ Below w.heap.size w w' := by
  unfold maxLen at hn
  obtain ⟨i0, i1⟩ := hi
  obtain ⟨n, hnn⟩ : ∃ n, l.length = n := ⟨_, rfl⟩
  rw [hnn] at hn hc ⊢
  have NI : Hid (∀ W, Calls Try.prog 12 #[.slice none 0 0, .int .i64 0] W fun e w' => e = .returned (.int .i64 1125899906842624) ∧ Below W.heap.size W w') := fun W => pb_nil W 0
  by_cases hb : 12 < n ∨ n = 0
  · clear hnn hz hc
    rcases hb with h | h
    · have hb' : (12 : Int) < (n : Int) := by omega
      go_enter Try.func8, Try.ntmps8
      go_wp2_with (go_at_call 12; refine (Hid.out NI _).mono ?_; rintro e w1 ⟨rfl, h1⟩; have B1 : Hid _ := h1; clear h1)
      go_ret
      exact ⟨rfl, B1.out⟩
    · subst h
      go_enter Try.func8, Try.ntmps8
      go_wp2_with (go_at_call 12; refine (Hid.out NI _).mono ?_; rintro e w1 ⟨rfl, h1⟩; have B1 : Hid _ := h1; clear h1)
      go_ret
      exact ⟨rfl, B1.out⟩
  have hb' : ¬ (12 : Int) < (n : Int) := by omega
  have hb2 : ((n : Int) == 0) = false := by simp; omega
  have hn0 : (n : Int) ≠ 0 := by omega
  have h1 : n ≤ 1000 := by omega
  have ma := Int.emod_nonneg i (b := (n : Int)) (by omega)
  have ma' := Int.emod_lt_of_pos i (b := (n : Int)) (by omega)
  obtain ⟨t, ht⟩ : ∃ t : Nat, i % (n : Int) = t := ⟨(i % (n : Int)).toNat, by omega⟩
  have htn : t < n := by omega
  clear ma ma' hb
  obtain ⟨b, off, rfl, hbw, _, _⟩ := hz (by intro e; rw [e] at hnn; simp at hnn; omega)
  obtain ⟨O, hG⟩ := L.G_ex l
  obtain ⟨P, hP⟩ := L.G_ex (l.drop t ++ l.take t)
  have HT : Hid (∀ j, j < n → P j = O ((j + t) % n)) := fun j hj => turn_out hnn htn hG hP hj
  have HD : Hid (RdN cB (fun _ => True) w (some ⟨b, off + t * 7, none⟩) (l.drop t) ∧ (l.drop t).length = n - t) := by
    have h := hz.part t (n - t)
    have e : (l.drop t).take (n - t) = l.drop t := List.take_of_length_le (by simp; omega)
    rw [e] at h
    exact ⟨h, by simp; omega⟩
  have HK : Hid (RdN cB (fun _ => True) w (some ⟨b, off, none⟩) (l.take t) ∧ (l.take t).length = t) := by
    have h := hz.part 0 t
    rw [List.drop_zero] at h
    exact ⟨by simpa using h, by simp; omega⟩
  obtain ⟨D, hD⟩ : ∃ D, l.drop t = D := ⟨_, rfl⟩
  obtain ⟨K, hK⟩ : ∃ K, l.take t = K := ⟨_, rfl⟩
  rw [hD] at HD hP
  rw [hK] at HK hP
  obtain ⟨M, hM⟩ : ∃ M, D ++ K = M := ⟨_, rfl⟩
  have HM : Hid (D ++ K = M) := hM
  rw [hM] at hP
  have HML : Hid (M.length = n) := by show _ = _; rw [← hM, List.length_append, HD.out.2, HK.out.2]; omega
  have H0 : Hid _ := Rmk.made (e := 33) (Below.refl w.heap.size w)
  have PO : Hid (∀ W, Below w.heap.size w W → Calls Try.prog 9 #[.slice (some ⟨b, off, none⟩) n sc] W fun e w' => ∃ bo, e = .returned (rowV bo n) ∧ Rv w' bo n (iv O) ∧ W.heap.size ≤ bo ∧ Below W.heap.size W w') := fun W hW => po_any hG (hz.below hW) hnn h1
  have PM : Hid (∀ W a c, RdN cB (fun _ => True) W a M → Calls Try.prog 9 #[.slice a n c] W fun e w' => ∃ bo, e = .returned (rowV bo n) ∧ Rv w' bo n (iv P) ∧ W.heap.size ≤ bo ∧ Below W.heap.size W w') := fun W a c hr => po_any hP hr HML.out h1
  have TH : Hid (∀ W, Below w.heap.size w W → Calls Try.prog 11 #[.slice (some ⟨b, off, none⟩) n sc] W fun e w' => ∃ a' c', e = .returned (.slice a' n c') ∧ RdN cB (fun _ => True) w' a' l ∧ Below W.heap.size W w') := fun W hW => theirs_any (hz.below hW) hnn h1
  have DO : Hid (∀ W a' c', RdN cB (fun _ => True) W a' l → Calls Try.prog 10 #[.slice a' n c'] W fun e w' => ∃ oa oc o, e = .returned (.slice oa n oc) ∧ Ri W w' (.slice oa n oc) o ∧ o.length = n ∧ ∀ j, j < n → o.getD j 0 = O j) := fun W a' c' hr => do_any hG hr hnn h1
  clear hnn hz hn hG hP hD hK hM
  have ht1 : (t : Int) ≤ (n : Int) := by omega
  have ht2 : (t : Int) ≤ (sc : Int) := by omega
  have ht3 : (n : Int) ≤ (sc : Int) := by omega
  have ht4 : t ≤ n := by omega
  have ht5 : t ≤ sc := by omega
  go_enter Try.func8, Try.ntmps8
  go_wp2_with (first
    | (at_builtin; refine wpList_append_R tyL (fun _ => True) _ rfl (.tmp 27) (.tmp 30) rfl _ _ _ [] D rfl (by rw [HD.out.2]; rfl) (Hid.out H0).own (HD.out.1.below (al _ _)) (by simp) (by rw [HD.out.2]; omega) D rfl ?_; intro a1 c1 w1 ho hm; have H1 : Hid (Rmk 33 w w1 (.slice a1 D.length c1) D) := (Hid.out H0).app ho hm; clear ho hm)
    | (at_builtin; refine wpList_append_R tyL (fun _ => True) _ rfl (.tmp 32) (.tmp 35) rfl _ _ _ D K rfl (by rw [HK.out.2]; rfl) (Hid.out H1).own (HK.out.1.below (Hid.out H1).bel) (by rw [HD.out.2]; omega) (by rw [HK.out.2]; omega) M HM.out ?_; intro a2 c2 w2 ho hm; have H2 : Hid (Rmk 33 w w2 (.slice a2 M.length c2) M) := (Hid.out H1).app ho hm; clear ho hm; rw [HML.out] at H2; try rw [HML.out]; have B2 : Hid (Below w.heap.size w w2) := (Hid.out H2).bel; have R2 : Hid (RdN cB (fun _ => True) w2 a2 M) := (Hid.out H2).rd)
    | (go_at_call 9; refine (Hid.out PO _ (Hid.out B2)).mono ?_; rintro e w3 ⟨bo, rfl, hr3, _, hb3⟩; have R3 : Hid (Rv w3 bo n (iv O)) := hr3; have B3 : Hid (Below w.heap.size w w3) := Below.on (Hid.out B2) hb3; have RM3 : Hid (RdN cB (fun _ => True) w3 a2 M) := (Hid.out R2).below hb3; clear hr3 hb3 PO)
    | (go_at_call 9; refine (Hid.out PM _ _ _ (Hid.out RM3)).mono ?_; rintro e w4 ⟨bp, rfl, hr4, _, hb4⟩; have R4 : Hid (Rv w4 bo n (iv O) ∧ Rv w4 bp n (iv P)) := ⟨(Hid.out R3).below hb4, hr4⟩; have B4 : Hid (Below w.heap.size w w4) := Below.on (Hid.out B3) hb4; clear hr4 hb4)
    | (go_at_call 11; refine (Hid.out TH _ (Hid.out B4)).mono ?_; rintro e w5 ⟨a', c', rfl, hr5, hb5⟩; have M5 : Hid (RdN cB (fun _ => True) w5 a' l) := hr5; have R5 : Hid (Rv w5 bo n (iv O) ∧ Rv w5 bp n (iv P)) := ⟨(Hid.out R4).1.below hb5, (Hid.out R4).2.below hb5⟩; have B5 : Hid (Below w.heap.size w w5) := Below.on (Hid.out B4) hb5; clear hr5 hb5)
    | (go_at_call 10; refine (Hid.out DO _ _ _ (Hid.out M5)).mono ?_; rintro e w6 ⟨oa, oc, o, rfl, hr6, hlo, hoo⟩; have B6 : Hid (Below w.heap.size w w6) := Below.on (Hid.out B5) hr6.bel; have R6 : Hid (Rv w6 bo n (iv O) ∧ Rv w6 bp n (iv P) ∧ RdN cI (fun _ => True) w6 oa o) := ⟨(Hid.out R5).1.below hr6.bel, (Hid.out R5).2.below hr6.bel, hr6.own.rdI.2⟩; have HLO : Hid (o.length = n ∧ ∀ j, j < n → o.getD j 0 = O j) := ⟨hlo, hoo⟩; clear hr6 hlo hoo))
  clear H0 HD HK HM
  go_loopw [10] (fun s10 wr => ∃ (k : Nat), s10 = .int .i64 k ∧ k ≤ n ∧ Hid (Below w6.heap.size w6 wr)) (fun s10 _ => n - (intOf s10).toNat)
  case atStart => exact ⟨0, rfl, Nat.zero_le _, Below.refl _ _⟩
  case round =>
    obtain ⟨k, rfl, hk, HW⟩ := hrel
    by_cases hlt : k < n
    · have hlt' : (k : Int) < (n : Int) := by omega
      obtain ⟨x, hx⟩ : ∃ x, O k = x := ⟨_, rfl⟩
      obtain ⟨y, hy⟩ : ∃ y, P k = y := ⟨_, rfl⟩
      obtain ⟨p, hp⟩ : ∃ p, (k + t) % n = p := ⟨_, rfl⟩
      have hpn : p < n := by rw [← hp]; exact Nat.mod_lt _ (by omega)
      have hpI : ((k : Int) + (t : Int)) % (n : Int) = (p : Int) := by rw [← hp]; simp
      have hOp : O p = y := by rw [← hp, ← hy]; exact (HT.out k hlt).symm
      obtain ⟨ob, ooff, rfl, hob, cz⟩ := RdN.int (R6.out.2.2.below HW.out) (by rw [HLO.out.1]; exact hlt) ((HLO.out.2 k hlt).trans hx)
      have cp := (R6.out.1.below HW.out).atI hpn hOp
      have ck := (R6.out.1.below HW.out).atI hlt hx
      have cb := (R6.out.2.1.below HW.out).atI hlt hy
      have hpn' : (p : Int) < (n : Int) := by omega
      clear hx hy hp hOp
      go_wp2_with fail
      go_quiet (fail)
      go_wp2_with fail
      go_roundw
      case rel => exact ⟨k + 1, by go_num, by omega, Below.on HW.out ⟨rfl, rfl, rfl, Nat.le_refl _, fun _ _ => rfl⟩⟩
      case measure => simp [intOf]; omega
    · obtain rfl : k = n := by omega
      go_wp2_with fail
      go_ret
      exact ⟨rfl, Below.trans B6.out (HW.out.mono B6.out.size)⟩
end Go.Proofs.Ytmkhgihhledegaa
