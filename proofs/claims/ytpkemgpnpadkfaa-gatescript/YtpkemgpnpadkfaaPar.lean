/- Proved: contracts of New, Floor, Held, parted, messages of a gate. -/
import Derived.Test.YtpkemgpnpadkfaaGat
namespace Go.Proofs.Ytpkemgpnpadkfaa
open Go.RowKit Go.Shelf Go.Sort
set_option linter.unusedVariables false

theorem new_any {X : Nat → Prop} (w : World) (hX : ∀ k, X k → k < w.heap.size) :
    Calls Try.prog 9 #[] w fun e w' => e = .returned (.pointer (some ⟨w.heap.size, 0, none⟩)) ∧ GQ X w' 0 [] w.heap.size (.slice none 0 0) ∧ Below w.heap.size w w' := by
  have HX : Aside _ := hX
  clear hX
  go_enter Try.func9, Try.ntmps9
  go_wp2
  go_ret
  have hB : Below w.heap.size w (w.alloc (.cells #[.slice none 0 0, .int .i64 0] 54)) := al _ _
  refine ⟨rfl, ⟨newB _ _, OwR.nil _ _ _, by simp [Value.ownBlock], fun e => by have := HX.out _ e; omega, fun k e => by simp [Value.ownBlock] at e, fun k e => Nat.lt_of_lt_of_le (HX.out k e) hB.size, by simp⟩, hB⟩
theorem floor_any {X : Nat → Prop} {w : World} {fl : Int} {L : List H} {b : Nat} {v : Value} (h : GQ X w fl L b v) :
    Calls Try.prog 20 #[.pointer (some ⟨b, 0, none⟩)] w fun e w' => e = .returned (.int .i64 fl) ∧ w = w' := by
  have c1 := h.c1
  clear h
  go_enter Try.func20, Try.ntmps20
  go_wp2
  go_ret
  exact ⟨rfl, rfl⟩
set_option maxRecDepth 100000 in
set_option maxHeartbeats 2000000 in
theorem messages_any {N : Nat → Prop} {w : World} {a : Option Addr} {n c : Nat} {l : List H} (hr : RdN cH N w a l) (hn : l.length = n) (hl : l.length ≤ 256) :
    Calls Try.prog 24 #[.slice a n c] w fun e w' => ∃ a' c', e = .returned (.slice a' n c') ∧ OwR cM 30 w' (.slice a' n c') (msgs l) ∧ (∀ k, (Value.slice a' n c').ownBlock = some k → w.heap.size ≤ k) ∧ Below w.heap.size w w' := by
  subst hn
  have HR : Hid (RdN cH N w a l) := hr
  clear hr
  go_enter Try.func24, Try.ntmps24
  go_wp2
  go_loopw [3, 8] (fun s3 s8 wr => ∃ (i : Nat) (ka : Option Addr) (kc : Nat), s8 = .int .i64 i ∧ i ≤ l.length ∧ s3 = .slice ka i kc ∧ Hid (OwR cM 30 wr (.slice ka i kc) (msgs (l.take i))) ∧ Hid (∀ k, (Value.slice ka i kc).ownBlock = some k → w.heap.size ≤ k) ∧ Hid (Below w.heap.size w wr)) (fun _ s8 _ => l.length - (intOf s8).toNat)
  case atStart => exact ⟨0, none, 0, rfl, Nat.zero_le _, rfl, (OwR.nil cM _ _ : OwR cM 30 w (.slice none 0 0) []), (fun k e => by simp [Value.ownBlock] at e : ∀ k, (Value.slice none 0 0).ownBlock = some k → w.heap.size ≤ k), Below.refl _ _⟩
  case round =>
    obtain ⟨i, ka, kc, rfl, hi, rfl, HO, HN, HB⟩ := hrel
    by_cases hlt : i < l.length
    · have hlt' : (i : Int) < (l.length : Int) := by omega
      obtain ⟨x, hx⟩ : ∃ x, nth cH l i = x := ⟨_, rfl⟩
      obtain ⟨g, off, rfl, hg, hgN, x0, x1, x2, x3, x4, x5, x6, x7, x8⟩ := (HR.out.below HB.out).held hlt hx
      have hX : msgs (l.take i) ++ [x.2] = msgs (l.take (i + 1)) := by
        unfold msgs
        rw [List.take_add_one, List.map_append, List.getElem?_eq_getElem hlt]
        rw [nth_get hlt] at hx
        simp [hx]
      obtain ⟨Y, hXe⟩ : ∃ Y, Y = msgs (l.take (i + 1)) := ⟨_, rfl⟩
      rw [← hXe] at hX
      have HX : Hid (msgs (l.take i) ++ [x.2] = Y) := hX
      have HL : Hid (Y.length = i + 1) := by rw [hXe]; show (msgs (l.take (i + 1))).length = i + 1; rw [msgs_len, List.length_take]; omega
      have HXE : Hid (Y = msgs (l.take (i + 1))) := hXe
      obtain ⟨⟨y1, y2, y3⟩, ⟨y4, y5, y6⟩, y7, y8, y9⟩ := x
      clear hX hx hXe
      have HB2 : Hid (∀ o1 o2, Below w.heap.size w ((wr.alloc o1).alloc o2)) := fun o1 o2 => Below.on HB.out (Below.on (al _ _) (al _ _))
      go_wp2_with (at_builtin; refine wpList_append_R tyM (fun _ => True) _ rfl (.tmp 12) (.tmp 15) rfl _ _ _ (msgs (l.take i)) [((y4, y5, y6), y7, y8, y9)] rfl rfl (HO.out.below (Below.on (al _ _) (al _ _))) (RdN.newAt cM _ _ _ _ _ (by simp) rfl trivial) (by simp [msgs]; omega) (by simp) Y HX.out ?_; intro a' c' w2 ho hm; have HO2 : Hid (OwR cM 30 w2 (.slice a' Y.length c') Y) := ho; have HB3 : Hid (Below w.heap.size w w2) := (HB2.out _ _).trans (hm.fr.below (HB2.out _ _).size HN.out); have HN2 : Hid (∀ k, (Value.slice a' Y.length c').ownBlock = some k → w.heap.size ≤ k) := (fun k e => new_ge (HB2.out _ _).size HN.out hm e); clear ho hm)
      go_roundw
      case rel =>
        refine ⟨i + 1, a', c', by go_num, by omega, by rw [HL.out], ?_, ?_, HB3.out⟩
        · have h1 : OwR cM 30 w2 (.slice a' Y.length c') Y := HO2.out
          rw [HL.out, HXE.out] at h1
          exact h1
        · have h1 : ∀ k, (Value.slice a' Y.length c').ownBlock = some k → w.heap.size ≤ k := HN2.out
          rw [HL.out] at h1
          exact h1
      case measure => simp [intOf]; omega
    · obtain rfl : i = l.length := by omega
      go_wp2
      go_ret
      refine ⟨_, _, rfl, ?_, HN.out, HB.out⟩
      have := HO.out
      rwa [List.take_of_length_le (Nat.le_refl _)] at this
theorem held_any {X : Nat → Prop} {w : World} {fl : Int} {L : List H} {b : Nat} {v : Value} (h : GQ X w fl L b v) :
    Calls Try.prog 21 #[.pointer (some ⟨b, 0, none⟩)] w fun e w' => ∃ a c, e = .returned (.slice a L.length c) ∧ OwR cM 30 w' (.slice a L.length c) (msgs L) ∧ (∀ k, (Value.slice a L.length c).ownBlock = some k → w.heap.size ≤ k) ∧ Below w.heap.size w w' := by
  have c0 := h.c0
  obtain ⟨a, c, rfl, hr⟩ := h.row.rd (N := fun _ => True) (fun _ _ => trivial)
  have C := messages_any (c := c) hr rfl h.cap
  generalize L.length = n at C c0 ⊢
  clear h hr
  go_enter Try.func21, Try.ntmps21
  go_wp2_with (go_at_call 24; refine C.mono ?_; rintro e w' ⟨a', c', rfl, h1, h2, h3⟩; have H1 : Hid (OwR cM 30 w' (.slice a' n c') (msgs L)) := h1; have H2 : Hid (∀ k, (Value.slice a' n c').ownBlock = some k → w.heap.size ≤ k) := h2; have H3 : Hid (Below w.heap.size w w') := h3; clear h1 h2 h3 C)
  go_ret
  exact ⟨_, _, rfl, H1.out, H2.out, H3.out⟩
/-- Two rows that are made since w. -/
structure Tg (w W : World) (va vb : Value) (A B : List H) : Prop where
  ra : OwR cH 56 W va A
  rb : OwR cH 56 W vb B
  na : ∀ k, va.ownBlock = some k → w.heap.size ≤ k
  nb : ∀ k, vb.ownBlock = some k → w.heap.size ≤ k
  ne : ∀ k, va.ownBlock = some k → vb.ownBlock ≠ some k
  bel : Below w.heap.size w W
theorem Tg.start (w : World) : Tg w w (.slice none 0 0) (.slice none 0 0) [] [] := ⟨OwR.nil _ _ _, OwR.nil _ _ _, fun k e => by simp [Value.ownBlock] at e, fun k e => by simp [Value.ownBlock] at e, fun k e => by simp [Value.ownBlock] at e, Below.refl _ _⟩
theorem Tg.on {w W W2 : World} {va vb : Value} {A B : List H} (h : Tg w W va vb A B) (hb : Below W.heap.size W W2) : Tg w W2 va vb A B := ⟨h.ra.below hb, h.rb.below hb, h.na, h.nb, h.ne, Below.on h.bel hb⟩
theorem Tg.flip {w W : World} {va vb : Value} {A B : List H} (h : Tg w W va vb A B) : Tg w W vb va B A := ⟨h.rb, h.ra, h.nb, h.na, fun k e f => h.ne k f e, h.bel⟩
theorem Tg.app {w W w2 : World} {va vb va' : Value} {A B A' : List H} (h : Tg w W va vb A B) (ho : OwR cH 56 w2 va' A') (hm : Mw (fun k => va.ownBlock = some k) (fun k => va'.ownBlock = some k) W w2) : Tg w w2 va' vb A' B :=
  ⟨ho, h.rb.keep hm.fr (fun g e s => h.ne g s e), fun k e => new_ge h.bel.size h.na hm e, h.nb, fun k e f => h.ne k (hm.new k (h.rb.lt f) e) f, h.bel.trans (hm.fr.below h.bel.size h.na)⟩
/-- What is told of a function that tells those that go. -/
def Goes (w : World) (g : Nat) (bs : Array Value) (p : H → Bool) : Prop :=
  (∀ args w, (callFunc g args).run Try.prog w = .ok (.enter g args) w) ∧ ∀ W, Below w.heap.size w W → ∀ x : H, Calls Try.prog g (#[hv x] ++ bs) W fun e w' => e = .returned (.bool (p x)) ∧ Below W.heap.size W w'
theorem filter_snoc {p : H → Bool} {l : List H} {i : Nat} {x : H} (hi : i < l.length) (hx : nth cH l i = x) : (l.take (i + 1)).filter p = if p x = true then (l.take i).filter p ++ [x] else (l.take i).filter p := by
  rw [List.take_add_one, List.filter_append, List.getElem?_eq_getElem hi]
  rw [nth_get hi] at hx
  rw [hx]
  cases h : p x <;> simp [h]
set_option maxRecDepth 100000 in
set_option maxHeartbeats 4000000 in
theorem parted_any {X : Nat → Prop} {w : World} {fl : Int} {L : List H} {b : Nat} {v : Value} (h : GQ X w fl L b v) {g : Nat} {bs : Array Value} {p : H → Bool} (hg : Goes w g bs p) :
    Calls Try.prog 25 #[.pointer (some ⟨b, 0, none⟩), .func (.func g) #[] bs] w fun e w' => ∃ a n c v', e = .returned (.slice a n c) ∧ OwR cH 56 w' (.slice a n c) (L.filter p) ∧ (∀ k, (Value.slice a n c).ownBlock = some k → w.heap.size ≤ k ∧ ¬ D b v' k) ∧ GQ X w' fl (L.filter (fun x => !p x)) b v' ∧ Mw (D b v) (D b v') w w' := by
  have c0 := h.c0
  have HP : Hid (GQ X w fl L b v) := h
  obtain ⟨a, c, rfl, hr⟩ := h.row.rd (N := fun _ => True) (fun _ _ => trivial)
  obtain ⟨eg, hG⟩ := hg
  have HG : Aside _ := hG
  have HR : Hid (RdN cH (fun _ => True) w a L) := hr
  have hcap := h.cap
  have hbl := h.lt
  clear h hG hr
  go_enter Try.func25, Try.ntmps25
  go_wp2
  go_loopw [5, 6, 14] (fun s5 s6 s14 wr => ∃ (i : Nat) (ga sa : Option Addr) (gn gc sn sc : Nat) (A B : List H), s14 = .int .i64 i ∧ i ≤ L.length ∧ s5 = .slice ga gn gc ∧ s6 = .slice sa sn sc ∧ Hid (Tg w wr (.slice ga gn gc) (.slice sa sn sc) A B) ∧ Hid (A = (L.take i).filter p ∧ B = (L.take i).filter (fun x => !p x))) (fun _ _ s14 _ => L.length - (intOf s14).toNat)
  case atStart => exact ⟨0, none, none, 0, 0, 0, 0, [], [], rfl, Nat.zero_le _, rfl, rfl, Tg.start w, (⟨rfl, rfl⟩ : ([] : List H) = (L.take 0).filter p ∧ ([] : List H) = (L.take 0).filter (fun x => !p x))⟩
  case round =>
    obtain ⟨i, ga, sa, gn, gc, sn, sc, A, B, rfl, hi, rfl, rfl, HT, HE⟩ := hrel
    by_cases hlt : i < L.length
    · have hlt' : (i : Int) < (L.length : Int) := by omega
      obtain ⟨x, hx⟩ : ∃ x, nth cH L i = x := ⟨_, rfl⟩
      obtain ⟨rb, off, rfl, hgb, hgN, x0, x1, x2, x3, x4, x5, x6, x7, x8⟩ := (HR.out.below HT.out.bel).held hlt hx
      have HA : Hid (A.length ≤ 256 ∧ B.length ≤ 256) := by
        show _ ∧ _
        rw [HE.out.1, HE.out.2]
        have h1 := List.length_filter_le p (L.take i)
        have h2 := List.length_filter_le (fun x => !p x) (L.take i)
        rw [List.length_take] at h1 h2
        omega
      have e1 := filter_snoc (p := p) hlt hx
      have e2 := filter_snoc (p := fun x => !p x) hlt hx
      rw [← HE.out.1] at e1
      rw [← HE.out.2] at e2
      cases hp : p x
      · rw [hp] at e1 e2
        simp only [Bool.false_eq_true, if_false, Bool.not_false, if_true] at e1 e2
        have HGX : Aside (∀ W, Below w.heap.size w W → Calls Try.prog g (#[hv x] ++ bs) W fun e w' => e = .returned (.bool false) ∧ Below W.heap.size W w') := fun W hW => by
          have := HG.out W hW x
          rw [hp] at this
          exact this
        obtain ⟨Y, hY⟩ : ∃ Y, B ++ [x] = Y := ⟨_, rfl⟩
        have HE2 : Hid (A = (L.take (i + 1)).filter p ∧ Y = (L.take (i + 1)).filter (fun x => !p x)) := ⟨e1.symm, by rw [e2, hY]⟩
        have HY : Hid (B ++ [x] = Y) := hY
        have HBX : Hid (Tg w (wr.alloc (.cells (hcs x) 56)) (.slice ga gn gc) (.slice sa sn sc) A B) := HT.out.on (al _ _)
        have HD : Hid (∀ w2, Below (wr.alloc (.cells (hcs x) 56)).heap.size (wr.alloc (.cells (hcs x) 56)) w2 → ∀ j, w2.cell? ⟨wr.heap.size, j, none⟩ = (hcs x)[j]?) := fun w2 hb j => (hb.cell (p := ⟨wr.heap.size, j, none⟩) (by simp)).trans (cellB (newB _ _) j)
        obtain ⟨⟨y1, y2, y3⟩, ⟨y4, y5, y6⟩, y7, y8, y9⟩ := x
        clear e1 e2 hp hx hY
        go_wp2_with (first
          | (go_at_fn g; refine (HGX.out _ (Hid.out HBX).bel).mono ?_; rintro e w2 ⟨rfl, hb⟩; have HT2 : Hid (Tg w w2 (.slice ga gn gc) (.slice sa sn sc) A B) := (Hid.out HBX).on hb; have d0 := (Hid.out HD) _ hb 0; have d1 := (Hid.out HD) _ hb 1; have d2 := (Hid.out HD) _ hb 2; have d3 := (Hid.out HD) _ hb 3; have d4 := (Hid.out HD) _ hb 4; have d5 := (Hid.out HD) _ hb 5; have d6 := (Hid.out HD) _ hb 6; have d7 := (Hid.out HD) _ hb 7; have d8 := (Hid.out HD) _ hb 8; simp only [List.getElem?_toArray, List.getElem?_cons_zero, List.getElem?_cons_succ] at d0 d1 d2 d3 d4 d5 d6 d7 d8; clear hb)
          | (at_builtin; refine wpList_append_R tyH (fun _ => True) _ rfl (.tmp 25) (.tmp 27) rfl (.slice sa sn sc) _ _ B [((y1, y2, y3), (y4, y5, y6), y7, y8, y9)] rfl rfl ((Hid.out HT2).on (al _ _)).rb (RdN.newAt cH _ _ _ _ _ (by simp) rfl trivial) (by have := HA.out; omega) (by simp) Y HY.out ?_; intro a' c' w3 ho hm; have HT3 : Hid (Tg w w3 (.slice ga gn gc) (.slice a' Y.length c') A Y) := ((((Hid.out HT2).on (al _ _)).flip).app ho hm).flip; clear ho hm))
        go_roundw
        case rel => exact ⟨i + 1, ga, a', gn, gc, Y.length, c', A, Y, by go_num, by omega, rfl, rfl, HT3.out, HE2.out⟩
        case measure => simp [intOf]; omega
      · rw [hp] at e1 e2
        simp only [Bool.false_eq_true, if_false, Bool.not_true, if_true] at e1 e2
        have HGX : Aside (∀ W, Below w.heap.size w W → Calls Try.prog g (#[hv x] ++ bs) W fun e w' => e = .returned (.bool true) ∧ Below W.heap.size W w') := fun W hW => by
          have := HG.out W hW x
          rw [hp] at this
          exact this
        obtain ⟨Y, hY⟩ : ∃ Y, A ++ [x] = Y := ⟨_, rfl⟩
        have HE2 : Hid (Y = (L.take (i + 1)).filter p ∧ B = (L.take (i + 1)).filter (fun x => !p x)) := ⟨by rw [e1, hY], e2.symm⟩
        have HY : Hid (A ++ [x] = Y) := hY
        have HBX : Hid (Tg w (wr.alloc (.cells (hcs x) 56)) (.slice ga gn gc) (.slice sa sn sc) A B) := HT.out.on (al _ _)
        have HD : Hid (∀ w2, Below (wr.alloc (.cells (hcs x) 56)).heap.size (wr.alloc (.cells (hcs x) 56)) w2 → ∀ j, w2.cell? ⟨wr.heap.size, j, none⟩ = (hcs x)[j]?) := fun w2 hb j => (hb.cell (p := ⟨wr.heap.size, j, none⟩) (by simp)).trans (cellB (newB _ _) j)
        obtain ⟨⟨y1, y2, y3⟩, ⟨y4, y5, y6⟩, y7, y8, y9⟩ := x
        clear e1 e2 hp hx hY
        go_wp2_with (first
          | (go_at_fn g; refine (HGX.out _ (Hid.out HBX).bel).mono ?_; rintro e w2 ⟨rfl, hb⟩; have HT2 : Hid (Tg w w2 (.slice ga gn gc) (.slice sa sn sc) A B) := (Hid.out HBX).on hb; have d0 := (Hid.out HD) _ hb 0; have d1 := (Hid.out HD) _ hb 1; have d2 := (Hid.out HD) _ hb 2; have d3 := (Hid.out HD) _ hb 3; have d4 := (Hid.out HD) _ hb 4; have d5 := (Hid.out HD) _ hb 5; have d6 := (Hid.out HD) _ hb 6; have d7 := (Hid.out HD) _ hb 7; have d8 := (Hid.out HD) _ hb 8; simp only [List.getElem?_toArray, List.getElem?_cons_zero, List.getElem?_cons_succ] at d0 d1 d2 d3 d4 d5 d6 d7 d8; clear hb)
          | (at_builtin; refine wpList_append_R tyH (fun _ => True) _ rfl (.tmp 21) (.tmp 23) rfl (.slice ga gn gc) _ _ A [((y1, y2, y3), (y4, y5, y6), y7, y8, y9)] rfl rfl ((Hid.out HT2).on (al _ _)).ra (RdN.newAt cH _ _ _ _ _ (by simp) rfl trivial) (by have := HA.out; omega) (by simp) Y HY.out ?_; intro a' c' w3 ho hm; have HT3 : Hid (Tg w w3 (.slice a' Y.length c') (.slice sa sn sc) Y B) := ((Hid.out HT2).on (al _ _)).app ho hm; clear ho hm))
        go_roundw
        case rel => exact ⟨i + 1, a', sa, Y.length, c', sn, sc, Y, B, by go_num, by omega, rfl, rfl, HT3.out, HE2.out⟩
        case measure => simp [intOf]; omega
    · obtain rfl : i = L.length := by omega
      have HPW := HP.out.below HT.out.bel
      have d0 := HPW.c0
      have df := HPW.froz 0
      clear HPW
      go_wp2
      go_ret
      have hT := HT.out
      have hE := HE.out
      rw [List.take_of_length_le (Nat.le_refl _)] at hE
      have hm : Mw (fun k => (Value.slice a L.length c).ownBlock = some k) (fun k => (Value.slice sa sn sc).ownBlock = some k) w wr := ⟨Fr.of_below hT.bel, fun k hk e => by have := hT.nb k e; omega⟩
      obtain ⟨g1, g2⟩ := HP.out.put hm hT.rb (by rw [hE.2]; exact Nat.le_trans (List.length_filter_le _ _) hcap)
      refine ⟨ga, gn, gc, _, rfl, ?_, fun k e => ⟨hT.na k e, fun d => ?_⟩, ?_, g2⟩
      · rw [← hE.1]
        exact hT.ra.keep ((Fr.refl (fun k => k = b) _).setCell _ _ (Or.inl rfl)) (fun k e s => by have := hT.na k e; omega)
      · rcases d with d | d
        · have := hT.na k e
          omega
        · exact hT.ne k e d
      · rw [← hE.2]
        exact g1
end Go.Proofs.Ytpkemgpnpadkfaa
