/- Joined: the texts that follow, each with its own sentence. -/
import Derived.Test.YtiaopafkfadmkaaGreatZGa
import Derived.DeepKeys4
import Derived.Shelf.SlSortCmp.KitK
set_option linter.unusedVariables false
set_option maxRecDepth 100000
namespace Go.Proofs.YtiaopafkfadmkaaGreat.G
open Go.Proofs.YtiaopafkfadmkaaGreat.B
open Go.RowKit Go.Shelf Go.Sort
theorem new_any {X : Nat → Prop} (w : World) (hX : ∀ k, X k → k < w.heap.size) :
  Calls Tryz.prog 45 #[] w fun e w' => e = .returned (.pointer (some ⟨w.heap.size, 0, none⟩)) ∧ GQ X w' 0 [] w.heap.size (.slice none 0 0) ∧ Below w.heap.size w w' := by
 have HX : Aside _ := hX
 clear hX
 go_enter Tryz.func45, Tryz.ntmps45
 go_wp2
 go_ret
 have hB : Below w.heap.size w (w.alloc (.cells #[.slice none 0 0, .int .i64 0] 170)) := al _ _
 refine ⟨rfl, ⟨newB _ _, OwR.nil _ _ _, by simp [Value.ownBlock], fun e => by have := HX.out _ e; omega, fun k e => by simp [Value.ownBlock] at e, fun k e => Nat.lt_of_lt_of_le (HX.out k e) hB.size, by simp⟩, hB⟩
set_option maxHeartbeats 2000000 in
theorem messages_any {N : Nat → Prop} {w : World} {a : Option Addr} {n c : Nat} {l : List H} (hr : RdN cH N w a l) (hn : l.length = n) (hl : l.length ≤ 256) :
  Calls Tryz.prog 110 #[.slice a n c] w fun e w' => ∃ a' c', e = .returned (.slice a' n c') ∧ OwR cM 39 w' (.slice a' n c') (msgs l) ∧ (∀ k, (Value.slice a' n c').ownBlock = some k → w.heap.size ≤ k) ∧ Below w.heap.size w w' := by
 subst hn
 have HR : Hid (RdN cH N w a l) := hr
 clear hr
 go_enter Tryz.func110, Tryz.ntmps110
 go_wp2
 go_loopw [3, 8] (fun s3 s8 wr => ∃ (i : Nat) (ka : Option Addr) (kc : Nat), s8 = .int .i64 i ∧ i ≤ l.length ∧ s3 = .slice ka i kc ∧ Hid (OwR cM 39 wr (.slice ka i kc) (msgs (l.take i))) ∧ Hid (∀ k, (Value.slice ka i kc).ownBlock = some k → w.heap.size ≤ k) ∧ Hid (Below w.heap.size w wr)) (fun _ s8 _ => l.length - (intOf s8).toNat)
 case atStart => exact ⟨0, none, 0, rfl, Nat.zero_le _, rfl, (OwR.nil cM _ _ : OwR cM 39 w (.slice none 0 0) []), (fun k e => by simp [Value.ownBlock] at e : ∀ k, (Value.slice none 0 0).ownBlock = some k → w.heap.size ≤ k), Below.refl _ _⟩
 case round =>
  obtain ⟨i, ka, kc, rfl, hi, rfl, HO, HN, HB⟩ := hrel
  by_cases hlt : i < l.length
  ·have hlt' : (i : Int) < (l.length : Int) := by omega
   obtain ⟨x, hx⟩ : ∃ x, nth cH l i = x := ⟨_, rfl⟩
   obtain ⟨g, off, rfl, hg, hgN, x0, x1, x2, x3, x4, x5, x6, x7, x8⟩ := (HR.out.below HB.out).held hlt hx
   have hX : msgs (l.take i) ++ [x.2] = msgs (l.take (i + 1)) := by
    unfold msgs
    rw [List.take_add_one, List.map_append, List.getElem?_eq_getElem hlt]
    rw [nth_get hlt] at hx
    simp [hx]
   obtain ⟨Y, hXe⟩ : ∃ Y, Y = msgs (l.take (i + 1)) := ⟨_, rfl⟩
   rw [← hXe] at hX
   have HX : Hid (msgs (l.take i) ++ [x.2] = Y) := hX
   have HL : Hid (Y.length = i + 1) := by rw [hXe]; show (msgs (l.take (i + 1))).length = i + 1; rw [msgs_len, List.length_take]; omega
   have HXE : Hid (Y = msgs (l.take (i + 1))) := hXe
   obtain ⟨⟨y1, y2, y3⟩, ⟨y4, y5, y6⟩, y7, y8, y9⟩ := x
   clear hX hx hXe
   have HB2 : Hid (∀ o1 o2, Below w.heap.size w ((wr.alloc o1).alloc o2)) := fun o1 o2 => Below.on HB.out (Below.on (al _ _) (al _ _))
   go_wp2_with (at_builtin; refine wpList_append_R tyM (fun _ => True) _ rfl (.tmp 12) (.tmp 15) rfl _ _ _ (msgs (l.take i)) [((y4, y5, y6), y7, y8, y9)] rfl rfl (HO.out.below (Below.on (al _ _) (al _ _))) (RdN.newAt cM _ _ _ _ _ (by simp) rfl trivial) (by simp [msgs]; omega) (by simp) Y HX.out ?_; intro a' c' w2 ho hm; have HO2 : Hid (OwR cM 39 w2 (.slice a' Y.length c') Y) := ho; have HB3 : Hid (Below w.heap.size w w2) := (HB2.out _ _).trans (hm.fr.below (HB2.out _ _).size HN.out); have HN2 : Hid (∀ k, (Value.slice a' Y.length c').ownBlock = some k → w.heap.size ≤ k) := (fun k e => new_ge (HB2.out _ _).size HN.out hm e); clear ho hm)
   go_roundw
   case rel =>
    refine ⟨i + 1, a', c', by go_num, by omega, by rw [HL.out], ?_, ?_, HB3.out⟩
    ·have h1 : OwR cM 39 w2 (.slice a' Y.length c') Y := HO2.out
     rw [HL.out, HXE.out] at h1
     exact h1
    ·have h1 : ∀ k, (Value.slice a' Y.length c').ownBlock = some k → w.heap.size ≤ k := HN2.out
     rw [HL.out] at h1
     exact h1
   case measure => simp [intOf]; omega
  ·obtain rfl : i = l.length := by omega
   go_wp2
   go_ret
   refine ⟨_, _, rfl, ?_, HN.out, HB.out⟩
   have := HO.out
   rwa [List.take_of_length_le (Nat.le_refl _)] at this
theorem held_any {X : Nat → Prop} {w : World} {fl : Int} {L : List H} {b : Nat} {v : Value} (h : GQ X w fl L b v) :
  Calls Tryz.prog 61 #[.pointer (some ⟨b, 0, none⟩)] w fun e w' => ∃ a c, e = .returned (.slice a L.length c) ∧ OwR cM 39 w' (.slice a L.length c) (msgs L) ∧ (∀ k, (Value.slice a L.length c).ownBlock = some k → w.heap.size ≤ k) ∧ Below w.heap.size w w' := by
 have c0 := h.c0
 obtain ⟨a, c, rfl, hr⟩ := h.row.rd (N := fun _ => True) (fun _ _ => trivial)
 have C := messages_any (c := c) hr rfl h.cap
 generalize L.length = n at C c0 ⊢
 clear h hr
 go_enter Tryz.func61, Tryz.ntmps61
 go_wp2_with (go_at_call 110; refine C.mono ?_; rintro e w' ⟨a', c', rfl, h1, h2, h3⟩; have H1 : Hid (OwR cM 39 w' (.slice a' n c') (msgs L)) := h1; have H2 : Hid (∀ k, (Value.slice a' n c').ownBlock = some k → w.heap.size ≤ k) := h2; have H3 : Hid (Below w.heap.size w w') := h3; clear h1 h2 h3 C)
 go_ret
 exact ⟨_, _, rfl, H1.out, H2.out, H3.out⟩
structure Tg (w W : World) (va vb : Value) (A B : List H) : Prop where
 ra : OwR cH 189 W va A
 rb : OwR cH 189 W vb B
 na : ∀ k, va.ownBlock = some k → w.heap.size ≤ k
 nb : ∀ k, vb.ownBlock = some k → w.heap.size ≤ k
 ne : ∀ k, va.ownBlock = some k → vb.ownBlock ≠ some k
 bel : Below w.heap.size w W
theorem Tg.start (w : World) : Tg w w (.slice none 0 0) (.slice none 0 0) [] [] := ⟨OwR.nil _ _ _, OwR.nil _ _ _, fun k e => by simp [Value.ownBlock] at e, fun k e => by simp [Value.ownBlock] at e, fun k e => by simp [Value.ownBlock] at e, Below.refl _ _⟩
theorem Tg.on {w W W2 : World} {va vb : Value} {A B : List H} (h : Tg w W va vb A B) (hb : Below W.heap.size W W2) : Tg w W2 va vb A B := ⟨h.ra.below hb, h.rb.below hb, h.na, h.nb, h.ne, Below.on h.bel hb⟩
theorem Tg.flip {w W : World} {va vb : Value} {A B : List H} (h : Tg w W va vb A B) : Tg w W vb va B A := ⟨h.rb, h.ra, h.nb, h.na, fun k e f => h.ne k f e, h.bel⟩
theorem Tg.app {w W w2 : World} {va vb va' : Value} {A B A' : List H} (h : Tg w W va vb A B) (ho : OwR cH 189 w2 va' A') (hm : Mw (fun k => va.ownBlock = some k) (fun k => va'.ownBlock = some k) W w2) : Tg w w2 va' vb A' B :=
 ⟨ho, h.rb.keep hm.fr (fun g e s => h.ne g s e), fun k e => new_ge h.bel.size h.na hm e, h.nb, fun k e f => h.ne k (hm.new k (h.rb.lt f) e) f, h.bel.trans (hm.fr.below h.bel.size h.na)⟩
def Goes (w : World) (g : Nat) (bs : Array Value) (p : H → Bool) : Prop :=
 (∀ args w, (callFunc g args).run Tryz.prog w = .ok (.enter g args) w) ∧ ∀ W, Below w.heap.size w W → ∀ x : H, Calls Tryz.prog g (#[hv x] ++ bs) W fun e w' => e = .returned (.bool (p x)) ∧ Below W.heap.size W w'
theorem filter_snoc {p : H → Bool} {l : List H} {i : Nat} {x : H} (hi : i < l.length) (hx : nth cH l i = x) : (l.take (i + 1)).filter p = if p x = true then (l.take i).filter p ++ [x] else (l.take i).filter p := by
 rw [List.take_add_one, List.filter_append, List.getElem?_eq_getElem hi]
 rw [nth_get hi] at hx
 rw [hx]
 cases h : p x <;> simp [h]
set_option maxHeartbeats 4000000 in
theorem parted_any {X : Nat → Prop} {w : World} {fl : Int} {L : List H} {b : Nat} {v : Value} (h : GQ X w fl L b v) {g : Nat} {bs : Array Value} {p : H → Bool} (hg : Goes w g bs p) :
  Calls Tryz.prog 121 #[.pointer (some ⟨b, 0, none⟩), .func (.func g) #[] bs] w fun e w' => ∃ a n c v', e = .returned (.slice a n c) ∧ OwR cH 189 w' (.slice a n c) (L.filter p) ∧ (∀ k, (Value.slice a n c).ownBlock = some k → w.heap.size ≤ k ∧ ¬ D b v' k) ∧ GQ X w' fl (L.filter (fun x => !p x)) b v' ∧ Mw (D b v) (D b v') w w' := by
 have c0 := h.c0
 have HP : Hid (GQ X w fl L b v) := h
 obtain ⟨a, c, rfl, hr⟩ := h.row.rd (N := fun _ => True) (fun _ _ => trivial)
 obtain ⟨eg, hG⟩ := hg
 have HG : Aside _ := hG
 have HR : Hid (RdN cH (fun _ => True) w a L) := hr
 have hcap := h.cap
 have hbl := h.lt
 clear h hG hr
 go_enter Tryz.func121, Tryz.ntmps121
 go_wp2
 go_loopw [5, 6, 14] (fun s5 s6 s14 wr => ∃ (i : Nat) (ga sa : Option Addr) (gn gc sn sc : Nat) (A B : List H), s14 = .int .i64 i ∧ i ≤ L.length ∧ s5 = .slice ga gn gc ∧ s6 = .slice sa sn sc ∧ Hid (Tg w wr (.slice ga gn gc) (.slice sa sn sc) A B) ∧ Hid (A = (L.take i).filter p ∧ B = (L.take i).filter (fun x => !p x))) (fun _ _ s14 _ => L.length - (intOf s14).toNat)
 case atStart => exact ⟨0, none, none, 0, 0, 0, 0, [], [], rfl, Nat.zero_le _, rfl, rfl, Tg.start w, (⟨rfl, rfl⟩ : ([] : List H) = (L.take 0).filter p ∧ ([] : List H) = (L.take 0).filter (fun x => !p x))⟩
 case round =>
  obtain ⟨i, ga, sa, gn, gc, sn, sc, A, B, rfl, hi, rfl, rfl, HT, HE⟩ := hrel
  by_cases hlt : i < L.length
  ·have hlt' : (i : Int) < (L.length : Int) := by omega
   obtain ⟨x, hx⟩ : ∃ x, nth cH L i = x := ⟨_, rfl⟩
   obtain ⟨rb, off, rfl, hgb, hgN, x0, x1, x2, x3, x4, x5, x6, x7, x8⟩ := (HR.out.below HT.out.bel).held hlt hx
   have HA : Hid (A.length ≤ 256 ∧ B.length ≤ 256) := by
    show _ ∧ _
    rw [HE.out.1, HE.out.2]
    have h1 := List.length_filter_le p (L.take i)
    have h2 := List.length_filter_le (fun x => !p x) (L.take i)
    rw [List.length_take] at h1 h2
    omega
   have e1 := filter_snoc (p := p) hlt hx
   have e2 := filter_snoc (p := fun x => !p x) hlt hx
   rw [← HE.out.1] at e1
   rw [← HE.out.2] at e2
   cases hp : p x
   ·rw [hp] at e1 e2
    simp only [Bool.false_eq_true, if_false, Bool.not_false, if_true] at e1 e2
    have HGX : Aside (∀ W, Below w.heap.size w W → Calls Tryz.prog g (#[hv x] ++ bs) W fun e w' => e = .returned (.bool false) ∧ Below W.heap.size W w') := fun W hW => by
     have := HG.out W hW x
     rw [hp] at this
     exact this
    obtain ⟨Y, hY⟩ : ∃ Y, B ++ [x] = Y := ⟨_, rfl⟩
    have HE2 : Hid (A = (L.take (i + 1)).filter p ∧ Y = (L.take (i + 1)).filter (fun x => !p x)) := ⟨e1.symm, by rw [e2, hY]⟩
    have HY : Hid (B ++ [x] = Y) := hY
    have HBX : Hid (Tg w (wr.alloc (.cells (hcs x) 189)) (.slice ga gn gc) (.slice sa sn sc) A B) := HT.out.on (al _ _)
    have HD : Hid (∀ w2, Below (wr.alloc (.cells (hcs x) 189)).heap.size (wr.alloc (.cells (hcs x) 189)) w2 → ∀ j, w2.cell? ⟨wr.heap.size, j, none⟩ = (hcs x)[j]?) := fun w2 hb j => (hb.cell (p := ⟨wr.heap.size, j, none⟩) (by simp)).trans (cellB (newB _ _) j)
    obtain ⟨⟨y1, y2, y3⟩, ⟨y4, y5, y6⟩, y7, y8, y9⟩ := x
    clear e1 e2 hp hx hY
    go_wp2_with (first
     | (go_at_fn g; refine (HGX.out _ (Hid.out HBX).bel).mono ?_; rintro e w2 ⟨rfl, hb⟩; have HT2 : Hid (Tg w w2 (.slice ga gn gc) (.slice sa sn sc) A B) := (Hid.out HBX).on hb; have d0 := (Hid.out HD) _ hb 0; have d1 := (Hid.out HD) _ hb 1; have d2 := (Hid.out HD) _ hb 2; have d3 := (Hid.out HD) _ hb 3; have d4 := (Hid.out HD) _ hb 4; have d5 := (Hid.out HD) _ hb 5; have d6 := (Hid.out HD) _ hb 6; have d7 := (Hid.out HD) _ hb 7; have d8 := (Hid.out HD) _ hb 8; simp only [List.getElem?_toArray, List.getElem?_cons_zero, List.getElem?_cons_succ] at d0 d1 d2 d3 d4 d5 d6 d7 d8; clear hb)
     | (at_builtin; refine wpList_append_R tyH (fun _ => True) _ rfl (.tmp 25) (.tmp 27) rfl (.slice sa sn sc) _ _ B [((y1, y2, y3), (y4, y5, y6), y7, y8, y9)] rfl rfl ((Hid.out HT2).on (al _ _)).rb (RdN.newAt cH _ _ _ _ _ (by simp) rfl trivial) (by have := HA.out; omega) (by simp) Y HY.out ?_; intro a' c' w3 ho hm; have HT3 : Hid (Tg w w3 (.slice ga gn gc) (.slice a' Y.length c') A Y) := ((((Hid.out HT2).on (al _ _)).flip).app ho hm).flip; clear ho hm))
    go_roundw
    case rel => exact ⟨i + 1, ga, a', gn, gc, Y.length, c', A, Y, by go_num, by omega, rfl, rfl, HT3.out, HE2.out⟩
    case measure => simp [intOf]; omega
   ·rw [hp] at e1 e2
    simp only [Bool.false_eq_true, if_false, Bool.not_true, if_true] at e1 e2
    have HGX : Aside (∀ W, Below w.heap.size w W → Calls Tryz.prog g (#[hv x] ++ bs) W fun e w' => e = .returned (.bool true) ∧ Below W.heap.size W w') := fun W hW => by
     have := HG.out W hW x
     rw [hp] at this
     exact this
    obtain ⟨Y, hY⟩ : ∃ Y, A ++ [x] = Y := ⟨_, rfl⟩
    have HE2 : Hid (Y = (L.take (i + 1)).filter p ∧ B = (L.take (i + 1)).filter (fun x => !p x)) := ⟨by rw [e1, hY], e2.symm⟩
    have HY : Hid (A ++ [x] = Y) := hY
    have HBX : Hid (Tg w (wr.alloc (.cells (hcs x) 189)) (.slice ga gn gc) (.slice sa sn sc) A B) := HT.out.on (al _ _)
    have HD : Hid (∀ w2, Below (wr.alloc (.cells (hcs x) 189)).heap.size (wr.alloc (.cells (hcs x) 189)) w2 → ∀ j, w2.cell? ⟨wr.heap.size, j, none⟩ = (hcs x)[j]?) := fun w2 hb j => (hb.cell (p := ⟨wr.heap.size, j, none⟩) (by simp)).trans (cellB (newB _ _) j)
    obtain ⟨⟨y1, y2, y3⟩, ⟨y4, y5, y6⟩, y7, y8, y9⟩ := x
    clear e1 e2 hp hx hY
    go_wp2_with (first
     | (go_at_fn g; refine (HGX.out _ (Hid.out HBX).bel).mono ?_; rintro e w2 ⟨rfl, hb⟩; have HT2 : Hid (Tg w w2 (.slice ga gn gc) (.slice sa sn sc) A B) := (Hid.out HBX).on hb; have d0 := (Hid.out HD) _ hb 0; have d1 := (Hid.out HD) _ hb 1; have d2 := (Hid.out HD) _ hb 2; have d3 := (Hid.out HD) _ hb 3; have d4 := (Hid.out HD) _ hb 4; have d5 := (Hid.out HD) _ hb 5; have d6 := (Hid.out HD) _ hb 6; have d7 := (Hid.out HD) _ hb 7; have d8 := (Hid.out HD) _ hb 8; simp only [List.getElem?_toArray, List.getElem?_cons_zero, List.getElem?_cons_succ] at d0 d1 d2 d3 d4 d5 d6 d7 d8; clear hb)
     | (at_builtin; refine wpList_append_R tyH (fun _ => True) _ rfl (.tmp 21) (.tmp 23) rfl (.slice ga gn gc) _ _ A [((y1, y2, y3), (y4, y5, y6), y7, y8, y9)] rfl rfl ((Hid.out HT2).on (al _ _)).ra (RdN.newAt cH _ _ _ _ _ (by simp) rfl trivial) (by have := HA.out; omega) (by simp) Y HY.out ?_; intro a' c' w3 ho hm; have HT3 : Hid (Tg w w3 (.slice a' Y.length c') (.slice sa sn sc) Y B) := ((Hid.out HT2).on (al _ _)).app ho hm; clear ho hm))
    go_roundw
    case rel => exact ⟨i + 1, a', sa, Y.length, c', sn, sc, Y, B, by go_num, by omega, rfl, rfl, HT3.out, HE2.out⟩
    case measure => simp [intOf]; omega
  ·obtain rfl : i = L.length := by omega
   have HPW := HP.out.below HT.out.bel
   have d0 := HPW.c0
   have df := HPW.froz 0
   clear HPW
   go_wp2
   go_ret
   have hT := HT.out
   have hE := HE.out
   rw [List.take_of_length_le (Nat.le_refl _)] at hE
   have hm : Mw (fun k => (Value.slice a L.length c).ownBlock = some k) (fun k => (Value.slice sa sn sc).ownBlock = some k) w wr := ⟨Fr.of_below hT.bel, fun k hk e => by have := hT.nb k e; omega⟩
   obtain ⟨g1, g2⟩ := HP.out.put hm hT.rb (by rw [hE.2]; exact Nat.le_trans (List.length_filter_le _ _) hcap)
   refine ⟨ga, gn, gc, _, rfl, ?_, fun k e => ⟨hT.na k e, fun d => ?_⟩, ?_, g2⟩
   ·rw [← hE.1]
    exact hT.ra.keep ((Fr.refl (fun k => k = b) _).setCell _ _ (Or.inl rfl)) (fun k e s => by have := hT.na k e; omega)
   ·rcases d with d | d
    ·have := hT.na k e
     omega
    ·exact hT.ne k e d
   ·rw [← hE.2]
    exact g1
end Go.Proofs.YtiaopafkfadmkaaGreat.G
namespace Go.Proofs.YtiaopafkfadmkaaGreat.G
open Go.Proofs.YtiaopafkfadmkaaGreat.B
open Go.RowKit Go.Shelf Go.Sort
theorem equalK (n : Nat) (a1 a2 a3 b1 b2 b3 : Int) (w : World) : (Op.equalIn (n + 2) 37 (.agg #[.int .i64 a1, .int .i64 a2, .int .i64 a3]) (.agg #[.int .i64 b1, .int .i64 b2, .int .i64 b3])).run Tryz.prog w = .ok (decide (a1 = b1 ∧ a2 = b2 ∧ a3 = b3)) w := by
 have u3 := Tryz.underlying3
 have a3' := Tryz.isAgg3
 have z3 := Tryz.sizeOf3
 have hS : Tryz.prog.underlying 37 = some (.struct (Tryz.prog.fieldsOf 37)) := by kernel_rfl
 have hp : Tryz.prog.stoodInHeld 37 = false := by kernel_rfl
 rw [show n + 2 = (n + 1) + 1 from rfl, run_equalIn_agg w (n + 1) 37 _ _ hS hp]
 simp only [Program.fieldsOf, Tryz.underlying37]
 go_simp
 by_cases h1 : a1 = b1 <;> by_cases h2 : a2 = b2 <;> by_cases h3 : a3 = b3 <;> simp [h1, h2, h3]
theorem equalM (n : Nat) (a1 a2 a3 a4 a5 a6 b1 b2 b3 b4 b5 b6 : Int) (w : World) : (Op.equalIn (n + 3) 39 (.agg #[.int .i64 a1, .int .i64 a2, .int .i64 a3, .int .i64 a4, .int .i64 a5, .int .i64 a6]) (.agg #[.int .i64 b1, .int .i64 b2, .int .i64 b3, .int .i64 b4, .int .i64 b5, .int .i64 b6])).run Tryz.prog w = .ok (decide ((a1 = b1 ∧ a2 = b2 ∧ a3 = b3) ∧ a4 = b4 ∧ a5 = b5 ∧ a6 = b6)) w := by
 obtain ⟨r, hr⟩ : ∃ r, decide ((a1 = b1 ∧ a2 = b2 ∧ a3 = b3) ∧ a4 = b4 ∧ a5 = b5 ∧ a6 = b6) = r := ⟨_, rfl⟩
 rw [hr]
 have HR : Hid _ := hr
 clear hr
 have u3 := Tryz.underlying3
 have a3' := Tryz.isAgg3
 have z3 := Tryz.sizeOf3
 have aK := Tryz.isAgg37
 have zK := Tryz.sizeOf37
 have eK := equalK n a1 a2 a3 b1 b2 b3
 obtain ⟨d, hd⟩ : ∃ d, decide (a1 = b1 ∧ a2 = b2 ∧ a3 = b3) = d := ⟨_, rfl⟩
 rw [hd] at eK
 have HD : Hid _ := hd
 clear hd
 have hS : Tryz.prog.underlying 39 = some (.struct (Tryz.prog.fieldsOf 39)) := by kernel_rfl
 have hp : Tryz.prog.stoodInHeld 39 = false := by kernel_rfl
 rw [show n + 3 = (n + 2) + 1 from rfl, run_equalIn_agg w (n + 2) 39 _ _ hS hp]
 simp only [Program.fieldsOf, Tryz.underlying39]
 go_simp
 cases d
 ·have h0 := of_decide_eq_false HD.out
  have hr : r = false := by rw [← HR.out]; exact decide_eq_false (fun g => h0 g.1)
  rw [hr]
  simp
 ·obtain ⟨g1, g2, g3⟩ := of_decide_eq_true HD.out
  have hr := HR.out
  by_cases h1 : a4 = b4 <;> by_cases h2 : a5 = b5 <;> by_cases h3 : a6 = b6 <;> simp [g1, g2, g3, h1, h2, h3] at hr ⊢ <;> simp [← hr]
def sameK (a b : K) : Bool := decide (a = b)
theorem sameK_of (a b : K) : sameK a b = decide (a.1 = b.1 ∧ a.2.1 = b.2.1 ∧ a.2.2 = b.2.2) := by
 obtain ⟨a1, a2, a3⟩ := a
 obtain ⟨b1, b2, b3⟩ := b
 unfold sameK
 simp
theorem eqlK (a b : K) (w : World) : (binOp .eql 37 (kv a) (kv b)).run Tryz.prog w = .ok (.bool (sameK a b)) w := by
 rw [run_eql_struct, sameK_of]
 rw [show (10000 : Nat) = 9998 + 2 from rfl, equalK]
 rfl
theorem neqK (a b : K) (w : World) : (binOp .neq 37 (kv a) (kv b)).run Tryz.prog w = .ok (.bool (!sameK a b)) w := by
 rw [run_neq_struct, sameK_of]
 rw [show (10000 : Nat) = 9998 + 2 from rfl, equalK]
 rfl
def sameM (a b : M) : Bool := decide (a = b)
theorem sameM_of (a b : M) : sameM a b = decide ((a.1.1 = b.1.1 ∧ a.1.2.1 = b.1.2.1 ∧ a.1.2.2 = b.1.2.2) ∧ a.2.1 = b.2.1 ∧ a.2.2.1 = b.2.2.1 ∧ a.2.2.2 = b.2.2.2) := by
 obtain ⟨⟨a1, a2, a3⟩, a4, a5, a6⟩ := a
 obtain ⟨⟨b1, b2, b3⟩, b4, b5, b6⟩ := b
 unfold sameM
 simp
set_option maxHeartbeats 1000000 in
theorem drop_fn {w : World} {kb : Nat} (k : K) (hb : w.heap[kb]? = some (.cells #[.int .i64 k.1, .int .i64 k.2.1, .int .i64 k.2.2] 37 (0, 0))) : Goes w 225 #[.pointer (some ⟨kb, 0, none⟩)] (fun x => !befK k x) := by
 refine ⟨enters_of Tryz.func225 (by kernel_rfl) rfl, fun W hW x => ?_⟩
 obtain ⟨k1, k2, k3⟩ := k
 have hbW := (hW.block kb (Array.getElem?_eq_some_iff.1 hb).1).trans hb
 have c0 := cellB hbW 0
 have c1 := cellB hbW 1
 have c2 := cellB hbW 2
 have hlt : kb < W.heap.size := (Array.getElem?_eq_some_iff.1 hbW).1
 simp only [List.getElem?_toArray, List.getElem?_cons_zero, List.getElem?_cons_succ] at c0 c1 c2
 obtain ⟨⟨a1, a2, a3⟩, ⟨a4, a5, a6⟩, a7, a8, a9⟩ := x
 have hc := fun W => cmp_any (a1, a2, a3) (k1, k2, k3) W
 have hz : (!befK (k1, k2, k3) ((a1, a2, a3), (a4, a5, a6), a7, a8, a9)) = decide (0 ≤ kcmp (a1, a2, a3) (k1, k2, k3)) := by
  show (!decide (kcmp (a1, a2, a3) (k1, k2, k3) < 0)) = _
  rw [Bool.eq_iff_iff]
  simp
 show Calls Tryz.prog 225 #[hv ((a1, a2, a3), (a4, a5, a6), a7, a8, a9), .pointer (some ⟨kb, 0, none⟩)] W fun e w' => e = .returned (.bool (!befK (k1, k2, k3) ((a1, a2, a3), (a4, a5, a6), a7, a8, a9))) ∧ Below W.heap.size W w'
 rw [hz]
 generalize kcmp (a1, a2, a3) (k1, k2, k3) = r at hc ⊢
 clear hz hb hbW hW
 go_enter Tryz.func225, Tryz.ntmps225
 go_wp2_with (go_at_call 125; refine (hc _).mono ?_; rintro e w' ⟨rfl, q, os, rfl⟩)
 go_ret
 exact ⟨rfl, Below.on (al _ _) (below_grow _ _ _)⟩
set_option maxHeartbeats 1000000 in
theorem open_fn {w : World} {kb : Nat} (t : Int) (hb : w.heap[kb]? = some (.cells #[.int .i64 t] 3 (0, 0))) : Goes w 122 #[.pointer (some ⟨kb, 0, none⟩)] (low t) := by
 refine ⟨enters_of Tryz.func122 (by kernel_rfl) rfl, fun W hW x => ?_⟩
 have hbW := (hW.block kb (Array.getElem?_eq_some_iff.1 hb).1).trans hb
 have c0 := cellB hbW 0
 have hlt : kb < W.heap.size := (Array.getElem?_eq_some_iff.1 hbW).1
 simp only [List.getElem?_toArray, List.getElem?_cons_zero] at c0
 obtain ⟨⟨a1, a2, a3⟩, ⟨a4, a5, a6⟩, a7, a8, a9⟩ := x
 clear hb hbW hW
 show Calls Tryz.prog 122 #[hv ((a1, a2, a3), (a4, a5, a6), a7, a8, a9), .pointer (some ⟨kb, 0, none⟩)] W _
 go_enter Tryz.func122, Tryz.ntmps122
 go_wp2
 go_ret
 exact ⟨rfl, al _ _⟩
end Go.Proofs.YtiaopafkfadmkaaGreat.G
namespace Go.Proofs.YtiaopafkfadmkaaGreat.B.Stb
open Go.Sort
theorem arr_get {α : Type} [Inhabited α] {d : Array α} {A R : List α} {x : α} {i : Nat} (h : d.toList = A ++ x :: R) (hi : A.length = i) : d[i]! = x := by
 obtain ⟨l⟩ := d
 subst hi
 simp only at h
 subst h
 simp
theorem arr_at {α : Type} [Inhabited α] {d : Array α} {A B C : List α} {i : Nat} (h : d.toList = A ++ (B ++ C)) {a : Nat} (hA : A.length = a) (hi : i < B.length) : d[a + i]! = B[i]! := by
 have e : B = B.take i ++ B[i]! :: B.drop (i + 1) := by
  rw [getElem!_pos B i hi]
  simp
 have h2 : d.toList = (A ++ B.take i) ++ B[i]! :: (B.drop (i + 1) ++ C) := by
  rw [h]
  conv => lhs; rw [e]
  simp
 exact arr_get h2 (by simp; omega)
theorem swp_list {α : Type} [Inhabited α] {d : Array α} {A B C : List α} {x y : α} {i j : Nat} (h : d.toList = A ++ x :: (B ++ y :: C)) (hi : A.length = i) (hj : A.length + 1 + B.length = j) :
  (swp d i j).toList = A ++ y :: (B ++ x :: C) ∧ (swp d j i).toList = A ++ y :: (B ++ x :: C) := by
 have e1 : d[i]! = x := arr_get h hi
 have e2 : d[j]! = y := arr_get (A := A ++ x :: B) (R := C) (by rw [h]; simp) (by simp; omega)
 unfold swp
 rw [e1, e2]
 have s1 : ∀ (l : List α) (z u : α) (R : List α) (n : Nat), l.length = n → (l ++ z :: R).set n u = l ++ u :: R := fun l z u R n hn => by
  subst hn
  simp
 simp only [Array.toList_setIfInBounds, h]
 constructor
 ·rw [s1 A x y _ i hi]
  have := s1 (A ++ y :: B) y x C j (by simp; omega)
  simpa using this
 ·have := s1 (A ++ x :: B) y x C j (by simp; omega)
  simp only [List.append_assoc, List.cons_append] at this
  rw [this, s1 A x y _ i hi]
theorem drop_cons {α : Type} [Inhabited α] {l : List α} {i : Nat} (h : i < l.length) : l.drop i = l[i]! :: l.drop (i + 1) := by
 rw [getElem!_pos l i h]
 simp
theorem take_snoc {α : Type} [Inhabited α] {l : List α} {i : Nat} (h : i < l.length) : l.take (i + 1) = l.take i ++ [l[i]!] := by
 rw [getElem!_pos l i h]
 simp
def swr {α : Type} (A X B Y C : List α) (i : Nat) : List α := A ++ ((Y.take i ++ X.drop i) ++ (B ++ ((X.take i ++ Y.drop i) ++ C)))
theorem swr_zero {α : Type} (A X B Y C : List α) : swr A X B Y C 0 = A ++ (X ++ (B ++ (Y ++ C))) := by simp [swr]
theorem swr_end {α : Type} (A X B Y C : List α) {n : Nat} (hX : X.length = n) (hY : Y.length = n) : swr A X B Y C n = A ++ (Y ++ (B ++ (X ++ C))) := by
 subst hX
 simp [swr, List.take_of_length_le (Nat.le_of_eq hY), List.drop_of_length_le (Nat.le_of_eq hY)]
theorem swr_step {α : Type} [Inhabited α] {A X B Y C : List α} {d : Array α} {i n a b : Nat} (hX : X.length = n) (hY : Y.length = n) (hi : i < n) (hA : A.length = a) (hb : a + n + B.length = b) (h : d.toList = swr A X B Y C i) :
  (swp d (a + i) (b + i)).toList = swr A X B Y C (i + 1) := by
 have ex := drop_cons (l := X) (i := i) (by omega)
 have ey := drop_cons (l := Y) (i := i) (by omega)
 have h2 : d.toList = (A ++ Y.take i) ++ X[i]! :: ((X.drop (i + 1) ++ B ++ X.take i) ++ Y[i]! :: (Y.drop (i + 1) ++ C)) := by
  rw [h]
  unfold swr
  rw [ex, ey]
  simp
 rw [(swp_list h2 (by simp; omega) (by simp; omega)).1]
 unfold swr
 rw [take_snoc (l := X) (by omega), take_snoc (l := Y) (by omega)]
 simp
theorem up_step {α : Type} [Inhabited α] {A Y C : List α} {x : α} {d : Array α} {a q : Nat} (hA : A.length = a) (hq : q < Y.length) (h : d.toList = A ++ (Y.take q ++ x :: (Y.drop q ++ C))) :
  (swp d (a + q) (a + q + 1)).toList = A ++ (Y.take (q + 1) ++ x :: (Y.drop (q + 1) ++ C)) := by
 have h2 : d.toList = (A ++ Y.take q) ++ x :: ([] ++ Y[q]! :: (Y.drop (q + 1) ++ C)) := by
  rw [h, drop_cons hq]
  simp
 rw [(swp_list h2 (by simp; omega) (by simp; omega)).1, take_snoc hq]
 simp
theorem down_step {α : Type} [Inhabited α] {A X C : List α} {y : α} {d : Array α} {a q : Nat} (hA : A.length = a) (hq : q < X.length) (h : d.toList = A ++ (X.take (q + 1) ++ y :: (X.drop (q + 1) ++ C))) :
  (swp d (a + (q + 1)) (a + q)).toList = A ++ (X.take q ++ y :: (X.drop q ++ C)) := by
 have h2 : d.toList = (A ++ X.take q) ++ X[q]! :: ([] ++ y :: (X.drop (q + 1) ++ C)) := by
  rw [h, take_snoc hq]
  simp
 rw [(swp_list h2 (by simp; omega) (by simp; omega)).2, drop_cons hq]
 simp
theorem srt_at {α : Type} [Inhabited α] {le : α → α → Bool} (ht : Tot le) {l : List α} (h : Srt le l) {i j : Nat} (hij : i ≤ j) (hj : j < l.length) : le l[i]! l[j]! = true := by
 rw [getElem!_pos l i (by omega), getElem!_pos l j hj]
 rcases Nat.lt_or_ge i j with g | g
 ·exact List.pairwise_iff_getElem.1 h i j (by omega) hj g
 ·obtain rfl : i = j := by omega
  rcases ht.or l[i] l[i] with g | g <;> exact g
theorem mem_take_at {α : Type} [Inhabited α] {l : List α} {n : Nat} {x : α} (h : x ∈ l.take n) : ∃ i, i < n ∧ i < l.length ∧ x = l[i]! := by
 obtain ⟨i, hi, rfl⟩ := List.mem_iff_getElem.1 h
 rw [List.length_take] at hi
 refine ⟨i, by omega, by omega, ?_⟩
 rw [getElem!_pos l i (by omega)]
 simp
theorem mem_drop_at {α : Type} [Inhabited α] {l : List α} {n : Nat} {x : α} (h : x ∈ l.drop n) : ∃ i, n ≤ i ∧ i < l.length ∧ x = l[i]! := by
 obtain ⟨i, hi, rfl⟩ := List.mem_iff_getElem.1 h
 rw [List.length_drop] at hi
 refine ⟨n + i, by omega, by omega, ?_⟩
 rw [getElem!_pos l (n + i) (by omega)]
 simp
theorem merge_parts {α : Type} [Inhabited α] {le : α → α → Bool} (ht : Tot le) {X Y : List α} (hX : Srt le X) (hY : Srt le Y) {s t : Nat} (hs : s ≤ X.length) (htl : t ≤ Y.length)
  (h1 : s = 0 ∨ t = Y.length ∨ le X[s - 1]! Y[t]! = true) (h2 : s = X.length ∨ t = 0 ∨ le X[s]! Y[t - 1]! = false) :
  List.merge X Y le = List.merge (X.take s) (Y.take t) le ++ List.merge (X.drop s) (Y.drop t) le := by
 have h := merge_split le (X.drop s) (Y.drop t) _ (X.take s) (Y.take t) rfl (fun x hx y hy => by
  obtain ⟨i, hi, hi2, rfl⟩ := mem_take_at hx
  obtain ⟨j, hj, hj2, rfl⟩ := mem_drop_at hy
  rcases h1 with h1 | h1 | h1
  ·omega
  ·omega
  ·exact ht.tr _ _ _ (srt_at ht hX (show i ≤ s - 1 by omega) (by omega)) (ht.tr _ _ _ h1 (srt_at ht hY hj hj2))) (fun y hy x hx => by
  obtain ⟨i, hi, hi2, rfl⟩ := mem_take_at hy
  obtain ⟨j, hj, hj2, rfl⟩ := mem_drop_at hx
  rcases h2 with h2 | h2 | h2
  ·omega
  ·omega
  ·cases e : le X[j]! Y[i]!
   ·rfl
   ·have := ht.tr _ _ _ (ht.tr _ _ _ (srt_at ht hX hj hj2) e) (srt_at ht hY (show i ≤ t - 1 by omega) (by omega))
    rw [h2] at this
    cases this)
 rw [List.take_append_drop, List.take_append_drop] at h
 exact h
theorem merge_left {α : Type} [Inhabited α] {le : α → α → Bool} (ht : Tot le) {Y : List α} (hY : Srt le Y) (x : α) {p : Nat} (hp : p ≤ Y.length)
  (h1 : p = 0 ∨ le x Y[p - 1]! = false) (h2 : p = Y.length ∨ le x Y[p]! = true) : List.merge [x] Y le = Y.take p ++ x :: Y.drop p := by
 have h := merge_one_left le x (Y.take p) (Y.drop p) (fun y hy => by
  obtain ⟨i, hi, hi2, rfl⟩ := mem_take_at hy
  rcases h1 with h1 | h1
  ·omega
  ·cases e : le x Y[i]!
   ·rfl
   ·have := ht.tr _ _ _ e (srt_at ht hY (show i ≤ p - 1 by omega) (by omega))
    rw [h1] at this
    cases this) (fun y hy => by
  obtain ⟨j, hj, hj2, rfl⟩ := mem_drop_at hy
  rcases h2 with h2 | h2
  ·omega
  ·exact ht.tr _ _ _ h2 (srt_at ht hY hj hj2))
 rw [List.take_append_drop] at h
 exact h
theorem merge_right {α : Type} [Inhabited α] {le : α → α → Bool} (ht : Tot le) {X : List α} (hX : Srt le X) (y : α) {p : Nat} (hp : p ≤ X.length)
  (h1 : p = 0 ∨ le X[p - 1]! y = true) (h2 : p = X.length ∨ le X[p]! y = false) : List.merge X [y] le = X.take p ++ y :: X.drop p := by
 have h := merge_one_right le y (X.take p) (X.drop p) (fun x hx => by
  obtain ⟨i, hi, hi2, rfl⟩ := mem_take_at hx
  rcases h1 with h1 | h1
  ·omega
  ·exact ht.tr _ _ _ (srt_at ht hX (show i ≤ p - 1 by omega) (by omega)) h1) (fun x hx => by
  obtain ⟨j, hj, hj2, rfl⟩ := mem_drop_at hx
  rcases h2 with h2 | h2
  ·omega
  ·cases e : le X[j]! y
   ·rfl
   ·have := ht.tr _ _ _ (srt_at ht hX hj hj2) e
    rw [h2] at this
    cases this)
 rw [List.take_append_drop] at h
 exact h
theorem Srt.part {α : Type} {le : α → α → Bool} {A B : List α} (h : Srt le (A ++ B)) : Srt le A ∧ Srt le B := ⟨(List.pairwise_append.1 h).1, (List.pairwise_append.1 h).2.1⟩
theorem Srt.take {α : Type} {le : α → α → Bool} {A : List α} (h : Srt le A) (n : Nat) : Srt le (A.take n) := List.Pairwise.sublist (List.take_sublist n A) h
theorem Srt.drop {α : Type} {le : α → α → Bool} {A : List α} (h : Srt le A) (n : Nat) : Srt le (A.drop n) := List.Pairwise.sublist (List.drop_sublist n A) h
theorem ins_last {α : Type} {le : α → α → Bool} {s : List α} {x y : α} (h : le y x = false) : ins le (s ++ [y]) x = ins le s x ++ [y] := by
 induction s with
 | nil => simp [ins, h]
 | cons a r ih =>
  simp only [List.cons_append, ins]
  split
  ·rw [ih]; rfl
  ·rfl
theorem ins_end {α : Type} {le : α → α → Bool} : ∀ {s : List α} {x : α}, (∀ a ∈ s, le a x = true) → ins le s x = s ++ [x]
 | [], x, _ => rfl
 | a :: r, x, h => by
  simp [ins, h a (by simp), ins_end (fun b hb => h b (List.mem_cons_of_mem _ hb))]
theorem insInner_list {α : Type} [Inhabited α] {le lt : α → α → Bool} (ht : Tot le) (hlt : ∀ x y, lt x y = !le y x) {A : List α} {a : Nat} (hA : A.length = a) : ∀ (n : Nat) (S : List α) (x : α) (R : List α) (d : Array α), S.length = n → Srt le S → d.toList = A ++ (S ++ x :: R) →
  (insInner lt a (a + n) d).toList = A ++ (ins le S x ++ R)
 | 0, S, x, R, d, hn, hs, h => by
  obtain rfl : S = [] := List.length_eq_zero_iff.1 hn
  rw [insInner_stop _ _ _ _ (Or.inl (by omega)), h]
  rfl
 | n + 1, S, x, R, d, hn, hs, h => by
  obtain ⟨S', y, rfl⟩ : ∃ S' y, S = S' ++ [y] := ⟨S.dropLast, S.getLast (by intro e; simp [e] at hn), (List.dropLast_concat_getLast _).symm⟩
  have hn' : S'.length = n := by simpa using hn
  have h2 : d.toList = (A ++ S') ++ y :: ([] ++ x :: R) := by rw [h]; simp
  have e1 : d[a + (n + 1)]! = x := arr_get (A := A ++ (S' ++ [y])) (R := R) (by rw [h]; simp) (by simp; omega)
  have e2 : d[a + n]! = y := arr_get h2 (by simp; omega)
  obtain ⟨hs1, hs2⟩ := hs.part
  cases hc : le y x
  ·rw [insInner_go lt a (a + (n + 1)) d (by omega) (by rw [show a + (n + 1) - 1 = a + n by omega, e1, e2, hlt, hc]; rfl), show a + (n + 1) - 1 = a + n by omega,
    insInner_list ht hlt hA n S' x (y :: R) _ hn' hs1 (by rw [(swp_list h2 (by simp; omega) (by simp; omega)).2]; simp), ins_last hc]
   simp
  ·rw [insInner_stop _ _ _ _ (Or.inr (by rw [show a + (n + 1) - 1 = a + n by omega, e1, e2, hlt, hc]; rfl)), h, ins_end (fun z hz => ?_)]
   ·simp
   ·rcases List.mem_append.1 hz with g | g
    ·exact ht.tr _ _ _ ((List.pairwise_append.1 hs).2.2 z g y (by simp)) hc
    ·obtain rfl : z = y := by simpa using g
     exact hc
theorem insOuter_list {α : Type} [Inhabited α] {le lt : α → α → Bool} (ht : Tot le) (hlt : ∀ x y, lt x y = !le y x) {A : List α} {a : Nat} (hA : A.length = a) (C : List α) : ∀ (Q P : List α) (d : Array α) (i b : Nat), a + P.length = i → i + Q.length = b → d.toList = A ++ (isort le P ++ (Q ++ C)) →
  (insOuter lt a b i d).toList = A ++ (isort le (P ++ Q) ++ C)
 | [], P, d, i, b, hi, hb, h => by
  rw [insOuter_stop _ _ _ _ _ (by simp at hb; omega), h]
  simp
 | x :: Q, P, d, i, b, hi, hb, h => by
  have hl : (isort le P).length = P.length := isort_len P
  rw [insOuter_go _ _ _ _ _ (by simp at hb; omega)]
  have h1 := insInner_list ht hlt hA P.length (isort le P) x (Q ++ C) d hl (isort_srt ht P) (by rw [h]; simp)
  rw [hi] at h1
  have h2 := insOuter_list ht hlt hA C Q (P ++ [x]) (insInner lt a i d) (i + 1) b (by simp; omega) (by simp at hb; omega) (by rw [h1]; unfold isort; simp)
  rw [h2]
  simp
theorem insertionSort_list {α : Type} [Inhabited α] {le lt : α → α → Bool} (ht : Tot le) (hlt : ∀ x y, lt x y = !le y x) {A X C : List α} {a b : Nat} (hA : A.length = a) (hb : a + X.length = b) {d : Array α} (h : d.toList = A ++ (X ++ C)) :
  (insertionSort lt d a b).toList = A ++ (isort le X ++ C) := by
 unfold insertionSort
 cases X with
 | nil =>
  rw [insOuter_stop _ _ _ _ _ (by simp at hb; omega), h]
  rfl
 | cons x Q => exact insOuter_list ht hlt hA C Q [x] d (a + 1) b (by simp) (by simp at hb; omega) (by rw [h]; simp [isort, ins])
def bl {α : Type} (le : α → α → Bool) (s : Nat) : Nat → List α → List α
 | 0, l => []
 | c + 1, l => isort le (l.take s) ++ bl le s c (l.drop s)
theorem bl_nil {α : Type} (le : α → α → Bool) (s : Nat) : ∀ c, bl le s c ([] : List α) = []
 | 0 => rfl
 | c + 1 => by
  show isort le (([] : List α).take s) ++ bl le s c (([] : List α).drop s) = []
  simp [bl_nil le s c, isort]
theorem bl_snoc {α : Type} (le : α → α → Bool) (s : Nat) : ∀ (c : Nat) (l : List α), bl le s (c + 1) l = bl le s c l ++ isort le ((l.drop (s * c)).take s)
 | 0, l => by simp [bl]
 | c + 1, l => by
  show isort le (l.take s) ++ bl le s (c + 1) (l.drop s) = (isort le (l.take s) ++ bl le s c (l.drop s)) ++ _
  rw [bl_snoc le s c (l.drop s), List.append_assoc, List.drop_drop, show s + s * c = s * (c + 1) by rw [Nat.mul_add]; omega]
theorem bl_len {α : Type} (le : α → α → Bool) (s : Nat) : ∀ (c : Nat) (l : List α), s * c ≤ l.length → (bl le s c l).length = s * c
 | 0, l, h => by simp [bl]
 | c + 1, l, h => by
  have hm : s * (c + 1) = s * c + s := by rw [Nat.mul_add]; omega
  show (isort le (l.take s) ++ bl le s c (l.drop s)).length = _
  rw [List.length_append, isort_len, bl_len le s c (l.drop s) (by rw [List.length_drop]; omega), List.length_take]
  omega
theorem bl_end {α : Type} (le : α → α → Bool) (s : Nat) : ∀ (c : Nat) (l : List α), l.length ≤ s → l.length ≤ s * c → bl le s c l = isort le l
 | 0, l, h, g => by
  obtain rfl : l = [] := List.length_eq_zero_iff.1 (by omega)
  rfl
 | c + 1, l, h, g => by
  show isort le (l.take s) ++ bl le s c (l.drop s) = _
  rw [List.take_of_length_le h, List.drop_of_length_le h, bl_nil, List.append_nil]
theorem bl_two {α : Type} (le : α → α → Bool) (s c : Nat) (l : List α) (h0 : 0 < s) (h : s < l.length) (hc : l.length ≤ s * c) : ∃ c', c = c' + 2 ∧ bl le s c l = isort le (l.take s) ++ (isort le ((l.drop s).take s) ++ bl le s c' (l.drop (s + s))) := by
 match c, hc with
 | 0, hc => omega
 | 1, hc => omega
 | c' + 2, hc =>
  refine ⟨c', rfl, ?_⟩
  show isort le (l.take s) ++ (isort le ((l.drop s).take s) ++ bl le s c' ((l.drop s).drop s)) = _
  rw [List.drop_drop]
def I1 {α : Type} (le : α → α → Bool) (L : List α) (j : Nat) (D : List α) : Prop := D = bl le 20 j L ++ L.drop (20 * j)
def I2 {α : Type} (le : α → α → Bool) (L : List α) (s : Nat) (D : List α) : Prop := ∃ c, L.length ≤ s * c ∧ D = bl le s c L
def I3 {α : Type} (le : α → α → Bool) (L : List α) (s j : Nat) (D : List α) : Prop := ∃ c, L.length ≤ 2 * s * j + s * c ∧ D = bl le (2 * s) j L ++ bl le s c (L.drop (2 * s * j))
theorem I1.start {α : Type} (le : α → α → Bool) (L : List α) : I1 le L 0 L := by simp [I1, bl]
theorem I1.ins {α : Type} {le : α → α → Bool} {L D : List α} {j : Nat} (h : I1 le L j D) (hj : 20 * j + 20 ≤ L.length) : ∃ A X C, D = A ++ (X ++ C) ∧ A.length = 20 * j ∧ X.length = 20 ∧ I1 le L (j + 1) (A ++ (isort le X ++ C)) := by
 refine ⟨bl le 20 j L, (L.drop (20 * j)).take 20, L.drop (20 * j + 20), ?_, bl_len le 20 j L (by omega), by simp; omega, ?_⟩
 ·rw [h, ← List.drop_drop, List.take_append_drop]
 ·unfold I1
  rw [bl_snoc, List.append_assoc, show 20 * (j + 1) = 20 * j + 20 by omega]
theorem I1.last {α : Type} {le : α → α → Bool} {L D : List α} {j : Nat} (h : I1 le L j D) (hj : 20 * j ≤ L.length) (hj2 : L.length < 20 * j + 20) : ∃ A X C, D = A ++ (X ++ C) ∧ A.length = 20 * j ∧ 20 * j + X.length = L.length ∧ I2 le L 20 (A ++ (isort le X ++ C)) := by
 refine ⟨bl le 20 j L, L.drop (20 * j), [], by rw [h, List.append_nil], bl_len le 20 j L hj, by simp; omega, j + 1, by omega, ?_⟩
 rw [bl_snoc, List.append_nil, List.take_of_length_le (by simp; omega)]
theorem I2.start {α : Type} {le : α → α → Bool} {L D : List α} {s : Nat} (h : I2 le L s D) : I3 le L s 0 D := by
 obtain ⟨c, h1, rfl⟩ := h
 exact ⟨c, by simpa using h1, by simp [bl]⟩
theorem I3.mrg {α : Type} {le : α → α → Bool} (ht : Tot le) {L D : List α} {s j : Nat} (h : I3 le L s j D) (hs : 0 < s) (hj : 2 * s * j + 2 * s ≤ L.length) :
  ∃ A X Y C, D = A ++ (X ++ (Y ++ C)) ∧ A.length = 2 * s * j ∧ X.length = s ∧ Y.length = s ∧ Srt le X ∧ Srt le Y ∧ I3 le L s (j + 1) (A ++ (List.merge X Y le ++ C)) := by
 obtain ⟨c, h1, rfl⟩ := h
 have hl : (L.drop (2 * s * j)).length = L.length - 2 * s * j := by simp
 obtain ⟨c', rfl, e⟩ := bl_two le s c (L.drop (2 * s * j)) hs (by omega) (by omega)
 have hm : 2 * s * (j + 1) = 2 * s * j + (s + s) := by rw [Nat.mul_add]; omega
 refine ⟨bl le (2 * s) j L, _, _, _, by rw [e], bl_len le (2 * s) j L (by omega), by rw [isort_len]; simp; omega, by rw [isort_len]; simp; omega, isort_srt ht _, isort_srt ht _, c', ?_, ?_⟩
 ·rw [hm]
  have : s * (c' + 2) = s * c' + (s + s) := by rw [Nat.mul_add]; omega
  omega
 ·have e3 : (L.drop (2 * s * j)).take (2 * s) = (L.drop (2 * s * j)).take s ++ ((L.drop (2 * s * j)).drop s).take s := by
   generalize L.drop (2 * s * j) = Z
   rw [show 2 * s = s + s by omega, List.take_add]
  rw [← isort_append ht, bl_snoc, List.append_assoc, hm, e3, List.drop_drop (i := s + s)]
theorem I3.last {α : Type} {le : α → α → Bool} (ht : Tot le) {L D : List α} {s j : Nat} (h : I3 le L s j D) (hs : 0 < s) (hj : 2 * s * j + s < L.length) (hj2 : L.length < 2 * s * j + 2 * s) :
  ∃ A X Y C, D = A ++ (X ++ (Y ++ C)) ∧ A.length = 2 * s * j ∧ X.length = s ∧ 2 * s * j + s + Y.length = L.length ∧ Srt le X ∧ Srt le Y ∧ I2 le L (2 * s) (A ++ (List.merge X Y le ++ C)) := by
 obtain ⟨c, h1, rfl⟩ := h
 have hl : (L.drop (2 * s * j)).length = L.length - 2 * s * j := by simp
 obtain ⟨c', rfl, e⟩ := bl_two le s c (L.drop (2 * s * j)) hs (by omega) (by omega)
 have e2 : (L.drop (2 * s * j)).drop (s + s) = [] := List.drop_of_length_le (by omega)
 rw [e2, bl_nil] at e
 refine ⟨bl le (2 * s) j L, _, _, [], by rw [e], bl_len le (2 * s) j L (by omega), by rw [isort_len]; simp; omega, by rw [isort_len]; simp; omega, isort_srt ht _, isort_srt ht _, j + 1, ?_, ?_⟩
 ·rw [Nat.mul_add]; omega
 ·have e3 : (L.drop (2 * s * j)).take (2 * s) = (L.drop (2 * s * j)).take s ++ ((L.drop (2 * s * j)).drop s).take s := by
   generalize L.drop (2 * s * j) = Z
   rw [show 2 * s = s + s by omega, List.take_add]
  rw [← isort_append ht, bl_snoc, List.append_nil, e3]
theorem I3.done {α : Type} {le : α → α → Bool} {L D : List α} {s j : Nat} (h : I3 le L s j D) (hj : L.length ≤ 2 * s * j + s) (hj3 : 2 * s * j ≤ L.length) : I2 le L (2 * s) D := by
 obtain ⟨c, h1, rfl⟩ := h
 have hl : (L.drop (2 * s * j)).length = L.length - 2 * s * j := by simp
 refine ⟨j + 1, ?_, ?_⟩
 ·rw [Nat.mul_add]; omega
 ·rw [bl_snoc, bl_end le s c _ (by omega) (by omega), List.take_of_length_le (by omega)]
theorem I2.fin {α : Type} {le : α → α → Bool} {L D : List α} {s : Nat} (h : I2 le L s D) (hs : L.length ≤ s) : D = isort le L := by
 obtain ⟨c, h1, rfl⟩ := h
 exact bl_end le s c L hs h1
end Go.Proofs.YtiaopafkfadmkaaGreat.B.Stb
