/- Joined: the texts that follow, each with its own sentence. -/
import Derived.Test.YtiaopafkfadmkaaGreatZVc
import Derived.Test.YtiaopafkfadmkaaGreatZIt
import Derived.Test.YtiaopafkfadmkaaGreatZGg
set_option linter.unusedVariables false
set_option maxRecDepth 100000
namespace Go.Proofs.YtiaopafkfadmkaaGreat.V
open Go.RowKit Go.Shelf
def Grw {α : Type} (C : B.Cd α) (T : TypeId) (w W : World) (v : Value) (l : List α) : Prop := B.OwR C T W v l ∧ (∀ k, v.ownBlock = some k → w.heap.size ≤ k) ∧ Below w.heap.size w W
theorem Grw.on {α : Type} {C : B.Cd α} {T : TypeId} {w W W' : World} {v : Value} {l : List α} (h : Grw C T w W v l) (hb : Below W.heap.size W W') : Grw C T w W' v l := ⟨h.1.below hb, h.2.1, h.2.2.trans (hb.mono h.2.2.size)⟩
theorem Grw.app {α : Type} {C : B.Cd α} {T : TypeId} {w W W' : World} {v v' : Value} {l l' : List α} (h : Grw C T w W v l) (ho : B.OwR C T W' v' l') (hm : Mw (fun k => v.ownBlock = some k) (fun k => v'.ownBlock = some k) W W') : Grw C T w W' v' l' :=
 ⟨ho, fun k e => by
  rcases Nat.lt_or_ge k W.heap.size with g | g
  ·exact h.2.1 k (hm.new k g e)
  ·exact Nat.le_trans h.2.2.size g, h.2.2.trans (hm.fr.below h.2.2.size h.2.1)⟩
def itm (k : Int) (l : List Mg) : List G.It := l.map (fun o => (k, o, 0))
theorem itm_len (k : Int) (l : List Mg) : (itm k l).length = l.length := by simp [itm]
theorem fil_snoc {p : Mg → Bool} {l : List Mg} {i : Nat} {x : Mg} (hi : i < l.length) (hx : B.nth B.cM l i = x) : (l.take (i + 1)).filter p = if p x = true then (l.take i).filter p ++ [x] else (l.take i).filter p := by
 rw [B.nth_get hi] at hx
 rw [List.take_succ_eq_append_getElem hi, List.filter_append, hx]
 cases h : p x <;> simp [h]
theorem fil_len (p : Mg → Bool) (l : List Mg) (i : Nat) : ((l.take i).filter p).length ≤ l.length := by
 have h1 := List.length_filter_le p (l.take i)
 rw [List.length_take] at h1
 omega
theorem box6 (w : World) (m : Mg) (T : TypeId) : (w.alloc (.cells #[.int .i64 m.1.1, .int .i64 m.1.2.1, .int .i64 m.1.2.2, .int .i64 m.2.1, .int .i64 m.2.2.1, .int .i64 m.2.2.2] T)).heap[w.heap.size]? = some (.cells #[.int .i64 m.1.1, .int .i64 m.1.2.1, .int .i64 m.1.2.2, .int .i64 m.2.1, .int .i64 m.2.2.1, .int .i64 m.2.2.2] T (0, 0)) := G.newB _ _
set_option maxHeartbeats 4000000 in
theorem nitems {w0 : World} {D : Wd} {f : Nat} {x : X} {gf : Int} {Z : Ad} {F : Nat → Nat → Prop} {v : Value} {w : World} (h : WM w0 D f x gf Z F v w) (kk : Int) {N : Nat → Prop} {a : Option Addr} {n c : Nat} {l : List Mg} (hr : B.RdN B.cM N w a l) (hn : l.length = n) (hl : n ≤ 1000) (hd : ∀ o ∈ l, 0 ≤ o.2.1 ∧ o.2.1 < (D.fs.length : Int)) :
  Calls Tryz.prog 68 #[.pointer (some ⟨Z.nb, 0, none⟩), .int .i64 kk, .slice a n c] w fun e w' => ∃ a' n' c', e = .returned (.slice a' n' c') ∧ Grw G.cI 41 w w' (.slice a' n' c') (itm kk (l.filter (fe D f).op)) := by
 obtain ⟨p, hp⟩ : ∃ p, (fe D f).op = p := ⟨_, rfl⟩
 have hpk : ∀ o : Mg, p o = decide (kdD D o.2.1 = 1) := fun o => by rw [← hp]; rfl
 rw [hp]
 have HK : Hid (∀ W, Below w.heap.size w W → ∀ j : Int, 0 ≤ j → j < (D.fs.length : Int) → Calls Tryz.prog 102 #[.pointer (some ⟨Z.nb, 0, none⟩), .int .i64 j] W fun e w' => e = .returned (.int .i64 (kdD D j)) ∧ W = w') := fun W hW j h0 h1 => nkind (h.below hW) j h0 h1
 have HR : Hid (B.RdN B.cM N w a l) := hr
 have HN : Hid (l.length = n) := hn
 have HD : Hid (∀ o ∈ l, 0 ≤ o.2.1 ∧ o.2.1 < (D.fs.length : Int)) := hd
 have HPK : Hid (∀ o : Mg, p o = decide (kdD D o.2.1 = 1)) := hpk
 clear h hr hn hd hp hpk
 go_enter Tryz.func68, Tryz.ntmps68
 go_wp2
 go_loopw [7, 12] (fun s7 s12 wr => ∃ (i : Nat) (ga : Option Addr) (gn gc : Nat), s12 = .int .i64 i ∧ i ≤ n ∧ s7 = .slice ga gn gc ∧ Hid (Grw G.cI 41 w wr (.slice ga gn gc) (itm kk ((l.take i).filter p)))) (fun _ s12 _ => n - (intOf s12).toNat)
 case atStart => exact ⟨0, none, 0, 0, rfl, Nat.zero_le _, rfl, (⟨B.OwR.nil _ _ _, fun k e => by simp [Value.ownBlock] at e, Below.refl _ _⟩ : Grw G.cI 41 w w (.slice none 0 0) (itm kk ((l.take 0).filter p)))⟩
 case round =>
  obtain ⟨i, ga, gn, gc, rfl, hi, rfl, HG⟩ := hrel
  by_cases hlt : i < n
  ·have hlt' : (i : Int) < (n : Int) := by omega
   have hil : i < l.length := by rw [HN.out]; exact hlt
   obtain ⟨o, ho⟩ : ∃ o, B.nth B.cM l i = o := ⟨_, rfl⟩
   obtain ⟨b1, o1, rfl, l1, _, u0, u1, u2, u3, u4, u5⟩ := (HR.out.below HG.out.2.2).msg hil ho
   have hod := HD.out o (ho ▸ B.nth_mem hil)
   have hs := fil_snoc (p := p) hil ho
   have hlen := fil_len p l i
   rw [HN.out] at hlen
   have HL : Hid ((itm kk ((l.take i).filter p)).length ≤ 1000) := by show _ ≤ 1000; rw [itm_len]; omega
   obtain ⟨L, hL⟩ : ∃ L, itm kk ((l.take i).filter p) = L := ⟨_, rfl⟩
   rw [hL] at HG HL
   have HK2 := HK.out (wr.alloc (.cells #[.int .i64 o.1.1, .int .i64 o.1.2.1, .int .i64 o.1.2.2, .int .i64 o.2.1, .int .i64 o.2.2.1, .int .i64 o.2.2.2] 39)) (HG.out.2.2.trans ((B.al _ _).mono HG.out.2.2.size)) o.2.1 hod.1 hod.2
   have hpo := HPK.out o
   obtain ⟨kd, hkd⟩ : ∃ kd, kdD D o.2.1 = kd := ⟨_, rfl⟩
   rw [hkd] at HK2 hpo
   by_cases h1 : kd = 1
   ·rw [hpo, if_pos (by simpa using h1)] at hs
    have hX : L ++ [(kk, o, 0)] = itm kk ((l.take (i + 1)).filter p) := by rw [hs, ← hL]; simp [itm]
    obtain ⟨Y, hY⟩ : ∃ Y, itm kk ((l.take (i + 1)).filter p) = Y := ⟨_, rfl⟩
    rw [hY] at hX
    have HX : Hid (L ++ [(kk, o, 0)] = Y) := hX
    have HY : Hid (itm kk ((l.take (i + 1)).filter p) = Y) := hY
    obtain ⟨⟨y1, y2, y3⟩, y4, y5, y6⟩ := o
    have HG2 : Hid (∀ ob1 ob2, Grw G.cI 41 w ((wr.alloc ob1).alloc ob2) (.slice ga gn gc) L) := fun ob1 ob2 => HG.out.on (B.Below.on (B.al _ _) (B.al _ _))
    subst h1
    clear hX hY hs hL ho hod hpo hkd hlen
    dsimp only at u0 u1 u2 u3 u4 u5 HK2
    go_wp2_with (first
     | (go_at_call 102; refine HK2.mono ?_; rintro e w2 ⟨rfl, rfl⟩)
     | (at_builtin; refine B.wpList_append_R G.tyI (fun _ => True) _ rfl (.tmp 21) (.tmp 25) rfl (.slice ga gn gc) _ _ L [(kk, ((y1, y2, y3), y4, y5, y6), 0)] rfl rfl (Hid.out HG2 _ _).1 (B.RdN.newAt G.cI _ _ _ _ _ (by simp) rfl trivial) (by have := HL.out; omega) (by simp) Y HX.out ?_; intro a' c' w3 ho hm; have HG3 : Hid (Grw G.cI 41 w w3 (.slice a' Y.length c') Y) := (Hid.out HG2 _ _).app ho hm; clear ho hm))
    go_roundw
    case rel => exact ⟨i + 1, a', Y.length, c', by go_num, by omega, rfl, by rw [HY.out]; exact HG3⟩
    case measure => simp [intOf]; omega
   ·rw [hpo, if_neg (by simpa using h1)] at hs
    have HY : Hid (itm kk ((l.take (i + 1)).filter p) = L) := by rw [hs]; exact hL
    have HG2 : Hid (∀ ob1, Grw G.cI 41 w (wr.alloc ob1) (.slice ga gn gc) L) := fun ob1 => HG.out.on (B.al _ _)
    have h1' : (kd == 1) = false := by simpa using h1
    obtain ⟨⟨y1, y2, y3⟩, y4, y5, y6⟩ := o
    clear hs hL ho hod hpo hkd hlen
    dsimp only at u0 u1 u2 u3 u4 u5 HK2
    go_wp2_with (go_at_call 102; refine HK2.mono ?_; rintro e w2 ⟨rfl, rfl⟩)
    go_roundw
    case rel => exact ⟨i + 1, ga, gn, gc, by go_num, by omega, rfl, by rw [HY.out]; exact HG2.out _⟩
    case measure => simp [intOf]; omega
  ·obtain rfl : i = n := by omega
   have e : l.take i = l := List.take_of_length_le (by rw [HN.out]; exact Nat.le_refl _)
   rw [e] at HG
   clear e
   go_wp2
   go_ret
   exact ⟨_, _, _, rfl, HG.out⟩
abbrev gX (x : X) (g : List Hg) : X := { x with nd := { x.nd with g := g } }
def hol (p : Mg → Bool) (k : Kg) (l : List Mg) : List Hg := (l.filter (fun o => !p o)).map (fun o => (k, o))
theorem WM.held {w0 : World} {D : Wd} {f : Nat} {x : X} {gf : Int} {Z : Ad} {F : Nat → Nat → Prop} {v : Value} {W : World} (h : WM w0 D f x gf Z F v W) (k : Kg) (hk : gf ≤ k.1) (hl : x.nd.g.length ≤ 255) (o : Mg) :
  Calls Tryz.prog 118 #[.pointer (some ⟨Z.gb, 0, none⟩), B.kv k, B.mv o] W fun e w' => ∃ F', e = .returned (.int .i64 0) ∧ WM w0 D f (gX x (x.nd.g ++ [(k, o)])) gf Z F' v w' ∧ Mw (tot F) (tot F') W w' := by
 obtain ⟨h1, vg, h2, h3⟩ := h.ga
 refine (G.hold_any h2 (k, o)).mono fun e w' ⟨v', he, hq, hm⟩ => ?_
 have hE : G.holdE gf x.nd.g (k, o) = 0 := by
  unfold G.holdE
  rw [if_neg (by show ¬ k.1 < gf; omega), if_neg (by omega)]
 have hL : G.holdL gf x.nd.g (k, o) = x.nd.g ++ [(k, o)] := by
  unfold G.holdL
  rw [if_pos hE]
 rw [hE] at he
 rw [hL] at hq
 obtain ⟨g1, g2⟩ := GT.after h1 h3 hq hm
 obtain ⟨F', r1, r2, _⟩ := h.gate g1 g2
 exact ⟨F', he, r1, r2⟩
set_option maxHeartbeats 4000000 in
theorem nhold {w0 : World} {D : Wd} {f : Nat} {x : X} {gf : Int} {Z : Ad} {F : Nat → Nat → Prop} {v : Value} {w : World} (h : WM w0 D f x gf Z F v w) (h01 : ∀ j, kdD D j = 0 ∨ kdD D j = 1) (k : Kg) {N : Nat → Prop} {a : Option Addr} {n c : Nat} {l : List Mg} (hr : B.RdN B.cM N w a l) (hN : ∀ b, N b → ¬ tot F b) (hn : l.length = n) (hk : gf ≤ k.1) (hl : x.nd.g.length + n ≤ 255) (hd : ∀ o ∈ l, 0 ≤ o.2.1 ∧ o.2.1 < (D.fs.length : Int)) :
  Calls Tryz.prog 67 #[.pointer (some ⟨Z.nb, 0, none⟩), B.kv k, .slice a n c] w fun e w' => ∃ F', e = .returned (.tuple #[]) ∧ WM w0 D f (gX x (x.nd.g ++ hol (fe D f).op k l)) gf Z F' v w' ∧ Mw (tot F) (tot F') w w' := by
 have mixed : Tryz.prog.follows .mixedOrders = true := by kernel_rfl
 obtain ⟨p, hp⟩ : ∃ p, (fe D f).op = p := ⟨_, rfl⟩
 have hpk : ∀ o : Mg, p o = decide (kdD D o.2.1 = 1) := fun o => by rw [← hp]; rfl
 rw [hp]
 obtain ⟨k1, k2, k3⟩ := k
 obtain ⟨W0, hW0⟩ : ∃ W0, W0 = w.alloc (.cells #[.int .i64 k1, .int .i64 k2, .int .i64 k3] 37) := ⟨_, rfl⟩
 have hb0 : Below w.heap.size w W0 := by rw [hW0]; exact B.al _ _
 have bx : W0.heap[w.heap.size]? = some (.cells #[.int .i64 k1, .int .i64 k2, .int .i64 k3] 37 (0, 0)) := by rw [hW0]; exact G.newB _ _
 obtain ⟨q, hq⟩ : ∃ q, w.heap.size = q := ⟨_, rfl⟩
 have nq : ¬ tot F q := fun g => by have := h.lt _ g; omega
 rw [hq] at bx
 have lq : q < W0.heap.size := (Array.getElem?_eq_some_iff.1 bx).1
 have HQ : Hid (∀ W F', Mw (tot F) (tot F') W0 W → q < W.heap.size ∧ ¬ tot F' q ∧ W.heap[q]? = some (.cells #[.int .i64 k1, .int .i64 k2, .int .i64 k3] 37 (0, 0))) := fun W F' hm => by
  obtain ⟨g1, g2, g3⟩ := hm.stay lq nq
  exact ⟨g3, g2, g1.trans bx⟩
 have HM0 : Hid (Mw (tot F) (tot F) w W0) := B.Mw.below hb0
 have HW0 : Hid (WM w0 D f (gX x (x.nd.g ++ hol p (k1, k2, k3) (l.take 0))) gf Z F v W0) := by
  have e : x.nd.g ++ hol p (k1, k2, k3) (l.take 0) = x.nd.g := by simp [hol]
  show WM _ _ _ (gX x _) _ _ _ _ _
  rw [e]
  exact h.below hb0
 have HR : Hid (B.RdN B.cM N W0 a l) := hr.below hb0
 have HNN : Hid (∀ b, N b → ¬ tot F b) := hN
 have HN : Hid (l.length = n) := hn
 have HD : Hid (∀ o ∈ l, 0 ≤ o.2.1 ∧ o.2.1 < (D.fs.length : Int)) := hd
 have HPK : Hid (∀ o : Mg, p o = decide (kdD D o.2.1 = 1)) := hpk
 have H01 : Hid (∀ j, kdD D j = 0 ∨ kdD D j = 1) := h01
 have HGL : Hid (x.nd.g.length + n ≤ 255) := hl
 have hn255 : n ≤ 255 := by omega
 have hkk : gf ≤ k1 := hk
 clear h hr hn hd hp hpk hN nq bx hb0 h01 hk hl
 go_enter Tryz.func67, Tryz.ntmps67
 go_wp2_with fail
 rw [← hW0]
 try simp only [hq]
 clear hW0 hq
 go_loopw [10] (fun s10 wr => ∃ (i : Nat) (F1 : Nat → Nat → Prop), s10 = .int .i64 i ∧ i ≤ n ∧ Hid (WM w0 D f (gX x (x.nd.g ++ hol p (k1, k2, k3) (l.take i))) gf Z F1 v wr) ∧ Hid (Mw (tot F) (tot F1) W0 wr)) (fun s10 _ => n - (intOf s10).toNat)
 case atStart => exact ⟨0, F, rfl, Nat.zero_le _, HW0, B.Mw.refl _ _⟩
 case round =>
  obtain ⟨i, F1, rfl, hi, HWM, HM⟩ := hrel
  by_cases hlt : i < n
  ·have hlt' : (i : Int) < (n : Int) := by omega
   have hil : i < l.length := by rw [HN.out]; exact hlt
   obtain ⟨o, ho⟩ : ∃ o, B.nth B.cM l i = o := ⟨_, rfl⟩
   have hod := HD.out o (ho ▸ B.nth_mem hil)
   obtain ⟨b1, o1, rfl, l1, _, u0, u1, u2, u3, u4, u5⟩ := ((HR.out.keep HM.out.fr (fun b _ g => ⟨HNN.out b g, g⟩)) : B.RdN B.cM N wr a l).msg hil ho
   obtain ⟨W1, hW1⟩ : ∃ W1, W1 = wr.alloc (.cells #[.int .i64 o.1.1, .int .i64 o.1.2.1, .int .i64 o.1.2.2, .int .i64 o.2.1, .int .i64 o.2.2.1, .int .i64 o.2.2.2] 39) := ⟨_, rfl⟩
   have hb1 : Below wr.heap.size wr W1 := by rw [hW1]; exact B.al _ _
   have bm : W1.heap[wr.heap.size]? = some (.cells #[.int .i64 o.1.1, .int .i64 o.1.2.1, .int .i64 o.1.2.2, .int .i64 o.2.1, .int .i64 o.2.2.1, .int .i64 o.2.2.2] 39 (0, 0)) := by rw [hW1]; exact box6 wr o _
   have hwm := HWM.out.below hb1
   have nB : ¬ tot F1 wr.heap.size := fun g => by have := HWM.out.lt _ g; omega
   have HM1 : Hid (Mw (tot F) (tot F1) W0 W1) := HM.out.trans (B.Mw.below hb1)
   have HK2 := nkind hwm o.2.1 hod.1 hod.2
   have hs := fil_snoc (p := fun o => !p o) hil ho
   have hlen := fil_len (fun o => !p o) l i
   rw [HN.out] at hlen
   have hpo := HPK.out o
   have hkd01 := H01.out o.2.1
   obtain ⟨kd, hkd⟩ : ∃ kd, kdD D o.2.1 = kd := ⟨_, rfl⟩
   rw [hkd] at HK2 hpo hkd01
   by_cases h1 : kd = 0
   ·subst h1
    have hpo2 : p o = false := by rw [hpo]; decide
    rw [hpo2] at hs
    simp only [Bool.not_false, if_true] at hs
    have hgl : (gX x (x.nd.g ++ hol p (k1, k2, k3) (l.take i))).nd.g.length ≤ 255 := by
     show (x.nd.g ++ hol p (k1, k2, k3) (l.take i)).length ≤ 255
     rw [List.length_append]
     have e : (hol p (k1, k2, k3) (l.take i)).length = ((l.take i).filter (fun o => !p o)).length := by simp [hol]
     have hle : ((l.take i).filter (fun o => !p o)).length ≤ i := Nat.le_trans (List.length_filter_le _ _) (by rw [List.length_take]; omega)
     have := HGL.out
     omega
    have CH := (hwm.below (below_drew W1)).held (k1, k2, k3) hkk hgl o
    have eg : (gX (gX x (x.nd.g ++ hol p (k1, k2, k3) (l.take i))) ((gX x (x.nd.g ++ hol p (k1, k2, k3) (l.take i))).nd.g ++ [((k1, k2, k3), o)])) = gX x (x.nd.g ++ hol p (k1, k2, k3) (l.take (i + 1))) := by
     show gX x ((x.nd.g ++ hol p (k1, k2, k3) (l.take i)) ++ [((k1, k2, k3), o)]) = _
     unfold hol
     rw [hs, List.map_append, List.append_assoc]
     rfl
    rw [eg] at CH
    have n8 := hwm.cells.2.2.2.2.2.2.2.2.1
    have hm1 : Mw (tot F1) (tot F1) W1 W1.drew := B.Mw.below (below_drew W1)
    obtain ⟨y, hy⟩ : ∃ y, wr.heap.size = y := ⟨_, rfl⟩
    rw [hy] at bm nB
    have ly : y < W1.heap.size := (Array.getElem?_eq_some_iff.1 bm).1
    have HCH : Hid (Calls Tryz.prog 118 #[.pointer (some ⟨Z.gb, 0, none⟩), .agg #[.int .i64 k1, .int .i64 k2, .int .i64 k3], B.mv o] W1.drew fun e w' => ∃ F2, e = .returned (.int .i64 0) ∧ WM w0 D f (gX x (x.nd.g ++ hol p (k1, k2, k3) (l.take (i + 1)))) gf Z F2 v w' ∧ Mw (tot F1) (tot F2) W1 w') := CH.mono fun e w' ⟨F2, h1, h2, h3⟩ => ⟨F2, h1, h2, hm1.trans h3⟩
    obtain ⟨lqW, nqW, bqW⟩ := HQ.out W1 F1 HM1.out
    have HKP : Hid (∀ w' F2, WM w0 D f (gX x (x.nd.g ++ hol p (k1, k2, k3) (l.take (i + 1)))) gf Z F2 v w' → Mw (tot F1) (tot F2) W1 w' → w'.cell? ⟨Z.nb, 8, none⟩ = some (.pointer (some ⟨Z.gb, 0, none⟩)) ∧ (w'.cell? ⟨q, 0, none⟩ = some (.int .i64 k1) ∧ w'.cell? ⟨q, 1, none⟩ = some (.int .i64 k2) ∧ w'.cell? ⟨q, 2, none⟩ = some (.int .i64 k3)) ∧ w'.cell? ⟨y, 0, none⟩ = some (.int .i64 o.1.1) ∧ w'.cell? ⟨y, 1, none⟩ = some (.int .i64 o.1.2.1) ∧ w'.cell? ⟨y, 2, none⟩ = some (.int .i64 o.1.2.2) ∧ w'.cell? ⟨y, 3, none⟩ = some (.int .i64 o.2.1) ∧ w'.cell? ⟨y, 4, none⟩ = some (.int .i64 o.2.2.1) ∧ w'.cell? ⟨y, 5, none⟩ = some (.int .i64 o.2.2.2)) := fun w' F2 g1 g2 => by
     have e1 := (g2.stay lqW nqW).1.trans bqW
     have e2 := (g2.stay ly nB).1.trans bm
     exact ⟨g1.cells.2.2.2.2.2.2.2.2.1, ⟨cellB e1 0, cellB e1 1, cellB e1 2⟩, cellB e2 0, cellB e2 1, cellB e2 2, cellB e2 3, cellB e2 4, cellB e2 5⟩
    have q0 : W1.cell? ⟨q, 0, none⟩ = some (.int .i64 k1) := cellB bqW 0
    have q1 : W1.cell? ⟨q, 1, none⟩ = some (.int .i64 k2) := cellB bqW 1
    have q2 : W1.cell? ⟨q, 2, none⟩ = some (.int .i64 k3) := cellB bqW 2
    have b0 : W1.cell? ⟨y, 0, none⟩ = some (.int .i64 o.1.1) := cellB bm 0
    have b1' : W1.cell? ⟨y, 1, none⟩ = some (.int .i64 o.1.2.1) := cellB bm 1
    have b2 : W1.cell? ⟨y, 2, none⟩ = some (.int .i64 o.1.2.2) := cellB bm 2
    have b3 : W1.cell? ⟨y, 3, none⟩ = some (.int .i64 o.2.1) := cellB bm 3
    have b4 : W1.cell? ⟨y, 4, none⟩ = some (.int .i64 o.2.2.1) := cellB bm 4
    have b5 : W1.cell? ⟨y, 5, none⟩ = some (.int .i64 o.2.2.2) := cellB bm 5
    obtain ⟨⟨y1, y2, y3⟩, y4, y5, y6⟩ := o
    clear hs ho hod hpo hkd hlen hpo2 hgl CH eg hwm bm bqW hb1 hm1 hkd01
    dsimp only at u0 u1 u2 u3 u4 u5 HK2 hW1 HCH HKP b0 b1' b2 b3 b4 b5
    rw [hW1] at HK2
    go_wp2_with (go_at_call 102; refine HK2.mono ?_; rintro e w2 ⟨rfl, rfl⟩)
    rw [← hW1]
    try simp only [hy]
    clear hW1 hy
    go_region_held3 (fun w' => w'.cell? ⟨Z.nb, 8, none⟩ = some (.pointer (some ⟨Z.gb, 0, none⟩)) ∧ (w'.cell? ⟨q, 0, none⟩ = some (.int .i64 k1) ∧ w'.cell? ⟨q, 1, none⟩ = some (.int .i64 k2) ∧ w'.cell? ⟨q, 2, none⟩ = some (.int .i64 k3)) ∧ w'.cell? ⟨y, 0, none⟩ = some (.int .i64 y1) ∧ w'.cell? ⟨y, 1, none⟩ = some (.int .i64 y2) ∧ w'.cell? ⟨y, 2, none⟩ = some (.int .i64 y3) ∧ w'.cell? ⟨y, 3, none⟩ = some (.int .i64 y4) ∧ w'.cell? ⟨y, 4, none⟩ = some (.int .i64 y5) ∧ w'.cell? ⟨y, 5, none⟩ = some (.int .i64 y6)) (first | (go_keep; done) | exact Hid.out KEEP) (first
     | (go_at_call 118; refine (Hid.out HCH).mono ?_; rintro e w3 ⟨F2, rfl, h3, m3⟩; have KEEP : Hid _ := Hid.out HKP w3 F2 h3 m3; have H3 : Hid _ := And.intro h3 m3; clear h3 m3 HCH))
    go_wp2
    go_roundw
    case rel => exact ⟨i + 1, F2, by go_num, by omega, H3.out.1, HM1.out.trans H3.out.2⟩
    case measure => simp [intOf]; omega
   ·have hpo2 : p o = true := by
     rw [hpo]
     rcases hkd01 with g | g
     ·exact absurd g h1
     ·simpa using g
    rw [hpo2] at hs
    simp only [Bool.not_true, Bool.false_eq_true, if_false] at hs
    have eg : hol p (k1, k2, k3) (l.take (i + 1)) = hol p (k1, k2, k3) (l.take i) := by
     unfold hol
     rw [hs]
    have HWM2 : Hid (WM w0 D f (gX x (x.nd.g ++ hol p (k1, k2, k3) (l.take (i + 1)))) gf Z F1 v W1) := by
     show WM _ _ _ _ _ _ _ _ _
     rw [eg]
     exact hwm
    have h1' : (kd == 0) = false := by simpa using h1
    obtain ⟨⟨y1, y2, y3⟩, y4, y5, y6⟩ := o
    clear hs ho hod hpo hkd hlen hpo2 eg hwm bm hb1 hkd01
    dsimp only at u0 u1 u2 u3 u4 u5 HK2 hW1
    rw [hW1] at HK2
    go_wp2_with (go_at_call 102; refine HK2.mono ?_; rintro e w2 ⟨rfl, rfl⟩)
    rw [← hW1]
    go_roundw
    case rel => exact ⟨i + 1, F1, by go_num, by omega, HWM2, HM1⟩
    case measure => simp [intOf]; omega
  ·obtain rfl : i = n := by omega
   have e : l.take i = l := List.take_of_length_le (by rw [HN.out]; exact Nat.le_refl _)
   rw [e] at HWM
   clear e
   go_wp2
   go_end0
   exact ⟨F1, rfl, HWM.out, HM0.out.trans HM.out⟩
end Go.Proofs.YtiaopafkfadmkaaGreat.V
