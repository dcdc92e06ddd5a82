/- Joined: the texts that follow, each with its own sentence. -/
import Derived.Test.YtiaopafkfadmkaaGreatZVl
import Derived.Test.YtiaopafkfadmkaaGreatZAe
import Derived.Test.YtiaopafkfadmkaaGreatZVo
set_option linter.unusedVariables false
set_option maxRecDepth 100000
namespace Go.Proofs.YtiaopafkfadmkaaGreat.V
open Go.RowKit Go.Shelf
theorem WM.settle {w0 : World} {D : Wd} {f : Nat} {x : X} {gf : Int} {Z : Ad} {F : Nat → Nat → Prop} {v : Value} {W : World} (h : WM w0 D f x gf Z F v W) (t : Int) :
  Calls Tryz.prog 73 #[.pointer (some ⟨Z.pb, 0, none⟩), .int .i64 t] W fun e w' => ∃ a c F', e = .returned (.slice a (A.gonT t x.nd.p).length c) ∧ A.Gon (fun _ => True) w' a (A.gonT t x.nd.p) ∧ WM w0 D f { x with nd := { x.nd with p := x.nd.p.filter (fun e => !A.low t e) }, fl := max x.fl t } gf Z F' v w' ∧ Mw (tot F) (tot F') W w' := by
 obtain ⟨h1, v0, hpp⟩ := h.pa
 refine (A.settle_any hpp t).mono fun e w' ⟨a, c, v', he, hg, hp, hm⟩ => ?_
 obtain ⟨g1, g2⟩ := PT.after h1 hpp hp hm
 obtain ⟨F', r1, r2, r3, _⟩ := h.past g1 g2
 exact ⟨a, c, F', he, hg.keep (B.Fr.refl (fun _ => False) w') (fun b hb g => ⟨fun e => e, trivial⟩), r1, r2⟩
theorem WM.open {w0 : World} {D : Wd} {f : Nat} {x : X} {gf : Int} {Z : Ad} {F : Nat → Nat → Prop} {v : Value} {W : World} (h : WM w0 D f x gf Z F v W) (t : Int) :
  Calls Tryz.prog 74 #[.pointer (some ⟨Z.gb, 0, none⟩), .int .i64 t] W fun e w' => ∃ a n c F', e = .returned (.slice a n c) ∧ B.OwR B.cM 39 w' (.slice a n c) (G.openG t x.nd.g) ∧ (∀ k, (Value.slice a n c).ownBlock = some k → W.heap.size ≤ k ∧ ¬ tot F' k) ∧ WM w0 D f (gX x (x.nd.g.filter (fun e => !G.low t e))) (max gf t) Z F' v w' ∧ Mw (tot F) (tot F') W w' := by
 obtain ⟨h1, vg, h2, h3⟩ := h.ga
 refine (G.open_any h2 t).mono fun e w' ⟨a, n, c, v', he, ho, hk, hq, hm⟩ => ?_
 obtain ⟨g1, g2⟩ := GT.after h1 h3 hq hm
 obtain ⟨F', r1, r2, r3, r4⟩ := h.gate g1 g2
 refine ⟨a, n, c, F', he, ho, fun k e => ⟨(hk k e).1, fun g => ?_⟩, r1, r2⟩
 obtain ⟨j, g⟩ := g
 have hk1 := hk k e
 by_cases hj : j = 3
 ·subst hj
  rw [r3] at g
  rcases g with g | g
  ·have := h1 k g
   omega
  ·exact hk1.2 g
 ·rw [r4 j hj] at g
  have := h.lt k ⟨j, g⟩
  omega
def CPo (w0 : World) (D : Wd) (f : Nat) (Z : Ad) (F : Nat → Nat → Prop) (w : World) (x : X) (t : Int) : Ending → World → Prop := fun e w' =>
 ∃ F' v' a n c a2 n2 c2, e = .returned (.tuple #[.slice a n c, .slice a2 n2 c2, .int .i64 (commE (cf D f) x t)]) ∧ WM w0 D f (commX (cf D f) x t) (commX (cf D f) x t).fl Z F' v' w' ∧ Mw (tot F) (tot F') w w' ∧ Ro cD 49 F' w' (.slice a n c) (commD (cf D f) x t) ∧ (∀ k, (Value.slice a n c).ownBlock = some k → w.heap.size ≤ k) ∧ Ro B.cM 39 F' w' (.slice a2 n2 c2) (commM (cf D f) x t) ∧ ∀ k, (Value.slice a2 n2 c2).ownBlock = some k → w.heap.size ≤ k
theorem CPo.no {w0 : World} {D : Wd} {f : Nat} {Z : Ad} {F : Nat → Nat → Prop} {v : Value} {w w' : World} {x : X} {t E : Int} (hE : commE (cf D f) x t = E) (h0 : E ≠ 0) (h : WM w0 D f x x.fl Z F v w) (hb : Below w.heap.size w w') : CPo w0 D f Z F w x t (.returned (.tuple #[.slice none 0 0, .slice none 0 0, .int .i64 E])) w' := by
 have hX : commX (cf D f) x t = x := by unfold commX; rw [if_neg (by rw [hE]; exact h0)]
 have hD : commD (cf D f) x t = [] := by unfold commD; rw [if_neg (by rw [hE]; exact h0)]
 have hM : commM (cf D f) x t = [] := by unfold commM; rw [if_neg (by rw [hE]; exact h0)]
 refine ⟨F, v, none, 0, 0, none, 0, 0, by rw [hE], ?_, B.Mw.below hb, ⟨?_, fun k e => by simp [Value.ownBlock] at e⟩, fun k e => by simp [Value.ownBlock] at e, ⟨?_, fun k e => by simp [Value.ownBlock] at e⟩, fun k e => by simp [Value.ownBlock] at e⟩
 ·rw [hX]
  exact h.below hb
 ·rw [hD]
  exact B.OwR.nil _ _ _
 ·rw [hM]
  exact B.OwR.nil _ _ _
end Go.Proofs.YtiaopafkfadmkaaGreat.V
namespace Go.Proofs.YtiaopafkfadmkaaGreat.V
open Go.RowKit Go.Shelf
theorem dn_take {L : List En} {i : Nat} {e : En} (hi : i < L.length) (he : A.nthP L i = e) : (L.take (i + 1)).map dn = (L.take i).map dn ++ [dn e] := by
 rw [List.take_succ_eq_append_getElem hi, List.map_append]
 have : L[i] = e := by rw [← he]; simp [A.nthP, hi]
 rw [this]
 rfl
set_option maxHeartbeats 4000000 in
theorem ncommit {w0 : World} {D : Wd} {f : Nat} {x : X} {Z : Ad} {F : Nat → Nat → Prop} {v : Value} {w : World} (h : WM w0 D f x x.fl Z F v w) (t : Int) (hp : x.nd.p.length ≤ 1000) (hl : x.lg.length ≤ 10000)
  (HLo : ∀ W, Below w.heap.size w W → Calls Tryz.prog 27 #[.pointer (some ⟨Z.nb, 0, none⟩)] W fun e w' => e = .returned (.int .i64 (locT (cf D f) x)) ∧ Below W.heap.size W w') :
  Calls Tryz.prog 18 #[.pointer (some ⟨Z.nb, 0, none⟩), .int .i64 t] w (CPo w0 D f Z F w x t) := by
 have mixed : Tryz.prog.follows .mixedOrders = true := by kernel_rfl
 have CF := nfloor h
 have HH : Hid (WM w0 D f x x.fl Z F v w) := h
 obtain ⟨fl, hfl⟩ : ∃ fl, x.fl = fl := ⟨_, rfl⟩
 rw [hfl] at CF
 have HNO : Hid (∀ E w3, commE (cf D f) x t = E → E ≠ 0 → Below w.heap.size w w3 → CPo w0 D f Z F w x t (.returned (.tuple #[.slice none 0 0, .slice none 0 0, .int .i64 E])) w3) := fun E w3 h1 h2 h3 => CPo.no h1 h2 HH.out h3
 by_cases ht : t < fl
 ·have HE : Hid (commE (cf D f) x t = 110) := by show _ = _; unfold commE; rw [hfl, if_pos ht]
  clear h hfl HLo
  go_enter Tryz.func18, Tryz.ntmps18
  go_wp2_with (go_at_call 23; refine CF.mono ?_; rintro e w1 ⟨rfl, rfl⟩; clear CF)
  exact bodyPost_ret (v := .tuple #[.slice none 0 0, .slice none 0 0, .int .i64 110]) (by simp [results, Tryz.results18, go_sem]) rfl (HNO.out 110 _ HE.out (by decide) (Below.refl _ _))
 obtain ⟨lo, hlo⟩ : ∃ lo, locT (cf D f) x = lo := ⟨_, rfl⟩
 have CL := HLo w (Below.refl _ _)
 rw [hlo] at CL
 by_cases hg : lo < t
 ·have HE : Hid (commE (cf D f) x t = 130) := by show _ = _; unfold commE; rw [hfl, if_neg ht, hlo, if_pos hg]
  clear h hfl HLo hlo
  go_enter Tryz.func18, Tryz.ntmps18
  go_wp2_with (first
   | (go_at_call 23; refine CF.mono ?_; rintro e w1 ⟨rfl, rfl⟩; clear CF)
   | (go_at_call 27; refine CL.mono ?_; rintro e w2 ⟨rfl, hb⟩; have HB : Hid (Below w.heap.size w w2) := hb; clear hb CL))
  exact bodyPost_ret (v := .tuple #[.slice none 0 0, .slice none 0 0, .int .i64 130]) (by simp [results, Tryz.results18, go_sem]) rfl (HNO.out 130 _ HE.out (by decide) HB.out)
 have hE : commE (cf D f) x t = 0 := by unfold commE; rw [hfl, if_neg ht, hlo, if_neg hg]
 have hmx : max x.fl t = t := by rw [hfl]; omega
 obtain ⟨gl, hgl⟩ : ∃ gl, A.gonT t x.nd.p = gl := ⟨_, rfl⟩
 have hgn : gl.length ≤ 1000 := by
  rw [← hgl]
  exact Nat.le_trans (List.length_filter_le _ _) hp
 have hD : commD (cf D f) x t = gl.map dn := by unfold commD; rw [if_pos hE, ← hgl]; rfl
 have hM : commM (cf D f) x t = G.openG t x.nd.g := by unfold commM; rw [if_pos hE]
 have hX : commX (cf D f) x t = ⟨W.settle t x.nd, t, x.c, x.lg ++ gl.map dn⟩ := by unfold commX; rw [if_pos hE, hD]
 obtain ⟨x1, hx1⟩ : ∃ x1 : X, { x with nd := { x.nd with p := x.nd.p.filter (fun e => !A.low t e) }, fl := max x.fl t } = x1 := ⟨_, rfl⟩
 have HST : Hid (∀ w2, Below w.heap.size w w2 → w2.cell? ⟨Z.nb, 7, none⟩ = some (.pointer (some ⟨Z.pb, 0, none⟩)) ∧ Z.nb < w2.heap.size ∧ Calls Tryz.prog 73 #[.pointer (some ⟨Z.pb, 0, none⟩), .int .i64 t] w2 fun e w' => ∃ a c F', e = .returned (.slice a gl.length c) ∧ A.Gon (fun _ => True) w' a gl ∧ WM w0 D f x1 fl Z F' v w' ∧ Mw (tot F) (tot F') w w') := fun w2 hb => by
  have hw := HH.out.below hb
  refine ⟨hw.cells.2.2.2.2.2.2.2.1, hw.nlt, ?_⟩
  have := hw.settle t
  rw [hgl, hx1] at this
  refine this.mono fun e w' ⟨a, c, F', g1, g2, g3, g4⟩ => ⟨a, c, F', g1, g2, by rw [← hfl]; exact g3, (B.Mw.below hb).trans g4⟩
 have hx1l : x1.lg = x.lg := by rw [← hx1]
 have hx1g : x1.nd.g = x.nd.g := by rw [← hx1]
 obtain ⟨x2, hx2⟩ : ∃ x2 : X, { x1 with lg := x.lg ++ gl.map dn } = x2 := ⟨_, rfl⟩
 have HX2 : Hid (gX x2 (x2.nd.g.filter (fun e => !G.low t e)) = commX (cf D f) x t) := by
  show _ = _
  rw [hX, ← hx2, ← hx1, hmx]
  rfl
 have hx2g : x2.nd.g = x.nd.g := by rw [← hx2, ← hx1]
 have HEND : Hid (∀ F' v' a n c a2 n2 c2 w', WM w0 D f (commX (cf D f) x t) t Z F' v' w' → Mw (tot F) (tot F') w w' → Ro cD 49 F' w' (.slice a n c) (gl.map dn) → (∀ k, (Value.slice a n c).ownBlock = some k → w.heap.size ≤ k) → Ro B.cM 39 F' w' (.slice a2 n2 c2) (G.openG t x.nd.g) → (∀ k, (Value.slice a2 n2 c2).ownBlock = some k → w.heap.size ≤ k) → CPo w0 D f Z F w x t (.returned (.tuple #[.slice a n c, .slice a2 n2 c2, .int .i64 0])) w') := fun F' v' a n c a2 n2 c2 w' g1 g2 g3 g4 g5 g6 => by
  have ef : (commX (cf D f) x t).fl = t := by rw [hX]
  exact ⟨F', v', a, n, c, a2, n2, c2, by rw [hE], by rw [ef]; exact g1, g2, by rw [hD]; exact g3, g4, by rw [hM]; exact g5, g6⟩
 obtain ⟨gn, hgn2⟩ : ∃ gn, gl.length = gn := ⟨_, rfl⟩
 rw [hgn2] at HST hgn
 have HGN : Hid (gl.length = gn) := hgn2
 have HLG : Hid (x1.lg = x.lg ∧ x.lg.length ≤ 10000 ∧ x2.nd.g = x.nd.g ∧ max fl t = t ∧ { x1 with lg := x.lg ++ gl.map dn } = x2) := ⟨hx1l, hl, hx2g, by rw [← hfl]; exact hmx, hx2⟩
 clear h hfl HLo hlo hE hmx hgl hD hM hX hx1 hx1l hx1g hx2 hx2g hgn2 hp hl
 go_enter Tryz.func18, Tryz.ntmps18
 go_wp2_with (first
  | (go_at_call 23; refine CF.mono ?_; rintro e w1 ⟨rfl, rfl⟩; clear CF)
  | (go_at_call 27; refine CL.mono ?_; rintro e w2 ⟨rfl, hb⟩; obtain ⟨n7, lnb, CS⟩ := Hid.out HST _ hb; clear hb CL)
  | (go_at_call 73; refine CS.mono ?_; rintro e w3 ⟨a3, c3, F3, rfl, hg3, hw3, hm3⟩; have HG3 : Hid (A.Gon (fun _ => True) w3 a3 gl) := hg3; have HW3 : Hid (WM w0 D f x1 fl Z F3 v w3 ∧ Mw (tot F) (tot F3) w w3) := And.intro hw3 hm3; clear hg3 hw3 hm3 CS n7 lnb))
 go_loopw [7, 25] (fun s7 s25 wr => ∃ (i : Nat) (ga : Option Addr) (gn' gc : Nat), s25 = .int .i64 i ∧ i ≤ gn ∧ s7 = .slice ga gn' gc ∧ Hid (Grw cD 49 w3 wr (.slice ga gn' gc) ((gl.take i).map dn))) (fun _ s25 _ => gn - (intOf s25).toNat)
 case atStart => exact ⟨0, none, 0, 0, rfl, Nat.zero_le _, rfl, B.OwR.nil _ _ _, fun k e => by simp [Value.ownBlock] at e, Below.refl _ _⟩
 case round =>
  obtain ⟨i, ga, gn', gc, rfl, hi, rfl, HG⟩ := hrel
  by_cases hlt : i < gn
  ·have hlt' : (i : Int) < (gn : Int) := by omega
   obtain ⟨l, hle, hrd, hout⟩ := HG3.out.below HG.out.2.2
   obtain ⟨en, hen⟩ : ∃ en, B.nth A.cE l i = en := ⟨_, rfl⟩
   have hil : i < l.length := by have := congrArg List.length hle; rw [List.length_map] at this; have := HGN.out; omega
   obtain ⟨eb, eo, rfl, leb, _, u0, u1, u2, u3, u4, u5, u6, u7, u8, u9⟩ := hrd.entry hil hen
   have hnp : A.nthP gl i = en.p := by rw [← hle, A.nthP_map, hen]
   have hs := dn_take (L := gl) (i := i) (by rw [HGN.out]; exact hlt) hnp
   obtain ⟨L, hL⟩ : ∃ L, (gl.take i).map dn = L := ⟨_, rfl⟩
   rw [hL] at HG hs
   have hLl : L.length ≤ 1000 := by rw [← hL, List.length_map, List.length_take]; omega
   obtain ⟨Y, hY⟩ : ∃ Y, (gl.take (i + 1)).map dn = Y := ⟨_, rfl⟩
   have HY : Hid ((gl.take (i + 1)).map dn = Y) := hY
   rw [hY] at hs
   obtain ⟨⟨⟨⟨e1, e2, e3⟩, e4, e5, e6⟩, eah, ese, est, eos⟩, eoa, eoc⟩ := en
   dsimp only at u0 u1 u2 u3 u4 u5 u6 u7 u8 u9
   have HX : Hid (L ++ [(⟨⟨e1, e2, e3, e4, e5, e6⟩, est⟩ : Dn)] = Y) := hs.symm
   have HG2 : Hid (∀ ob1 ob2, Grw cD 49 w3 ((wr.alloc ob1).alloc ob2) (.slice ga gn' gc) L) := fun ob1 ob2 => HG.out.on (B.Below.on (B.al _ _) (B.al _ _))
   have HLL : Hid (L.length ≤ 1000) := hLl
   obtain ⟨el, hel⟩ : ∃ el, eos.length = el := ⟨_, rfl⟩
   rw [hel] at u9
   clear hL hle hrd hout hen hil hnp hs hY hLl hel
   go_wp2_with (at_builtin; refine B.wpList_append_R tyD (fun _ => True) _ rfl (.tmp 29) (.tmp 35) rfl (.slice ga gn' gc) _ _ L [(⟨⟨e1, e2, e3, e4, e5, e6⟩, est⟩ : Dn)] rfl rfl (Hid.out HG2 _ _).1 (B.RdN.newAt cD _ _ _ _ _ (by simp) rfl trivial) (by have := HLL.out; omega) (by simp) Y HX.out ?_; intro a' c' w4 ho hm; have HG4 : Hid (Grw cD 49 w3 w4 (.slice a' Y.length c') Y) := (Hid.out HG2 _ _).app ho hm; clear ho hm)
   go_roundw
   case rel => exact ⟨i + 1, a', Y.length, c', by go_num, by omega, rfl, by rw [HY.out]; exact HG4⟩
   case measure => simp [intOf]; omega
  ·obtain rfl : i = gn := by omega
   have e : gl.take i = gl := List.take_of_length_le (by rw [HGN.out]; exact Nat.le_refl _)
   rw [e] at HG
   clear e
   obtain ⟨L, hL⟩ : ∃ L, gl.map dn = L := ⟨_, rfl⟩
   rw [hL] at HG HLG HEND
   have hLl : L.length ≤ 1000 := by rw [← hL, List.length_map, HGN.out]; exact hgn
   have hw4 := HW3.out.1.below HG.out.2.2
   have n10 := hw4.cells.2.2.2.2.2.2.2.2.2.2
   have n8 := hw4.cells.2.2.2.2.2.2.2.2.1
   have lnb := hw4.nlt
   have fnb := hw4.froz 10
   have how := hw4.lg.1
   rw [HLG.out.1] at how
   have hrow := HG.out.1
   obtain ⟨ga', gc', eg, hrd⟩ := hrow.rd (N := fun _ => True) (fun _ _ => trivial)
   simp at eg
   obtain ⟨rfl, rfl, rfl⟩ := eg
   obtain ⟨XL, hXL⟩ : ∃ XL, x.lg ++ L = XL := ⟨_, rfl⟩
   have HXL : Hid (x.lg ++ L = XL) := hXL
   have hx2 := HLG.out.2.2.2.2
   rw [hXL] at hx2
   have HMID : Hid (∀ av cv w5, B.OwR cD 49 w5 (.slice av XL.length cv) XL → Mw (fun k => v.ownBlock = some k) (fun k => (Value.slice av XL.length cv).ownBlock = some k) wr w5 → w5.frozen? ⟨Z.nb, 10, none⟩ = false ∧ w5.cell? ⟨Z.nb, 10, none⟩ = some v ∧ Z.nb < w5.heap.size ∧ ∃ F6, (w5.setCell ⟨Z.nb, 10, none⟩ (.slice av XL.length cv)).cell? ⟨Z.nb, 8, none⟩ = some (.pointer (some ⟨Z.gb, 0, none⟩)) ∧ Z.nb < (w5.setCell ⟨Z.nb, 10, none⟩ (.slice av XL.length cv)).heap.size ∧ Hid (Calls Tryz.prog 74 #[.pointer (some ⟨Z.gb, 0, none⟩), .int .i64 t] (w5.setCell ⟨Z.nb, 10, none⟩ (.slice av XL.length cv)) fun e w' => ∃ a2 n2 c2, e = .returned (.slice a2 n2 c2) ∧ CPo w0 D f Z F w x t (.returned (.tuple #[.slice ga L.length gc, .slice a2 n2 c2, .int .i64 0])) w')) := fun av cv w5 ho5 hm5 => by
    obtain ⟨F6, hw6, hm6⟩ := hw4.log ho5 hm5
    rw [hx2] at hw6
    have hnS : ∀ k, (Value.slice ga L.length gc).ownBlock = some k → w3.heap.size ≤ k ∧ ¬ tot F3 k := fun k e => ⟨HG.out.2.1 k e, fun g => by have := HG.out.2.1 k e; have := HW3.out.1.lt k g; omega⟩
    have hro : Ro cD 49 F3 wr (.slice ga L.length gc) L := ⟨hrow, fun k e => (hnS k e).2⟩
    have hro6 := hro.go hm6
    have f5 : Fr (fun k => v.ownBlock = some k) wr w5 := hm5.fr
    have nbv : ¬ v.ownBlock = some Z.nb := fun e => by
     have := hw4.sep.dj 5 0 _ (hw4.lg.2 _ e) hw4.rc.1
     cases this
    have b5 : w5.heap[Z.nb]? = wr.heap[Z.nb]? := f5.block _ lnb nbv
    refine ⟨?_, ?_, Nat.lt_of_lt_of_le lnb f5.size, F6, hw6.cells.2.2.2.2.2.2.2.2.1, hw6.nlt, ?_⟩
    ·simp only [World.frozen?, b5] at fnb ⊢
     exact fnb
    ·simp only [World.cell?, b5] at n10 ⊢
     exact n10
    have CO := hw6.open t
    rw [HLG.out.2.2.1, HLG.out.2.2.2.1] at CO
    have hx2' := HX2.out
    rw [HLG.out.2.2.1] at hx2'
    rw [hx2'] at CO
    have hsz : w.heap.size ≤ (w5.setCell ⟨Z.nb, 10, none⟩ (.slice av XL.length cv)).heap.size := Nat.le_trans (HW3.out.2.trans (B.Mw.below HG.out.2.2)).fr.size hm6.fr.size
    exact CO.mono fun e w7 ⟨a7, n7, c7, F7, he, ho7, hk7, hw7, hm7⟩ => ⟨a7, n7, c7, he, HEND.out F7 _ ga L.length gc a7 n7 c7 w7 hw7 (((HW3.out.2.trans (B.Mw.below HG.out.2.2)).trans hm6).trans hm7) (hro6.go hm7) (fun k e => Nat.le_trans HW3.out.2.fr.size (hnS k e).1) ⟨ho7, fun k e => (hk7 k e).2⟩ (fun k e => Nat.le_trans hsz (hk7 k e).1)⟩
   have HOW : Hid (B.OwR cD 49 wr v x.lg ∧ B.RdN cD (fun _ => True) wr ga L ∧ x.lg.length ≤ 10000) := ⟨how, hrd, HLG.out.2.1⟩
   clear hL hw4 how hrow hrd hx2 HG HW3 HG3 HX2 HLG HEND hXL fnb
   go_wp2_with (first
    | (at_builtin; refine B.wpList_append_R tyD (fun _ => True) _ rfl (.tmp 42) (.tmp 43) rfl v _ _ x.lg L rfl rfl (Hid.out HOW).1 (Hid.out HOW).2.1 (by have := (Hid.out HOW).2.2; omega) (by omega) XL HXL.out ?_; intro av cv w5 ho5 hm5; obtain ⟨fr5, c5, lnb5, F6, n86, lnb6, CO⟩ := Hid.out HMID av cv w5 ho5 hm5; clear ho5 hm5 HMID HOW)
    | (go_at_call 74; refine (Hid.out CO).mono ?_; rintro e w7 ⟨a7, n7, c7, rfl, hfin⟩; have HF : Hid (CPo w0 D f Z F w x t (.returned (.tuple #[.slice ga L.length gc, .slice a7 n7 c7, .int .i64 0])) w7) := hfin; clear hfin CO))
   exact bodyPost_ret (v := .tuple #[.slice ga L.length gc, .slice a7 n7 c7, .int .i64 0]) (by simp [results, Tryz.results18, go_sem]) rfl HF.out
end Go.Proofs.YtiaopafkfadmkaaGreat.V
namespace Go.Proofs.YtiaopafkfadmkaaGreat.V
open Go.RowKit Go.Shelf
theorem fold_min : ∀ (ys : List Int) (a : Int), ys.foldl (fun m x => min m (C.cnt x)) a ≤ a ∧ (∀ y ∈ ys, ys.foldl (fun m x => min m (C.cnt x)) a ≤ C.cnt y) ∧ (ys.foldl (fun m x => min m (C.cnt x)) a = a ∨ ∃ y ∈ ys, ys.foldl (fun m x => min m (C.cnt x)) a = C.cnt y)
 | [], a => ⟨Int.le_refl _, fun y hy => (by cases hy), .inl rfl⟩
 | x :: r, a => by
  obtain ⟨h1, h2, h3⟩ := fold_min r (min a (C.cnt x))
  simp only [List.foldl_cons]
  refine ⟨by omega, fun y hy => ?_, ?_⟩
  ·rcases List.mem_cons.1 hy with e | e
   ·subst e; omega
   ·exact h2 y e
  ·rcases h3 with e | ⟨y, hy, e⟩
   ·rw [e]
    by_cases g : a ≤ C.cnt x
    ·exact .inl (by omega)
    ·exact .inr ⟨x, List.mem_cons_self .., by omega⟩
   ·exact .inr ⟨y, List.mem_cons_of_mem _ hy, e⟩
theorem bndK_is (Cc : Cf) (c : Int → Int) : ∀ k : Nat, (∀ j : Nat, j < k → Cc.kd j = 0 → bndK Cc c k ≤ c j) ∧ (bndK Cc c k = 1125899906842624 ∨ ∃ j : Nat, j < k ∧ Cc.kd j = 0 ∧ bndK Cc c k = c j)
 | 0 => ⟨fun j hj => (by omega), .inl rfl⟩
 | k + 1 => by
  obtain ⟨h1, h2⟩ := bndK_is Cc c k
  have hh := bndK_hi Cc c k
  have e : bndK Cc c (k + 1) = if Cc.kd k = 0 then min (bndK Cc c k) (c k) else bndK Cc c k := rfl
  rw [e]
  by_cases hk : Cc.kd k = 0
  ·rw [if_pos hk]
   refine ⟨fun j hj hz => ?_, ?_⟩
   ·by_cases g : j = k
    ·subst g; omega
    ·have := h1 j (by omega) hz; omega
   ·by_cases g : bndK Cc c k ≤ c k
    ·rcases h2 with q | ⟨j, q1, q2, q3⟩
     ·exact .inl (by omega)
     ·exact .inr ⟨j, by omega, q2, by omega⟩
    ·exact .inr ⟨k, by omega, hk, by omega⟩
  ·rw [if_neg hk]
   refine ⟨fun j hj hz => ?_, ?_⟩
   ·by_cases g : j = k
    ·subst g; exact absurd hz hk
    ·exact h1 j (by omega) hz
   ·rcases h2 with q | ⟨j, q1, q2, q3⟩
    ·exact .inl q
    ·exact .inr ⟨j, by omega, q2, q3⟩
theorem cnt_ok {t : Int} (h : okT t = true) : C.cnt t = t := by
 unfold okT at h
 rw [decide_eq_true_iff] at h
 rcases h with g | g
 ·exact C.cnt_mid g.1 g.2
 ·subst g; rfl
theorem lst_vls {Cc : Cf} {c : Int → Int} {ys : List Int} (h : Vls (isC Cc) c ys) (hok : ∀ j, isC Cc j = true → okT (c j) = true) : C.lstI ys = bndK Cc c Cc.n := by
 obtain ⟨f1, f2, f3⟩ := fold_min ys 1125899906842624
 obtain ⟨b1, b2⟩ := bndK_is Cc c Cc.n
 have bh := bndK_hi Cc c Cc.n
 show ys.foldl (fun m x => min m (C.cnt x)) 1125899906842624 = _
 have hle : ys.foldl (fun m x => min m (C.cnt x)) 1125899906842624 ≤ bndK Cc c Cc.n := by
  rcases b2 with q | ⟨j, q1, q2, q3⟩
  ·omega
  ·have hj : isC Cc j = true := by unfold isC; rw [decide_eq_true_iff]; exact ⟨by omega, by omega, q2⟩
   have := f2 _ (h.1 j hj)
   rw [cnt_ok (hok j hj)] at this
   omega
 have hge : bndK Cc c Cc.n ≤ ys.foldl (fun m x => min m (C.cnt x)) 1125899906842624 := by
  rcases f3 with q | ⟨y, hy, q⟩
  ·omega
  ·obtain ⟨j, hj, e⟩ := h.2 y hy
   rw [q, e, cnt_ok (hok j hj)]
   have hj2 := hj
   unfold isC at hj2
   rw [decide_eq_true_iff] at hj2
   have ej : ((j.toNat : Nat) : Int) = j := by omega
   have := b1 j.toNat (by omega) (by rw [ej]; exact hj2.2.2)
   rw [ej] at this
   exact this
 omega
def cZ : B.Cd Int := ⟨fun x => [.int .i64 x], 1, 0, fun _ => rfl, fun x v hv => by simp at hv; subst hv; rfl, by decide⟩
def tyZ : B.Ty cZ 22 3 := ⟨.int .i64 0, 8, Tryz.underlying22, by kernel_rfl, rfl, by decide⟩
theorem flat_z (l : List Int) : B.flat cZ l = l.map (Value.int .i64) := by
 induction l with
 | nil => rfl
 | cons x r ih => show Value.int .i64 x :: B.flat cZ r = _; rw [ih]; rfl
theorem ow_z {W : World} {b0 : Nat} {v : Value} {ys : List Int} (h : W.ownsRow b0 3 1 v ys.length (ys.map (Value.int .i64))) : B.OwR cZ 3 W v ys := by
 show W.ownsRow 0 3 1 v ys.length (B.flat cZ ys)
 rw [flat_z]
 refine ⟨h.1, ?_⟩
 rcases h.2 with g | ⟨g, cap, cur, e1, e2, e3, e4⟩
 ·exact .inl g
 ·exact .inr ⟨g, cap, cur, e1, Nat.zero_le _, e3, e4⟩
theorem z_rd {W : World} {v : Value} {ys : List Int} (h : B.OwR cZ 3 W v ys) : ∃ a c, v = .slice a ys.length c ∧ C.RdI W a ys := by
 have h2 : W.ownsRow 0 3 1 v ys.length (B.flat cZ ys) := h
 rw [flat_z] at h2
 exact C.rdI_of_row h2
theorem vals_any (w : World) (b : Nat) :
  Calls Tryz.prog 79 #[.map (some b)] w fun e w' => e = .returned (.func (.func 127) #[] #[.pointer (some ⟨w.heap.size, 0, none⟩)]) ∧ w' = w.alloc (.cells #[.map (some b)] 96) := by
 go_enter Tryz.func79, Tryz.ntmps79
 go_wp2
 go_ret
 exact ⟨rfl, rfl⟩
set_option maxHeartbeats 2000000 in
theorem nlocal {w0 : World} {D : Wd} {f : Nat} {x : X} {gf : Int} {Z : Ad} {F : Nat → Nat → Prop} {v : Value} {w : World} (h : WM w0 D f x gf Z F v w) (hok : ∀ j, isC (cf D f) j = true → okT (x.c j) = true) :
  Calls Tryz.prog 27 #[.pointer (some ⟨Z.nb, 0, none⟩)] w fun e w' => e = .returned (.int .i64 (locT (cf D f) x)) ∧ Below w.heap.size w w' := by
 have mixed : Tryz.prog.follows .mixedOrders = true := by kernel_rfl
 have n9 := h.cells.2.2.2.2.2.2.2.2.2.1
 have lnb := h.nlt
 have CV := vals_any w Z.rb
 obtain ⟨W1, hW1⟩ : ∃ W1, w.alloc (.cells #[.map (some Z.rb)] 96) = W1 := ⟨_, rfl⟩
 rw [hW1] at CV
 obtain ⟨q, hq⟩ : ∃ q, w.heap.size = q := ⟨_, rfl⟩
 have hb1 : Below w.heap.size w W1 := by rw [← hW1]; exact B.al _ _
 have hm1 : W1.cell? ⟨q, 0, none⟩ = some (.map (some Z.rb)) := by rw [← hW1, ← hq]; exact (cell_new w _ _).1
 obtain ⟨_, M, hM⟩ := (h.below hb1).ck
 have CC := vcol_any W1 q Z.rb 8 hm1 hM (by decide)
 rw [hq] at CV
 have HFI : Hid (∀ W, Below W1.heap.size W1 W → W.cell? ⟨Z.nb, 6, none⟩ = some (.pointer (some ⟨Z.qb, 0, none⟩)) ∧ Z.nb < W.heap.size ∧ Below w.heap.size w W ∧ Hid (Calls Tryz.prog 59 #[.pointer (some ⟨Z.qb, 0, none⟩)] W fun e w' => e = .returned (.tuple #[Q.mv (hd x), .bool (!x.nd.q.isEmpty)]) ∧ Below W.heap.size W w')) := fun W hW => by
  have hb := hb1.trans (hW.mono hb1.size)
  have hw := h.below hb
  exact ⟨hw.cells.2.2.2.2.2.2.1, hw.nlt, hb, Q.first_any hw.qu⟩
 have HLS : Hid (∀ ys, Vls (isC (cf D f)) x.c ys → C.lstI ys = bndK (cf D f) x.c (cf D f).n) := fun ys hy => lst_vls hy hok
 obtain ⟨lt, hlt⟩ : ∃ lt, locT (cf D f) x = lt := ⟨_, rfl⟩
 have HLT : Hid (lt = if x.nd.q.isEmpty = true then bndK (cf D f) x.c (cf D f).n else min (bndK (cf D f) x.c (cf D f).n) (cnt (hd x).1.1)) := hlt.symm
 rw [hlt]
 obtain ⟨m, hm⟩ : ∃ m, hd x = m := ⟨_, rfl⟩
 obtain ⟨be, hbe⟩ : ∃ be, x.nd.q.isEmpty = be := ⟨_, rfl⟩
 rw [hm, hbe] at HFI HLT
 obtain ⟨bd, hbd⟩ : ∃ bd, bndK (cf D f) x.c (cf D f).n = bd := ⟨_, rfl⟩
 rw [hbd] at HLT HLS
 obtain ⟨⟨m1, m2, m3⟩, m4, m5, m6⟩ := m
 dsimp only at HLT HFI
 have HLE : Hid (∀ ys W v, B.OwR cZ 3 W v ys → ys.length ≤ 100 → Calls Tryz.prog 80 #[v] W fun e w' => e = .returned (.int .i64 (C.lstI ys)) ∧ W = w') := fun ys W v ho hl => by
  obtain ⟨a, c, rfl, hr⟩ := z_rd ho
  exact C.least_any W a c ys hr (by omega)
 have HS1 : Hid (w.heap.size ≤ W1.heap.size) := hb1.size
 clear h hok hM hm1 hb1 hlt hm hbe hbd hW1 hq
 cases be
 case true =>
  go_enter Tryz.func27, Tryz.ntmps27
  go_wp2_with (first
   | (go_at_call 79; refine CV.mono ?_; rintro e w1 ⟨rfl, rfl⟩; clear CV)
   | (go_at_call 78; refine CC.mono ?_; rintro e w2 ⟨v2, ys, rfl, hv2, hl2, ho2, hb2⟩; obtain ⟨n6, lnb2, hbw2, CF⟩ := Hid.out HFI _ hb2; have HY : Hid (Vls (isC (cf D f)) x.c ys ∧ ys.length ≤ 8 ∧ B.OwR cZ 3 w2 v2 ys ∧ Below w.heap.size w w2) := And.intro hv2 (And.intro hl2 (And.intro (ow_z ho2) hbw2)); clear hv2 hl2 ho2 hb2 hbw2 CC)
   | (go_at_call 59; refine (Hid.out CF).mono ?_; rintro e w3 ⟨rfl, hb3⟩; have HB3 : Hid (Below w2.heap.size w2 w3) := hb3; clear hb3 CF)
   | (go_at_call 80; refine (Hid.out HLE ys _ v2 ((Hid.out HY).2.2.1.below (B.Below.on (Hid.out HB3) (B.al w3 _))) (by have := (Hid.out HY).2.1; omega)).mono ?_; rintro e w4 ⟨rfl, rfl⟩; rw [Hid.out HLS ys (Hid.out HY).1]; clear HLE))
  go_ret
  have e1 : lt = bd := by rw [HLT.out]; simp
  have hbw := HY.out.2.2.2
  exact ⟨by rw [e1]; rfl, hbw.trans ((B.Below.on HB3.out (B.al w3 _)).mono hbw.size)⟩
 case false =>
  go_enter Tryz.func27, Tryz.ntmps27
  go_wp2_with (first
   | (go_at_call 79; refine CV.mono ?_; rintro e w1 ⟨rfl, rfl⟩; clear CV)
   | (go_at_call 78; refine CC.mono ?_; rintro e w2 ⟨v2, ys, rfl, hv2, hl2, ho2, hb2⟩; obtain ⟨n6, lnb2, hbw2, CF⟩ := Hid.out HFI _ hb2; have HY5 : Hid (∀ k, v2.ownBlock = some k → w.heap.size ≤ k) := fun k e => Nat.le_trans (Hid.out HS1) (own_lt ho2 e).2; have HY : Hid (Vls (isC (cf D f)) x.c ys ∧ ys.length ≤ 8 ∧ B.OwR cZ 3 w2 v2 ys ∧ Below w.heap.size w w2) := And.intro hv2 (And.intro hl2 (And.intro (ow_z ho2) hbw2)); obtain ⟨XL, hXL⟩ : ∃ XL, ys ++ [m1] = XL := ⟨_, rfl⟩; have HXL : Hid (ys ++ [m1] = XL) := hXL; clear hXL hv2 hl2 ho2 hb2 hbw2 CC)
   | (go_at_call 59; refine (Hid.out CF).mono ?_; rintro e w3 ⟨rfl, hb3⟩; have HB3 : Hid (Below w2.heap.size w2 w3) := hb3; clear hb3 CF)
   | (at_builtin; refine B.wpList_append_R tyZ (fun _ => True) _ rfl (.tmp 21) (.tmp 25) rfl v2 _ _ ys [m1] rfl rfl ((Hid.out HY).2.2.1.below (B.Below.on (Hid.out HB3) (B.Below.on (B.al w3 _) (B.al _ _)))) (B.RdN.newAt cZ _ _ _ _ _ (by simp) rfl trivial) (by have := (Hid.out HY).2.1; omega) (by simp) XL HXL.out ?_; intro a5 c5 w5 ho5 hm5; have HO5 : Hid (B.OwR cZ 3 w5 (.slice a5 XL.length c5) XL ∧ Mw (fun k => v2.ownBlock = some k) (fun k => (Value.slice a5 XL.length c5).ownBlock = some k) ((w3.alloc (.cells #[.int .i64 m1, .int .i64 m2, .int .i64 m3, .int .i64 m4, .int .i64 m5, .int .i64 m6] 39)).alloc (.cells #[.int .i64 m1] 3)) w5) := And.intro ho5 hm5; clear ho5 hm5)
   | (go_at_call 80; refine (Hid.out HLE XL w5 (.slice a5 XL.length c5) (Hid.out HO5).1 (by have := (Hid.out HY).2.1; rw [← HXL.out]; simp; omega)).mono ?_; rintro e w6 ⟨rfl, rfl⟩; clear HLE))
  go_ret
  have e1 : lt = C.lstI XL := by
   rw [HLT.out, ← HXL.out, C.lstI_app, HLS.out ys HY.out.1]
   simp
   rfl
  have hbw := HY.out.2.2.2
  have hb4 : Below w2.heap.size w2 ((w3.alloc (.cells #[.int .i64 m1, .int .i64 m2, .int .i64 m3, .int .i64 m4, .int .i64 m5, .int .i64 m6] 39)).alloc (.cells #[.int .i64 m1] 3)) := B.Below.on HB3.out (B.Below.on (B.al w3 _) (B.al _ _))
  refine ⟨by rw [e1]; rfl, (hbw.trans (hb4.mono hbw.size)).trans (HO5.out.2.fr.below (Nat.le_trans hbw.size hb4.size) (fun k e => HY5.out k e))⟩
theorem ncommit_all {w0 : World} {D : Wd} {f : Nat} {x : X} {Z : Ad} {F : Nat → Nat → Prop} {v : Value} {w : World} (h : WM w0 D f x x.fl Z F v w) (t : Int) (hp : x.nd.p.length ≤ 1000) (hl : x.lg.length ≤ 10000) (hok : ∀ j, isC (cf D f) j = true → okT (x.c j) = true) :
  Calls Tryz.prog 18 #[.pointer (some ⟨Z.nb, 0, none⟩), .int .i64 t] w (CPo w0 D f Z F w x t) :=
 ncommit h t hp hl (fun W hW => (nlocal (h.below hW) hok).mono fun e w' ⟨h1, h2⟩ => ⟨h1, h2⟩)
end Go.Proofs.YtiaopafkfadmkaaGreat.V
namespace Go.Proofs.YtiaopafkfadmkaaGreat.V
open Go.RowKit Go.Shelf
theorem op_local {w0 : World} {C : Cf} {N : Nat} {x : X} {Z : Ad} {T : Nat → Prop} {W : World} (h : PN w0 C N x Z T W) :
  Calls Tryz.prog 27 #[.pointer (some ⟨Z.nb, 0, none⟩)] W fun e w' => e = .returned (.int .i64 (locT C x)) ∧ Below W.heap.size W w' := by
 obtain ⟨D, f, F, v, rfl, h2, h3, hw, rfl⟩ := h
 exact nlocal hw h3.ck
theorem op_commit {w0 : World} {C : Cf} {N : Nat} {x : X} {Z : Ad} {T : Nat → Prop} {W : World} (h : PN w0 C N x Z T W) (t : Int) (hN : N ≤ 1000) :
  Calls Tryz.prog 18 #[.pointer (some ⟨Z.nb, 0, none⟩), .int .i64 t] W fun e w' => ∃ T' a n c a2 n2 c2, e = .returned (.tuple #[.slice a n c, .slice a2 n2 c2, .int .i64 (commE C x t)]) ∧ PN w0 C N (commX C x t) Z T' w' ∧ Mw T T' W w' ∧ (B.OwR cD 49 w' (.slice a n c) (commD C x t) ∧ ∀ k, (Value.slice a n c).ownBlock = some k → W.heap.size ≤ k ∧ ¬ T' k) ∧ B.OwR B.cM 39 w' (.slice a2 n2 c2) (commM C x t) ∧ ∀ k, (Value.slice a2 n2 c2).ownBlock = some k → W.heap.size ≤ k ∧ ¬ T' k := by
 obtain ⟨D, f, F, v, rfl, h2, h3, hw, rfl⟩ := h
 exact (ncommit_all hw t (by have := h3.nl; omega) (by have := h3.lg; omega) h3.ck).mono fun e w' ⟨F', v', a, n, c, a2, n2, c2, he, g1, g2, g3, g4, g5, g6⟩ => ⟨tot F', a, n, c, a2, n2, c2, he, ⟨D, f, F', v', rfl, h2, comm_inv h2 h3 t, g1, rfl⟩, g2, ⟨g3.1, fun k e => ⟨g4 k e, g3.2 k e⟩⟩, g5.1, fun k e => ⟨g6 k e, g5.2 k e⟩⟩
end Go.Proofs.YtiaopafkfadmkaaGreat.V
