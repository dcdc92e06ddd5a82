/- Joined: the texts that follow, each with its own sentence. -/
import Derived.Test.YtiaopafkfadmkaaGreatZIt
import Derived.Test.YtiaopafkfadmkaaGreatZW
import Derived.Test.YtiaopafkfadmkaaGreatZGb
import Derived.Test.YtiaopafkfadmkaaGreatZAf
set_option linter.unusedVariables false
set_option maxRecDepth 100000
namespace Go.Proofs.YtiaopafkfadmkaaGreat.G
open Go.Proofs.YtiaopafkfadmkaaGreat.B
open Go.RowKit Go.Shelf Go.Sort
theorem eqlM (a b : M) (w : World) : (binOp .eql 39 (mv a) (mv b)).run Tryz.prog w = .ok (.bool (sameM a b)) w := by
 rw [run_eql_struct, sameM_of]
 rw [show (10000 : Nat) = 9997 + 3 from rfl, equalM]
 rfl
theorem drN (W : World) (n : Nat) : Below W.heap.size W (W.drewN n) := ⟨rfl, rfl, rfl, Nat.le_refl _, fun _ _ => rfl⟩
def its (l : List It) : List (Bool × M) := l.map (fun x => (decide (x.1 = 0), x.2.1))
theorem drop_nthI {l : List It} {i : Nat} (h : i < l.length) {x : It} (hx : nth cI l i = x) : l.drop i = x :: l.drop (i + 1) := by
 subst hx
 rw [← List.getElem_cons_drop h]
 simp [nth, h]
theorem take_nthM {l : List M} {i : Nat} (h : i < l.length) {x : M} (hx : nth cM l i = x) : l.take (i + 1) = l.take i ++ [x] := by
 subst hx
 rw [List.take_succ_eq_append_getElem h]
 simp [nth, h]
theorem erase_snoc (a : List M) (m y : M) : (a ++ [y]).erase m = if m ∈ a then a.erase m ++ [y] else if y = m then a else a ++ [y] := by
 rw [List.erase_append]
 split
 ·rfl
 ·split
  ·rename_i h; subst h; simp
  ·rename_i h; rw [List.erase_of_not_mem (by simp; exact fun e => h e.symm)]
set_option maxHeartbeats 2000000 in
theorem taken_any {w : World} {va ma : Option Addr} {vn vc mc q : Nat} {l l' : List M} {it : List It} (hl : OwR cM 39 w (.slice va vn vc) l) (hm : RdN cI (fun k => ¬ (Value.slice va vn vc).ownBlock = some k) w ma it) (hq : it.length = q) (hlen : l.length + q ≤ 90000) (ht : W.tkn l (its it) = some l') :
  Calls Tryz.prog 37 #[.slice va vn vc, .slice ma q mc] w fun e w' => ∃ a' c', e = .returned (.tuple #[.slice a' l'.length c', .bool true]) ∧ OwR cM 39 w' (.slice a' l'.length c') l' ∧ Mw (fun k => (Value.slice va vn vc).ownBlock = some k) (fun k => (Value.slice a' l'.length c').ownBlock = some k) w w' := by
 have mixed : Tryz.prog.follows .mixedOrders = true := by kernel_rfl
 have HM : Hid (RdN cI (fun k => ¬ (Value.slice va vn vc).ownBlock = some k) w ma it) := hm
 have HQ : Hid (it.length = q) := hq
 have HLEN : Hid (l.length + q ≤ 90000) := hlen
 have hqb : q ≤ 90000 := by omega
 have HS : Hid (∃ li : List M, OwR cM 39 w (.slice va vn vc) li ∧ Mw (fun k => (Value.slice va vn vc).ownBlock = some k) (fun k => (Value.slice va vn vc).ownBlock = some k) w w ∧ W.tkn li (its (it.drop 0)) = some l' ∧ li.length ≤ l.length + 0) := ⟨l, hl, Mw.refl _ _, ht, Nat.le_refl _⟩
 clear hl hm hq hlen ht
 go_enter Tryz.func37, Tryz.ntmps37
 go_wp2
 go_loopw [0, 6] (fun s0 s6 wr => ∃ (i : Nat) (a : Option Addr) (n c : Nat), s6 = .int .i64 i ∧ i ≤ q ∧ s0 = .slice a n c ∧ Hid (∃ li : List M, OwR cM 39 wr (.slice a n c) li ∧ Mw (fun k => (Value.slice va vn vc).ownBlock = some k) (fun k => (Value.slice a n c).ownBlock = some k) w wr ∧ W.tkn li (its (it.drop i)) = some l' ∧ li.length ≤ l.length + i)) (fun _ s6 _ => q - (intOf s6).toNat)
 case atStart => exact ⟨0, va, vn, vc, rfl, Nat.zero_le _, rfl, HS⟩
 case round =>
  clear HS
  obtain ⟨i, a, n, c, rfl, hi, rfl, HI⟩ := hrel
  by_cases hlt : i < q
  ·have hlt' : (i : Int) < (q : Int) := by omega
   have hil : i < it.length := by rw [HQ.out]; exact hlt
   obtain ⟨x, hx⟩ : ∃ x, nth cI it i = x := ⟨_, rfl⟩
   obtain ⟨li, ho, hmw, ht, hll⟩ := HI.out
   have hR : RdN cI (fun k => ¬ (Value.slice va vn vc).ownBlock = some k) wr ma it := HM.out.keep hmw.fr (fun k hk e => ⟨e, e⟩)
   obtain ⟨rb, off, hma, hgb, hgN, x0, x1, x2, x3, x4, x5, x6, x7⟩ := hR.item hil hx
   subst hma
   rw [drop_nthI hil hx] at ht
   obtain ⟨y0, ⟨⟨y1, y2, y3⟩, y4, y5, y6⟩, y7⟩ := x
   dsimp only at x0 x1 x2 x3 x4 x5 x6 x7
   have hlb := HLEN.out
   by_cases hy : y0 = 0
   ·subst hy
    have ht2 : W.tkn (li ++ [((y1, y2, y3), y4, y5, y6)]) (its (it.drop (i + 1))) = some l' := ht
    obtain ⟨X, hX⟩ : ∃ X, li ++ [((y1, y2, y3), y4, y5, y6)] = X := ⟨_, rfl⟩
    have HX : Hid (li ++ [((y1, y2, y3), y4, y5, y6)] = X) := hX
    have HO : Hid (OwR cM 39 wr (.slice a n c) li) := ho
    have HLL : Hid (li.length ≤ 100000) := by show li.length ≤ 100000; omega
    have HF : Hid (∀ {a' c' w8}, OwR cM 39 w8 (.slice a' X.length c') X → Mw (fun k => (Value.slice a n c).ownBlock = some k) (fun k => (Value.slice a' X.length c').ownBlock = some k) wr w8 → ∃ li : List M, OwR cM 39 w8 (.slice a' X.length c') li ∧ Mw (fun k => (Value.slice va vn vc).ownBlock = some k) (fun k => (Value.slice a' X.length c').ownBlock = some k) w w8 ∧ W.tkn li (its (it.drop (i + 1))) = some l' ∧ li.length ≤ l.length + (i + 1)) := fun {a' c' w8} h1 h2 => ⟨X, h1, hmw.trans h2, by rw [← hX]; exact ht2, by rw [← hX]; simp; omega⟩
    clear ht ht2 hX ho hmw hll hR hx HI hgN
    go_wp2_with (at_builtin; refine wpList_append_R tyM (fun _ => True) _ rfl (.tmp 22) (.tmp 28) rfl (.slice a n c) _ _ li [((y1, y2, y3), y4, y5, y6)] rfl rfl (OwR.below (Hid.out HO) (al _ _)) (RdN.new cM _ ((y1, y2, y3), y4, y5, y6) _ _ rfl trivial) (Hid.out HLL) (by simp) X (Hid.out HX) ?_; intro a' c' w8 ho hm; have HF8 : Hid (∃ li : List M, OwR cM 39 w8 (.slice a' X.length c') li ∧ Mw (fun k => (Value.slice va vn vc).ownBlock = some k) (fun k => (Value.slice a' X.length c').ownBlock = some k) w w8 ∧ W.tkn li (its (it.drop (i + 1))) = some l' ∧ li.length ≤ l.length + (i + 1)) := (Hid.out HF) ho ((Mw.below (al _ _)).trans hm); clear ho hm)
    go_roundw
    case rel => exact ⟨i + 1, a', X.length, c', by go_num, by omega, rfl, HF8⟩
    case measure => simp [intOf]; omega
   ·have hy0 : ((y0 : Int) == 0) = false := by simpa using hy
    have hd0 : decide (y0 = 0) = false := by simpa using hy
    have ht2 : (if ((y1, y2, y3), y4, y5, y6) ∈ li then W.tkn (li.erase ((y1, y2, y3), y4, y5, y6)) (its (it.drop (i + 1))) else none) = some l' := by
     have e : its ((y0, ((y1, y2, y3), y4, y5, y6), y7) :: it.drop (i + 1)) = (false, ((y1, y2, y3), y4, y5, y6)) :: its (it.drop (i + 1)) := by
      show (decide (y0 = 0), ((y1, y2, y3), y4, y5, y6)) :: _ = _
      rw [hd0]
      rfl
     rw [e] at ht
     exact ht
    have hmem : ((y1, y2, y3), y4, y5, y6) ∈ li := by
     by_cases g : ((y1, y2, y3), y4, y5, y6) ∈ li
     ·exact g
     ·rw [if_neg g] at ht2
      cases ht2
    rw [if_pos hmem] at ht2
    have en := ho.look.1
    have hRL : RdN cM (fun _ => True) wr a li := ho.look.2.wide (fun _ _ _ => trivial)
    have HLL : Hid (li.length ≤ 100000) := by show li.length ≤ 100000; omega
    have HEN : Hid (n = li.length) := en
    have HRL : Hid (RdN cM (fun _ => True) wr a li) := hRL
    have HRW : Hid (∀ W, Below wr.heap.size wr W → W.cell? ⟨rb, off + i * 8, none⟩ = some (.int .i64 y0) ∧ W.cell? ⟨rb, off + i * 8 + 1, none⟩ = some (.int .i64 y1) ∧ W.cell? ⟨rb, off + i * 8 + 2, none⟩ = some (.int .i64 y2) ∧ W.cell? ⟨rb, off + i * 8 + 3, none⟩ = some (.int .i64 y3) ∧ W.cell? ⟨rb, off + i * 8 + 4, none⟩ = some (.int .i64 y4) ∧ W.cell? ⟨rb, off + i * 8 + 5, none⟩ = some (.int .i64 y5) ∧ W.cell? ⟨rb, off + i * 8 + 6, none⟩ = some (.int .i64 y6) ∧ rb < W.heap.size) := fun W hW => by
     have hc := fun o => hW.cell (p := ⟨rb, o, none⟩) hgb
     exact ⟨(hc _).trans x0, (hc _).trans x1, (hc _).trans x2, (hc _).trans x3, (hc _).trans x4, (hc _).trans x5, (hc _).trans x6, Nat.lt_of_lt_of_le hgb hW.size⟩
    have HMM : Hid (((y1, y2, y3), y4, y5, y6) ∈ li) := hmem
    have HF : Hid (∀ {a' c' w8}, A.RwS cM 39 wr w8 (.slice a' (li.erase ((y1, y2, y3), y4, y5, y6)).length c') (li.erase ((y1, y2, y3), y4, y5, y6)) → ∃ l2 : List M, OwR cM 39 w8 (.slice a' (li.erase ((y1, y2, y3), y4, y5, y6)).length c') l2 ∧ Mw (fun k => (Value.slice va vn vc).ownBlock = some k) (fun k => (Value.slice a' (li.erase ((y1, y2, y3), y4, y5, y6)).length c').ownBlock = some k) w w8 ∧ W.tkn l2 (its (it.drop (i + 1))) = some l' ∧ l2.length ≤ l.length + (i + 1)) := fun {a' c' w8} h1 => ⟨_, h1.own, hmw.trans ⟨Fr.of_below h1.bel, fun k hk e => by have := h1.new k e; omega⟩, ht2, by have := List.length_erase_le (a := ((y1, y2, y3), y4, y5, y6)) (l := li); omega⟩
    have HST : Hid (A.RwS cM 39 wr (wr.alloc (.cells #[] 39)) (.slice (some ⟨wr.heap.size, 0, none⟩) 0 0) []) := A.RwS.made cM 39 (Below.refl _ wr)
    clear ht ht2 ho hmw hll hR hx HI hgN hmem hRL en
    go_wp2
    go_loopw [7, 8, 9] (fun s7 s8 s9 wq => ∃ (k : Nat) (oa : Option Addr) (on oc : Nat) (g : Bool) (O : List M), s9 = .int .i64 k ∧ k ≤ n ∧ s8 = .bool g ∧ s7 = .slice oa on oc ∧ Hid (A.RwS cM 39 wr wq (.slice oa on oc) O) ∧ Hid (O = (li.take k).erase ((y1, y2, y3), y4, y5, y6) ∧ g = decide (((y1, y2, y3), y4, y5, y6) ∈ li.take k))) (fun _ _ s9 _ => n - (intOf s9).toNat)
    case atStart => exact ⟨0, _, 0, 0, false, [], rfl, Nat.zero_le _, rfl, rfl, HST, (⟨by simp, by simp⟩ : ([] : List M) = (li.take 0).erase ((y1, y2, y3), y4, y5, y6) ∧ false = decide (((y1, y2, y3), y4, y5, y6) ∈ li.take 0))⟩
    case round =>
     clear HST
     obtain ⟨k, oa, on, oc, g, O, rfl, hk, rfl, rfl, HR, HE⟩ := hrel
     obtain ⟨c0, c1, c2, c3, c4, c5, c6, hrb⟩ := HRW.out wr HR.out.bel
     by_cases hkl : k < n
     ·have hkl' : (k : Int) < (n : Int) := by omega
      have hkli : k < li.length := by rw [← HEN.out]; exact hkl
      obtain ⟨z, hz⟩ : ∃ z, nth cM li k = z := ⟨_, rfl⟩
      obtain ⟨zb, zo, hza, hzb, _, z0, z1, z2, z3, z4, z5⟩ := (HRL.out.below HR.out.bel).msg hkli hz
      subst hza
      have hT := take_nthM hkli hz
      have hS : (li.take (k + 1)).erase ((y1, y2, y3), y4, y5, y6) = (if ((y1, y2, y3), y4, y5, y6) ∈ li.take k then (li.take k).erase ((y1, y2, y3), y4, y5, y6) ++ [z] else if z = ((y1, y2, y3), y4, y5, y6) then li.take k else li.take k ++ [z]) := by rw [hT]; exact erase_snoc (li.take k) ((y1, y2, y3), y4, y5, y6) z
      have hn1 : n ≤ 100000 := by rw [HEN.out]; exact HLL.out
      obtain ⟨⟨p1, p2, p3⟩, p4, p5, p6⟩ := z
      dsimp only at z0 z1 z2 z3 z4 z5
      cases g with
      | true =>
       have hin : ((y1, y2, y3), y4, y5, y6) ∈ li.take k := by simpa using HE.out.2.symm
       rw [if_pos hin, ← HE.out.1] at hS
       have hE2 : O ++ [((p1, p2, p3), p4, p5, p6)] = (li.take (k + 1)).erase ((y1, y2, y3), y4, y5, y6) ∧ true = decide (((y1, y2, y3), y4, y5, y6) ∈ li.take (k + 1)) := ⟨hS.symm, by rw [hT]; simp [hin]⟩
       clear hS hin
       obtain ⟨X, hX⟩ : ∃ X, O ++ [((p1, p2, p3), p4, p5, p6)] = X := ⟨_, rfl⟩
       have HX : Hid (O ++ [((p1, p2, p3), p4, p5, p6)] = X) := hX
       rw [hX] at hE2
       have HE2 : Hid (X = (li.take (k + 1)).erase ((y1, y2, y3), y4, y5, y6) ∧ true = decide (((y1, y2, y3), y4, y5, y6) ∈ li.take (k + 1))) := hE2
       have HOL : Hid (O.length ≤ 100000) := by
        show O.length ≤ 100000
        rw [HE.out.1]
        have h1 := List.length_erase_le (a := ((y1, y2, y3), y4, y5, y6)) (l := li.take k)
        rw [List.length_take] at h1
        have := HLL.out
        omega
       clear hE2 hX hT hz hkli
       go_wp2_with fail
       go_quiet (fail)
       go_wp2_with (at_builtin; refine wpList_append_R tyM (fun _ => True) _ rfl (.tmp 51) (.tmp 56) rfl (.slice oa on oc) _ _ O [((p1, p2, p3), p4, p5, p6)] rfl rfl (A.RwS.own (A.RwS.on (A.RwS.on (Hid.out HR) (drN _ _)) (al _ _))) (RdN.newAt cM _ ((p1, p2, p3), p4, p5, p6) _ _ _ (by simp) rfl trivial) (Hid.out HOL) (by simp) X (Hid.out HX) ?_; intro a' c' w8 ho hm; have HR8 : Hid (A.RwS cM 39 _ w8 (.slice a' X.length c') X) := A.RwS.app (A.RwS.on (A.RwS.on (Hid.out HR) (drN _ _)) (al _ _)) ho hm; clear ho hm)
       go_roundw
       case rel => exact ⟨k + 1, a', X.length, c', true, X, by go_num, by omega, rfl, rfl, HR8, HE2⟩
       case measure => simp [intOf]; omega
      | false =>
       have hin : ((y1, y2, y3), y4, y5, y6) ∉ li.take k := by simpa using HE.out.2.symm
       rw [if_neg hin] at hS
       have hO : O = li.take k := by rw [HE.out.1, List.erase_of_not_mem hin]
       by_cases hzm : ((p1, p2, p3), p4, p5, p6) = ((y1, y2, y3), y4, y5, y6)
       ·rw [if_pos hzm, ← hO] at hS
        have HE2 : Hid (O = (li.take (k + 1)).erase ((y1, y2, y3), y4, y5, y6) ∧ true = decide (((y1, y2, y3), y4, y5, y6) ∈ li.take (k + 1))) := ⟨hS.symm, by rw [hT, hzm]; simp⟩
        simp only [Prod.mk.injEq] at hzm
        obtain ⟨⟨rfl, rfl, rfl⟩, rfl, rfl, rfl⟩ := hzm
        clear hS hin hO hT hz hkli
        go_wp2_with fail
        go_quiet (fail)
        go_wp2
        go_roundw
        case rel => exact ⟨k + 1, oa, on, oc, true, O, by go_num, by omega, rfl, rfl, A.RwS.on HR.out ⟨rfl, rfl, rfl, Nat.le_refl _, fun _ _ => rfl⟩, HE2⟩
        case measure => simp [intOf]; omega
       ·rw [if_neg hzm, ← hO] at hS
        have hno : ((y1, y2, y3), y4, y5, y6) ∉ li.take (k + 1) := fun e => by
         rw [hT] at e
         rcases List.mem_append.1 e with g | g
         ·exact hin g
         ·exact hzm (List.mem_singleton.1 g).symm
        have hE2 : O ++ [((p1, p2, p3), p4, p5, p6)] = (li.take (k + 1)).erase ((y1, y2, y3), y4, y5, y6) ∧ false = decide (((y1, y2, y3), y4, y5, y6) ∈ li.take (k + 1)) := ⟨hS.symm, (decide_eq_false hno).symm⟩
        have hq := eqlM ((p1, p2, p3), p4, p5, p6) ((y1, y2, y3), y4, y5, y6)
        have hsm : sameM ((p1, p2, p3), p4, p5, p6) ((y1, y2, y3), y4, y5, y6) = false := by unfold sameM; simpa using hzm
        rw [hsm] at hq
        dsimp only [mv] at hq
        clear hS hin hO hsm hzm hno
        obtain ⟨X, hX⟩ : ∃ X, O ++ [((p1, p2, p3), p4, p5, p6)] = X := ⟨_, rfl⟩
        have HX : Hid (O ++ [((p1, p2, p3), p4, p5, p6)] = X) := hX
        rw [hX] at hE2
        have HE2 : Hid (X = (li.take (k + 1)).erase ((y1, y2, y3), y4, y5, y6) ∧ false = decide (((y1, y2, y3), y4, y5, y6) ∈ li.take (k + 1))) := hE2
        have HOL : Hid (O.length ≤ 100000) := by
         show O.length ≤ 100000
         rw [HE.out.1]
         have h1 := List.length_erase_le (a := ((y1, y2, y3), y4, y5, y6)) (l := li.take k)
         rw [List.length_take] at h1
         have := HLL.out
         omega
        clear hE2 hX hT hz hkli
        go_wp2_with fail
        go_quiet (fail)
        go_wp2_with (at_builtin; refine wpList_append_R tyM (fun _ => True) _ rfl (.tmp 51) (.tmp 56) rfl (.slice oa on oc) _ _ O [((p1, p2, p3), p4, p5, p6)] rfl rfl (A.RwS.own (A.RwS.on (A.RwS.on (Hid.out HR) (drN _ _)) (al _ _))) (RdN.newAt cM _ ((p1, p2, p3), p4, p5, p6) _ _ _ (by simp) rfl trivial) (Hid.out HOL) (by simp) X (Hid.out HX) ?_; intro a' c' w8 ho hm; have HR8 : Hid (A.RwS cM 39 _ w8 (.slice a' X.length c') X) := A.RwS.app (A.RwS.on (A.RwS.on (Hid.out HR) (drN _ _)) (al _ _)) ho hm; clear ho hm)
        go_roundw
        case rel => exact ⟨k + 1, a', X.length, c', false, X, by go_num, by omega, rfl, rfl, HR8, HE2⟩
        case measure => simp [intOf]; omega
     ·obtain rfl : k = n := by omega
      obtain ⟨hO, hg⟩ := HE.out
      rw [HEN.out, List.take_length] at hO hg
      have hgt : g = true := by rw [hg]; simpa using HMM.out
      subst hgt hO
      have en := HR.out.own.look.1
      subst en
      have HF2 := HF.out HR.out
      clear hg HE
      go_wp2
      go_roundw
      case rel => exact ⟨i + 1, oa, _, oc, by go_num, by omega, rfl, HF2⟩
      case measure => simp [intOf]; omega
  ·obtain rfl : i = q := by omega
   obtain ⟨li, ho, hmw, ht, hll⟩ := HI.out
   rw [List.drop_of_length_le (by rw [HQ.out]; exact Nat.le_refl _)] at ht
   have e : li = l' := Option.some.inj ht
   subst e
   have en := ho.look.1
   subst en
   clear HI hll ht
   go_wp2
   go_ret2
   exact ⟨a, c, rfl, ho, hmw⟩
end Go.Proofs.YtiaopafkfadmkaaGreat.G
