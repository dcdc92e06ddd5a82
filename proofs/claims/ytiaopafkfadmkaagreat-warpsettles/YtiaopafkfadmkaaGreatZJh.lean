/- Joined: the texts that follow, each with its own sentence. -/
import Derived.WalkKit
import Derived.WalkSpells
import Derived.WalkLawsBesides
import Derived.Below
import Derived.OwnWalk
import Derived.Deep.RegionHeld3
import Derived.Lib.QuietBelow
import Derived.Test.YtiaopafkfadmkaaGreatZJs
import Derived.Test.YtiaopafkfadmkaaGreatZJa
import Derived.Test.YtiaopafkfadmkaaGreatZJb
import Derived.Test.YtiaopafkfadmkaaGreatZJd
import Derived.Test.YtiaopafkfadmkaaGreatZJe
set_option linter.unusedVariables false
set_option maxRecDepth 100000
namespace Go.Proofs.YtiaopafkfadmkaaGreat
open Go.RowKit
set_option maxHeartbeats 400000 in
theorem time_any (t : Int) (w : World) :
  Calls Tryz.prog 129 #[.int .i64 t] w fun e w' => e = .returned (.int .i64 (cnt t)) ∧ w = w' := by
 by_cases h0 : t < 0
 ·rw [cnt_low h0]
  go_enter Tryz.func129, Tryz.ntmps129
  go_wp2
  go_ret
  exact ⟨rfl, rfl⟩
 ·by_cases h : 1099511627776 < t
  ·rw [cnt_big h]
   go_enter Tryz.func129, Tryz.ntmps129
   go_wp2
   go_ret
   exact ⟨rfl, rfl⟩
  ·rw [cnt_mid (by omega) (by omega)]
   go_enter Tryz.func129, Tryz.ntmps129
   go_wp2
   go_ret
   exact ⟨rfl, rfl⟩
set_option maxHeartbeats 400000 in
theorem refadd_any (t d : Int) (w : World) :
  Calls Tryz.prog 83 #[.int .i64 t, .int .i64 d] w fun e w' => e = .returned (.int .i64 (vadd t d)) ∧ w = w' := by
 have h1 := cnt_lo t
 have h3 := cnt_lo d
 rcases cnt_two t with ht | ht
 ·have ev : vadd t d = 1125899906842624 := by unfold vadd; rw [ht]; exact cnt_big (by omega)
  rw [ev]
  have kb : (cnt t == 1125899906842624) = true := by simpa using ht
  clear ht
  go_enter Tryz.func83, Tryz.ntmps83
  go_wp2_with (go_at_call 129; refine (time_any _ _).mono ?_; rintro e w' ⟨rfl, rfl⟩)
  go_ret
  exact ⟨rfl, rfl⟩
 ·have ka : (cnt t == 1125899906842624) = false := by simp; omega
  rcases cnt_two d with hd | hd
  ·have ev : vadd t d = 1125899906842624 := by unfold vadd; rw [hd]; exact cnt_big (by omega)
   rw [ev]
   have kb : (cnt d == 1125899906842624) = true := by simpa using hd
   clear ht hd
   go_enter Tryz.func83, Tryz.ntmps83
   go_wp2_with (go_at_call 129; refine (time_any _ _).mono ?_; rintro e w' ⟨rfl, rfl⟩)
   go_ret
   exact ⟨rfl, rfl⟩
  ·have kb : (cnt d == 1125899906842624) = false := by simp; omega
   go_enter Tryz.func83, Tryz.ntmps83
   go_wp2_with (go_at_call 129; refine (time_any _ _).mono ?_; rintro e w' ⟨rfl, rfl⟩)
   go_ret
   exact ⟨rfl, rfl⟩
set_option maxHeartbeats 1000000 in
theorem rsent_any (w : World) (f q n b c d a : Int) :
  Calls Tryz.prog 88 #[.int .i64 f, .int .i64 q, .int .i64 n, .int .i64 b, .agg #[.int .i64 c, .int .i64 d, .int .i64 a]] w fun e w' => e = .returned (sentV f q n b c d a) ∧ Below w.heap.size w w' := by
 have mixed : Tryz.prog.follows .mixedOrders = true := by kernel_rfl
 have HA := fun W => refadd_any n d W
 obtain ⟨h1, h2, h3⟩ := tmod_parts b
 obtain ⟨h4, h5, h6⟩ := tmod_parts a
 obtain ⟨h7, h8, h9⟩ := tmod_parts (b.tmod 1000 + a.tmod 1000)
 have e := ref_eq _ _ _ _ _ h3 h6 h9
 clear h3 h6 h9
 dsimp only [sentV]
 rw [← e]
 clear e
 obtain ⟨V, hV⟩ : ∃ V, vadd n d = V := ⟨_, rfl⟩
 obtain ⟨x, hx⟩ : ∃ x, b.tmod 1000 = x := ⟨_, rfl⟩
 obtain ⟨y, hy⟩ : ∃ y, a.tmod 1000 = y := ⟨_, rfl⟩
 rw [hx, hy] at h7 h8 ⊢
 rw [hx] at h1 h2
 rw [hy] at h4 h5
 rw [hV] at HA ⊢
 clear hV
 obtain ⟨z, hz⟩ : ∃ z, (x + y).tmod 1000 = z := ⟨_, rfl⟩
 rw [hz] at h7 h8 ⊢
 obtain ⟨u, hu⟩ : ∃ u, z + 1000 = u := ⟨_, rfl⟩
 have hu0 : 0 ≤ u := by omega
 have hut : u.tmod 1000 = u % 1000 := tmod_pos hu0
 rw [hu]
 go_enter Tryz.func88, Tryz.ntmps88
 go_wp2_with fail
 go_region_held3 (fun w' => w'.cell? ⟨w.heap.size, 0, none⟩ = some (.int .i64 c) ∧ w'.cell? ⟨w.heap.size, 1, none⟩ = some (.int .i64 d) ∧ w'.cell? ⟨w.heap.size, 2, none⟩ = some (.int .i64 a)) (go_keep) (first | (go_at_call 83; refine (HA _).mono ?_; rintro e w' ⟨rfl, rfl⟩))
 all_goals go_wp2
 all_goals exact bodyPost_ret (v := .agg #[.int .i64 V, .int .i64 f, .int .i64 q, .int .i64 (-1), .int .i64 c, .int .i64 (u % 1000)]) (by simp [results, Tryz.results88, go_sem]) rfl ⟨rfl, (((Below.refl _ w).alloc (Nat.le_refl _) _).alloc (by simp) _).drew⟩
end Go.Proofs.YtiaopafkfadmkaaGreat
namespace Go.Proofs.YtiaopafkfadmkaaGreat
open Go.RowKit Go.Shelf
set_option maxHeartbeats 2000000 in
theorem rabove_any (w : World) (a : Option Addr) (c : Nat) (zs : List Int) (v : Int) (h : RdI w w.heap.size a zs) (hl : zs.length ≤ 9223372036854775807) :
  Calls Tryz.prog 132 #[.slice a zs.length c, .int .i64 v] w fun e w' => ∃ a' c', e = .returned (.slice a' (abv zs v).length c') ∧ RdI w' w'.heap.size a' (abv zs v) ∧ Below w.heap.size w w' := by
 obtain ⟨i0, hi, hz0, hz1, hz2⟩ := info_parts info3
 have hB0 : Below w.heap.size w (w.alloc (.cells #[] 3)) := (Below.refl _ _).alloc (Nat.le_refl _) _
 have C := trcheck_any (w.alloc (.cells #[] 3)) w.heap.size a c zs (h.below hB0) hl
 have HRD : Hid _ := h
 clear h
 by_cases hok : OKT zs ∧ 0 ≤ v ∧ v < zs.length
 ·obtain ⟨hok, hv0, hv1⟩ := hok
  rw [chk_ok hok] at C
  have hd0 : decide (v < 0) = false := by simpa using hv0
  have hd1 : decide ((zs.length : Int) ≤ v) = false := by simpa using hv1
  have hAL := abv_len zs v
  have e1 := abv_ok hok hv0 hv1
  obtain ⟨xs, hxs⟩ : ∃ xs, abv zs v = xs := ⟨_, rfl⟩
  rw [hxs] at hAL e1 ⊢
  have HX : Hid _ := e1
  have HOK : Hid _ := hok
  clear hxs e1 hok
  go_enter Tryz.func132, Tryz.ntmps132
  go_wp2_with (go_at_call 99; refine C.mono ?_; rintro e w' ⟨rfl, rfl⟩)
  go_loopw [1, 5] (fun s1 s5 wr => ∃ (pre : List Int) (u : Int), s1 = .int .i64 u ∧ -1 ≤ u ∧ u < zs.length ∧ Hid (xs = pre ++ ups zs u) ∧ Hid (Row w wr s5 pre)) (fun s1 _ _ => (intOf s1 + 1).toNat)
  case atStart => exact ⟨[], v, rfl, by omega, by omega, by show xs = [] ++ ups zs v; simpa using HX.out, Row.empty w⟩
  case round =>
   obtain ⟨pre, u, rfl, hu0, hu1, HXS, HW⟩ := hrel
   by_cases hun : u < 0
   ·have hd2 : decide (0 ≤ u) = false := by simp; omega
    have hW : Row _ _ _ _ := HW.out
    have e2 : pre = xs := by rw [HXS.out, ups_neg zs u hun, List.append_nil]
    rw [e2] at hW
    obtain ⟨a', c', rfl, hRd⟩ := hW.rd
    have HRD2 : Hid _ := hRd
    clear hRd e2
    go_wp2
    go_ret
    exact ⟨a', c', rfl, HRD2.out, hW.2⟩
   ·have hst := ups_step HOK.out u (by omega) hu1
    have hpl : pre.length < 16 := by
     have := congrArg List.length HXS.out
     rw [hst] at this
     simp at this
     omega
    obtain ⟨b, off, rfl, hb, hc⟩ := (RdI.below HRD.out HW.out.2) (by intro e; rw [e] at hu1; simp at hu1; omega)
    obtain ⟨k, rfl⟩ := Int.eq_ofNat_of_zero_le (show 0 ≤ u by omega)
    have hkl : k < zs.length := by omega
    have x0 := fun W (hb' : Below w.heap.size wr W) => (hb'.cell (p := ⟨b, off + k, none⟩) hb).trans (hc k hkl)
    clear hc
    have hpk := HOK.out.2.2 k (by omega)
    obtain ⟨x, hx⟩ : ∃ x, nthI zs k = x := ⟨_, rfl⟩
    rw [hx] at x0 hpk
    have HXX : Hid _ := hx
    have HST : Hid _ := hst
    have hk' : (k : Int) < (zs.length : Int) := by omega
    have hk0 : (0 : Int) ≤ (k : Int) := by omega
    have HX0 : Hid _ := x0
    clear hx hst x0
    go_wp2_with (at_builtin; refine wpList_append_own _ rfl _ _ 22 rfl w.heap.size 3 i0 (.int .i64 0) 1 8 Tryz.underlying22 hi hz0 hz1 hz2 rfl (by decide) _ _ _ rfl (HW.out.1.alloc _) ⟨wr.heap.size, 0, none⟩ 1 1 [.int .i64 k] rfl rfl (cell_one_new _ _ _) (by simp [Value.oneCell']) (by unfold maxLen; omega) (by omega) (by have := HW.out.2.size; simp; omega) ?_)
    intro v' w2 hown' hgrow _
    have HW2 : Hid _ := Row.app HW.out hown' hgrow
    have hbw : Below w.heap.size wr w2 := ((Below.refl w.heap.size wr).alloc HW.out.2.size _).grown hgrow (by have := HW.out.2.size; simp; omega) (fun k e => row_ge HW.out.1 e)
    have x2 := HX0.out w2 hbw
    clear hown' hgrow hbw
    go_wp2
    go_roundw
    case rel =>
     refine ⟨pre ++ [(k : Int)], x, rfl, hpk.1, by omega, ?_, HW2.out⟩
     show xs = pre ++ [(k : Int)] ++ ups zs x
     rw [HXS.out, HST.out, List.append_assoc]
     congr 1
     show _ = (k : Int) :: ups zs x
     rw [show ((k : Int)).toNat = k by simp, HXX.out]
    case measure => simp [intOf]; omega
 ·rw [abv_no hok]
  by_cases hk : OKT zs
  ·rw [chk_ok hk] at C
   by_cases hv0 : v < 0
   ·have hd0 : decide (v < 0) = true := by simpa using hv0
    go_enter Tryz.func132, Tryz.ntmps132
    go_wp2_with (go_at_call 99; refine C.mono ?_; rintro e w' ⟨rfl, rfl⟩)
    go_ret
    exact ⟨_, _, rfl, fun g => absurd rfl g, hB0⟩
   ·have hd0 : decide (v < 0) = false := by simpa using hv0
    have hv1 : (zs.length : Int) ≤ v := by
     rcases Int.lt_or_le v zs.length with g | g
     ·exact absurd ⟨hk, by omega, g⟩ hok
     ·exact g
    have hd1 : decide ((zs.length : Int) ≤ v) = true := by simpa using hv1
    go_enter Tryz.func132, Tryz.ntmps132
    go_wp2_with (go_at_call 99; refine C.mono ?_; rintro e w' ⟨rfl, rfl⟩)
    go_ret
    exact ⟨_, _, rfl, fun g => absurd rfl g, hB0⟩
  ·rw [chk_no hk] at C
   go_enter Tryz.func132, Tryz.ntmps132
   go_wp2_with (go_at_call 99; refine C.mono ?_; rintro e w' ⟨rfl, rfl⟩)
   go_ret
   exact ⟨_, _, rfl, fun g => absurd rfl g, hB0⟩
end Go.Proofs.YtiaopafkfadmkaaGreat
namespace Go.Proofs.YtiaopafkfadmkaaGreat
open Go.RowKit Go.Shelf
set_option maxHeartbeats 1000000 in
theorem rstep_any (w : World) (a : Option Addr) (cp : Nat) (l : List Rl) (s c : Int) (h : RdR w a l) (hl : Lt l) :
  Calls Tryz.prog 38 #[.slice a l.length cp, .int .i64 s, .int .i64 c] w fun e w' => ∃ a' c', e = .returned (.tuple #[.int .i64 (stp l s c).1, .slice a' (stp l s c).2.length c']) ∧ RowO w w' (.slice a' (stp l s c).2.length c') (stp l s c).2 := by
 have mixed : Tryz.prog.follows .mixedOrders = true := by kernel_rfl
 have F := rfind_any w a cp l s c h (by have := hl.1; omega)
 rcases idxP_cases (isB s c) l with ⟨e, _⟩ | ⟨k, hk, e, _⟩
 ·rw [stp_no e]
  rw [← fnd_idx] at e
  rw [e] at F
  dsimp only
  clear h hl e
  go_enter Tryz.func38, Tryz.ntmps38
  go_wp2_with (go_at_call 87; refine F.mono ?_; rintro e w' ⟨rfl, rfl⟩)
  go_ret2
  exact ⟨_, _, rfl, RowO.nil w⟩
 ·rw [stp_at e]
  rw [← fnd_idx] at e
  rw [e] at F
  dsimp only
  obtain ⟨r, hr⟩ : ∃ r, nthR l k = r := ⟨_, rfl⟩
  rw [hr]
  have HL : Hid (r.os.length ≤ 20) := hr ▸ hl.2 _ (nthR_mem hk)
  have hll := hl.1
  obtain ⟨b, off, rfl, hB, _, _, x2, x3⟩ := h.cells hk hr
  have hrd := (h.at hk hr).2.2
  have hk' : (k : Int) < (l.length : Int) := by omega
  obtain ⟨a', c', w', hrun, hRO⟩ := append_O (c := r.sc) ((RowO.empty w).below ((Below.refl _ _).drew)) (hrd.below ((RowO.empty w).2.drew)) (by simp) (by have := HL.out; omega) 72 r.os rfl
  have y2 := (hRO.2.cell (p := ⟨b, off + k * 4 + 2, none⟩) hB).trans x2
  have y3 := (hRO.2.cell (p := ⟨b, off + k * 4 + 3, none⟩) hB).trans x3
  have HRUN : Hid _ := hrun
  have HRO : Hid _ := hRO
  clear h hl e hr hrd hrun hRO
  go_enter Tryz.func38, Tryz.ntmps38
  go_wp2_with (go_at_call 87; refine F.mono ?_; rintro e w' ⟨rfl, rfl⟩)
  go_region_law (refine step_append_run rfl (.tmp 23) (.tmp 28) 72 rfl (by simp [Act.eval]) (by simp [Act.eval]) HRUN.out ?_)
  all_goals go_wp2
  all_goals go_ret2
  all_goals exact ⟨_, _, rfl, HRO.out⟩
end Go.Proofs.YtiaopafkfadmkaaGreat
namespace Go.Proofs.YtiaopafkfadmkaaGreat
open Go.RowKit Go.Shelf
theorem any_swap (a b : List Int) : a.any (fun x => decide (x ∈ b)) = b.any (fun x => decide (x ∈ a)) := by
 rw [Bool.eq_iff_iff, List.any_eq_true, List.any_eq_true]
 constructor
 ·rintro ⟨x, h1, h2⟩; exact ⟨x, of_decide_eq_true h2, decide_eq_true h1⟩
 ·rintro ⟨x, h1, h2⟩; exact ⟨x, of_decide_eq_true h2, decide_eq_true h1⟩
theorem any_take_succ (l : List Int) (p : Int → Bool) (j : Nat) (h : j < l.length) : (l.take (j + 1)).any p = ((l.take j).any p || p (nthI l j)) := by
 rw [List.take_add_one, List.any_append]
 simp [nthI, h]
set_option maxHeartbeats 2000000 in
theorem rroutes_any (w : World) (d : Wd) (f c : Int) (h : Ww w d) :
  Calls Tryz.prog 89 #[wv d, .int .i64 f, .int .i64 c] w fun e w' => ∃ v, e = .returned v ∧ Row w w' v (rts d f c) := by
 have mixed : Tryz.prog.follows .mixedOrders = true := by kernel_rfl
 obtain ⟨i0, hi, hz0, hz1, hz2⟩ := info_parts info3
 obtain ⟨W0, hW0⟩ : ∃ W0, W0 = w.alloc (.cells (wcs d) 25) := ⟨_, rfl⟩
 have hb0 : Below w.heap.size w W0 := by rw [hW0]; exact (Below.refl _ w).alloc (Nat.le_refl _) _
 have BX : BoxW W0 w.heap.size d := by rw [hW0]; exact BoxW.new h
 obtain ⟨B, hB⟩ : ∃ B, w.heap.size = B := ⟨_, rfl⟩
 rw [hB] at BX
 have HBE : Hid _ := hB
 have HW0 : Hid _ := hW0
 have HX : Hid _ := BX
 have x0 := BX.c0
 have lB := clt x0
 dsimp only at lB
 have CA := rabove_any W0 d.pa d.pc d.ps c BX.ok.p (by have := h.pl; omega)
 have hal := abv_len d.ps c
 obtain ⟨ab, hab⟩ : ∃ ab, abv d.ps c = ab := ⟨_, rfl⟩
 rw [hab] at CA hal
 have HAB : Hid _ := hab
 rw [hW0] at x0 CA
 have hfl := h.fl
 have HLT : Hid _ := h.lt
 dsimp only [wcs] at x0 CA HW0
 dsimp only [wv]
 obtain ⟨fa, hfa⟩ : ∃ fa, d.fa = fa := ⟨_, rfl⟩
 have HFA : Hid _ := hfa
 simp only [hfa] at x0 CA HW0 ⊢
 clear h hW0 BX hfa hab
 go_enter Tryz.func89, Tryz.ntmps89
 go_wp2_with fail
 refine CA.mono ?_
 rintro e w1 ⟨a', c', rfl, hR, hb1⟩
 rw [← HW0.out] at hb1
 have HRA : Hid _ := hR
 clear CA x0 hR
 go_wp2_with fail
 clear hB
 go_loopw [9, 8] (fun s9 s8 wr => ∃ k : Nat, k ≤ d.fs.length ∧ s9 = .int .i64 k ∧ Hid (Row w1 wr s8 (rtsF d f c k))) (fun s9 _ _ => d.fs.length - (intOf s9).toNat)
 case atStart => exact ⟨0, Nat.zero_le _, rfl, (Row.empty w1 : Row w1 _ _ [])⟩
 case round =>
  obtain ⟨k, hk, rfl, HW⟩ := hrel
  have hbw : Below w1.heap.size w1 wr := HW.out.2
  have hbw0 := hb1.trans (hbw.mono hb1.size)
  have y1 := ((HX.out).below hbw0).c1
  rw [HFA.out] at y1
  have lBr : B < wr.heap.size := Nat.lt_of_lt_of_le lB hbw0.size
  by_cases hkl : k < d.fs.length
  ·have hk' : (k : Int) < (d.fs.length : Int) := by omega
   obtain ⟨g, hg⟩ : ∃ g, nthF d.fs k = g := ⟨_, rfl⟩
   have hRF := ((HX.out).below hbw0).ok.f
   rw [HFA.out] at hRF
   obtain ⟨b, off, rfl, hbb, z0, z1, z2, z3, z4, z5, z6⟩ := hRF.cells hkl hg
   have hok := hRF.at hkl hg
   have hlt := HLT.out g (hg ▸ nthF_mem hkl)
   have hss : g.ss.length ≤ 50 := hlt.s
   have HRE : Hid _ := hg
   have HZ : Hid (∀ W, Below wr.heap.size wr W → W.cell? ⟨B, 1, none⟩ = some (.slice (some ⟨b, off, none⟩) d.fs.length d.fc) ∧ W.cell? ⟨b, off + k * 7 + 5, none⟩ = some (.slice g.sa g.ss.length g.sc) ∧ RdI W W.heap.size a' ab ∧ RdI W W.heap.size g.sa g.ss) := fun W hW =>
    ⟨(hW.cell (p := ⟨B, 1, none⟩) lBr).trans y1, (hW.cell (p := ⟨b, off + k * 7 + 5, none⟩) hbb).trans z5, RdI.belo (RdI.belo HRA.out hbw) hW, RdI.belo hok.s hW⟩
   have hhr : Hid (hrs d c g = ab.any (fun x => decide (x ∈ g.ss))) := by
    show hrs d c g = _
    unfold hrs
    rw [HAB.out, any_swap]
   have hpl : (rtsF d f c k).length ≤ 20 := Nat.le_trans (rtsF_len d f c k) (by omega)
   clear hg hRF hok hlt z0 z1 z2 z3 z4 z5 z6
   go_wp2_with fail
   go_loopw [11, 10] (fun s11 s10 wq => ∃ j : Nat, j ≤ ab.length ∧ s11 = .int .i64 j ∧ s10 = .bool ((ab.take j).any (fun x => decide (x ∈ g.ss))) ∧ Below wr.heap.size wr wq) (fun s11 _ _ => ab.length - (intOf s11).toNat)
   case atStart => exact ⟨0, Nat.zero_le _, rfl, rfl, Below.refl _ _⟩
   case round =>
    obtain ⟨j, hj, rfl, rfl, hbq⟩ := hrel
    by_cases hjl : j < ab.length
    ·have hj' : (j : Int) < (ab.length : Int) := by omega
     obtain ⟨q1, q5, qa, qs⟩ := HZ.out wr hbq
     obtain ⟨b2, off2, rfl, hb2, hc2⟩ := qa (by intro e; simp [e] at hjl)
     have x0 := hc2 j hjl
     have HTS : Hid _ := any_take_succ ab (fun x => decide (x ∈ g.ss)) j hjl
     obtain ⟨x, hx⟩ : ∃ x, nthI ab j = x := ⟨_, rfl⟩
     rw [hx] at x0
     rw [hx] at HTS
     have HC : ∀ n, Calls Tryz.prog 133 #[.slice g.sa g.ss.length g.sc, .int .i64 x] (wr.drewN n) fun e w' => e = .returned (.bool (decide (x ∈ g.ss))) ∧ w' = wr.drewN n := fun n => rhas_any (wr.drewN n) _ g.sa g.sc g.ss x (RdI.belo qs (below_drewN _ _ n)) (by omega)
     obtain ⟨H, hH⟩ : ∃ H, (ab.take j).any (fun x => decide (x ∈ g.ss)) = H := ⟨_, rfl⟩
     rw [hH] at HTS
     obtain ⟨N, hN⟩ : ∃ N, decide (x ∈ g.ss) = N := ⟨_, rfl⟩
     rw [hN] at HTS HC
     rw [hH]
     clear hx hc2 hH hN qs qa
     cases H with
     | true =>
      go_wp2_with fail
      go_quiet (first | (go_at_call 133; refine Calls.quiet_of_same (HC _)))
      go_wp2
      go_roundw
      case rel => exact ⟨j + 1, by omega, by go_num, by rw [HTS.out]; rfl, hbq.trans (below_drewN _ _ _)⟩
      case measure => simp [intOf]; omega
     | false =>
      go_wp2_with fail
      go_quiet (first | (go_at_call 133; refine Calls.quiet_of_same (HC _)))
      go_wp2
      go_roundw
      case rel => exact ⟨j + 1, by omega, by go_num, by rw [HTS.out]; cases N <;> rfl, hbq.trans (below_drewN _ _ _)⟩
      case measure => simp [intOf]; omega
    ·obtain rfl : j = ab.length := by omega
     rw [List.take_of_length_le (Nat.le_refl _)]
     obtain ⟨H, hH⟩ : ∃ H, ab.any (fun x => decide (x ∈ g.ss)) = H := ⟨_, rfl⟩
     rw [hH] at hhr ⊢
     have HW1 : Hid _ := Row.below HW.out hbq
     clear hH
     by_cases hkf : (k : Int) = f
     ·have kb : ((k : Int) != f) = false := by simpa using hkf
      have HKF : Hid _ := hkf
      clear hkf
      go_wp2_with fail
      go_roundw
      case rel =>
       refine ⟨k + 1, by omega, by go_num, ?_⟩
       show Row w1 _ _ (rtsF d f c (k + 1))
       rw [rtsF_own HKF.out]
       exact HW1.out
      case measure => simp [intOf]; omega
     ·have kb : ((k : Int) != f) = true := by simpa using hkf
      have HKF : Hid _ := hkf
      clear hkf
      cases H with
      | false =>
       go_wp2_with fail
       go_roundw
       case rel =>
        refine ⟨k + 1, by omega, by go_num, ?_⟩
        show Row w1 _ _ (rtsF d f c (k + 1))
        rw [rtsF_not (by rw [HRE.out]; exact hhr.out)]
        exact HW1.out
       case measure => simp [intOf]; omega
      | true =>
       have hsz : w1.heap.size ≤ wr.heap.size := (Row.below HW.out hbq).2.size
       go_wp2_with (at_builtin; refine wpList_append_own _ rfl _ _ 22 rfl w1.heap.size 3 i0 (.int .i64 0) 1 8 Tryz.underlying22 hi hz0 hz1 hz2 rfl (by decide) _ _ _ rfl (HW1.out.1.alloc _) ⟨wr.heap.size, 0, none⟩ 1 1 [.int .i64 k] rfl rfl (cell_one_new _ _ _) (by simp [Value.oneCell']) (by unfold maxLen; omega) (by omega) (by simp; omega) ?_)
       intro v' w4 hown' hgrow _
       have HW4 : Hid _ := Row.app HW1.out hown' hgrow
       clear hown' hgrow
       go_wp2_with fail
       go_roundw
       case rel =>
        refine ⟨k + 1, by omega, by go_num, ?_⟩
        show Row w1 _ _ (rtsF d f c (k + 1))
        rw [rtsF_yes HKF.out (by rw [HRE.out]; exact hhr.out)]
        exact HW4.out
       case measure => simp [intOf]; omega
  ·obtain rfl : k = d.fs.length := by omega
   go_wp2_with fail
   go_ret
   exact ⟨_, rfl, Row.since HW.out (hb0.trans (hb1.mono hb0.size))⟩
end Go.Proofs.YtiaopafkfadmkaaGreat
namespace Go.Proofs.YtiaopafkfadmkaaGreat
open Go.RowKit Go.Shelf
set_option maxHeartbeats 4000000 in
theorem rspread_any (w : World) (d : Wd) (f q n b : Int) (a : Option Addr) (cp : Nat) (os : List O) (h : Ww w d) (hs : RdO w a os) (hl : os.length ≤ 20) (hq0 : 0 ≤ q) (hq1 : q ≤ 1099511627776) :
  Calls Tryz.prog 39 #[wv d, .int .i64 f, .int .i64 q, .int .i64 n, .int .i64 b, .slice a os.length cp] w fun e w' => ∃ v, e = .returned v ∧ RowM w w' v (spr d f q n b os) := by
 obtain ⟨W0, hW0⟩ : ∃ W0, W0 = w.alloc (.cells (wcs d) 25) := ⟨_, rfl⟩
 have hb0 : Below w.heap.size w W0 := by rw [hW0]; exact (Below.refl _ w).alloc (Nat.le_refl _) _
 have HX : Hid (BoxW W0 w.heap.size d) := by rw [hW0]; exact BoxW.new h
 have HS : Hid (RdO W0 a os) := hs.below hb0
 obtain ⟨B, hB⟩ : ∃ B, w.heap.size = B := ⟨_, rfl⟩
 rw [hB] at HX
 have HBE : Hid _ := hB
 have HW0 : Hid _ := hW0
 have hfl := h.fl
 dsimp only [wcs] at HW0
 dsimp only [wv]
 clear h hW0 hs
 go_enter Tryz.func39, Tryz.ntmps39
 go_wp2_with fail
 rw [← HW0.out]
 clear hB
 go_loopw [14, 13] (fun s14 s13 wr => ∃ k : Nat, k ≤ os.length ∧ s14 = .int .i64 k ∧ Hid (RowM W0 wr s13 (sprF d f q n b os k))) (fun s14 _ _ => os.length - (intOf s14).toNat)
 case atStart => exact ⟨0, Nat.zero_le _, rfl, (by have e : W0.heap.size = B + 1 := (by rw [HW0.out, ← HBE.out]; simp); have := RowM.empty W0; rw [e] at this; exact this : RowM W0 _ _ [])⟩
 case round =>
  obtain ⟨k, hk, rfl, HW⟩ := hrel
  have hbw : Below W0.heap.size W0 wr := HW.out.2
  by_cases hkl : k < os.length
  ·have hk' : (k : Int) < (os.length : Int) := by omega
   obtain ⟨o, ho⟩ : ∃ o, nthO os k = o := ⟨_, rfl⟩
   obtain ⟨ob, off, rfl, hbb, x0, x1, x2⟩ := (RdO.below HS.out hbw).cells hkl ho
   have HRE : Hid _ := ho
   obtain ⟨c, e, g⟩ := o
   dsimp only at x0 x1 x2
   have S := rsent_any wr f (q + (k : Int)) n b c e g
   dsimp only [sentV] at S
   obtain ⟨T, hT⟩ : ∃ T, vadd n e = T := ⟨_, rfl⟩
   obtain ⟨D, hD⟩ : ∃ D, (b + g) % 1000 = D := ⟨_, rfl⟩
   rw [hT, hD] at S
   have HXE : Hid (sentM f (q + (k : Int)) n b (c, e, g) = ⟨T, f, q + (k : Int), -1, c, D⟩) := by rw [← hT, ← hD]; rfl
   have hq : IntKind.i64.wrap (q + (k : Int)) = q + (k : Int) := by rw [IntKind.wrap_i64]; omega
   have hpl : (sprF d f q n b os k).length ≤ 400 := Nat.le_trans (sprF_len hfl f q n b os k) (by omega)
   have HSU : Hid (sprF d f q n b os (k + 1) = sprF d f q n b os k ++ (rts d f c).map (toM ⟨T, f, q + (k : Int), -1, c, D⟩)) := by
    show sprF d f q n b os (k + 1) = _
    rw [sprF_succ]
    unfold oneM
    rw [HRE.out, HXE.out]
   have hrl : (rts d f c).length ≤ 20 := Nat.le_trans (rtsF_len d f c _) hfl
   have HR := fun W (hW : Ww W d) => rroutes_any W d f c hW
   obtain ⟨L, hL⟩ : ∃ L, rts d f c = L := ⟨_, rfl⟩
   obtain ⟨P, hP⟩ : ∃ P, sprF d f q n b os k = P := ⟨_, rfl⟩
   simp only [hL, hP] at HSU hrl HR hpl HW
   have HHR : Hid _ := HR
   clear ho hT hD HR hL hP
   go_wp2_with fail
   refine S.mono ?_
   rintro e' w2 ⟨rfl, hb2⟩
   have hb2' := hb2
   have hb3 : Below w2.heap.size w2 (w2.alloc (.cells (mcs ⟨T, f, q + (k : Int), -1, c, D⟩) 39)) := (Below.refl _ _).alloc (Nat.le_refl _) _
   have hbw3 := hbw.trans ((hb2'.trans (hb3.mono hb2'.size)).mono hbw.size)
   have y := ((HX.out).below hbw3)
   have z0 := (BoxM.new w2 ⟨T, f, q + (k : Int), -1, c, D⟩).cells.2.2.2.2.1
   have RT := (HHR.out) _ y.ok
   obtain ⟨y0, y1, y2, _⟩ := y
   have HB3 : Hid _ := hb3
   have HB2 : Hid _ := hb2'
   dsimp only [wv, mcs] at RT y0 y1 y2 z0
   clear S hb2 hb3 hb2' x0 x1 x2
   go_wp2_with fail
   refine RT.mono ?_
   rintro e' w4 ⟨vt, rfl, hrt⟩
   obtain ⟨ta, tc, rfl, htp⟩ := Row.parts hrt
   have MK : Mk W0 w4 w2.heap.size u13 ⟨T, f, q + (k : Int), -1, c, D⟩ w4 u13 P := Mk.start HW.out HB2.out hrt.2 rfl
   have HTP : Hid (L ≠ [] → ∃ g, ta = some ⟨g, 0, none⟩ ∧ w2.heap.size < g ∧ u13.ownBlock ≠ some g ∧ g < w4.heap.size ∧ ∀ i, i < L.length → w4.cell? ⟨g, i, none⟩ = some (.int .i64 (nthI L i))) := fun hne => by
    obtain ⟨g, e1, e2, e3, e4⟩ := htp hne
    simp at e2
    refine ⟨g, e1, by omega, fun e => ?_, e3, e4⟩
    have := RowM.own_lt HW.out e
    have := (HB2.out).size
    omega
   obtain ⟨MB, hMB⟩ : ∃ MB, w2.heap.size = MB := ⟨_, rfl⟩
   rw [hMB] at MK HTP
   have HMK : Hid _ := MK
   have HMB : Hid _ := hMB
   clear RT hrt htp MK y0 y1 y2 z0
   go_wp2_with fail
   clear hMB hbw hbw3
   go_loopw [17, 13] (fun s17 s13 wr => ∃ j : Nat, j ≤ L.length ∧ s17 = .int .i64 j ∧ Hid (Mk W0 w4 MB u13 ⟨T, f, q + (k : Int), -1, c, D⟩ wr s13 (P ++ (L.take j).map (toM ⟨T, f, q + (k : Int), -1, c, D⟩)))) (fun s17 _ _ => L.length - (intOf s17).toNat)
   case atStart => exact ⟨0, Nat.zero_le _, rfl, (by simpa using HMK.out : Mk W0 w4 MB u13 _ w4 u13 (P ++ (L.take 0).map _))⟩
   case round =>
    obtain ⟨j, hj, rfl, HM⟩ := hrel
    by_cases hjl : j < L.length
    ·have hj' : (j : Int) < (L.length : Int) := by omega
     obtain ⟨gb, rfl, h1, h2, h3, h4⟩ := HTP.out (by intro e; simp [e] at hjl)
     have t0 : wr.cell? ⟨gb, j, none⟩ = some (.int .i64 (nthI L j)) := ((Mk.fr HM.out).cell (p := ⟨gb, j, none⟩) h3 (by rintro (e | e); (dsimp only at e; omega); exact h2 e)).trans (h4 j hjl)
     obtain ⟨t, ht⟩ : ∃ t, nthI L j = t := ⟨_, rfl⟩
     rw [ht] at t0
     obtain ⟨t1, hbx⟩ := Mk.bx HM.out
     obtain ⟨_, _, _, _, _, _, mf⟩ := hbx.cells
     have mf3 := mf 3
     have hMBl := hbx.lt
     have m3 := hbx.cells.2.2.2.1
     obtain ⟨n0, n1, n2, n3, n4, n5, _⟩ := (BoxM.set hbx t).cells
     have hlen : (P ++ (L.take j).map (toM ⟨T, f, q + (k : Int), -1, c, D⟩)).length ≤ 100000 := by rw [List.length_append, List.length_map, List.length_take]; omega
     obtain ⟨a', c', w', hrun, hMk⟩ := Mk.step HM.out t hlen 53 (P ++ (L.take (j + 1)).map (toM ⟨T, f, q + (k : Int), -1, c, D⟩)) (by rw [List.append_assoc, ← ht, take_map_succ _ _ _ hjl])
     obtain ⟨X, hX⟩ : ∃ X, P ++ (L.take (j + 1)).map (toM ⟨T, f, q + (k : Int), -1, c, D⟩) = X := ⟨_, rfl⟩
     rw [hX] at hrun hMk
     have HRUN : Hid _ := hrun
     have HMK2 : Hid _ := hMk
     have HXX : Hid _ := hX
     dsimp only [mcs, toM] at HRUN n0 n1 n2 n3 n4 n5 m3
     clear h1 h2 h3 h4 ht mf hbx hrun hMk hX hlen
     go_wp2_with (at_builtin; refine wpList_append_run _ rfl _ _ 53 rfl rfl rfl HRUN.out ?_)
     go_roundw
     case rel =>
      refine ⟨j + 1, by omega, by go_num, ?_⟩
      show Mk _ _ _ _ _ _ _ (P ++ (L.take (j + 1)).map _)
      rw [HXX.out]
      exact HMK2.out
     case measure => simp [intOf]; omega
    ·obtain rfl : j = L.length := by omega
     go_wp2_with fail
     go_roundw
     case rel =>
      refine ⟨k + 1, by omega, by go_num, ?_⟩
      show RowM _ _ _ (sprF d f q n b os (k + 1))
      rw [HSU.out]
      have := Mk.row HM.out
      rwa [List.take_of_length_le (Nat.le_refl _)] at this
     case measure => simp [intOf]; omega
  ·obtain rfl : k = os.length := by omega
   go_wp2_with fail
   go_ret
   exact ⟨_, rfl, RowM.since HW.out hb0⟩
end Go.Proofs.YtiaopafkfadmkaaGreat
namespace Go.Proofs.YtiaopafkfadmkaaGreat
open Go.RowKit Go.Shelf
end Go.Proofs.YtiaopafkfadmkaaGreat
