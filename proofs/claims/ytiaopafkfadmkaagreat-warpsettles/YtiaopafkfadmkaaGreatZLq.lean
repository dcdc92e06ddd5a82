/- Joined: the texts that follow, each with its own sentence. -/
import Derived.Test.YtiaopafkfadmkaaGreatZJg
import Derived.Test.YtiaopafkfadmkaaGreatZVb
import Derived.Deep.QuietTactic
import Derived.BigQuiet
import Derived.Test.YtiaopafkfadmkaaGreatZLo
import Derived.Test.YtiaopafkfadmkaaGreatZJh
set_option linter.unusedVariables false
set_option maxRecDepth 100000
namespace Go.Proofs.YtiaopafkfadmkaaGreat
open Go.RowKit Go.Shelf
set_option maxHeartbeats 400000 in
theorem sameD_yes (w : World) (a b : Option Addr) (c d : Nat) (l : List Dn) (ha : RdD w a l) (hb : RdD w b l) (hl : l.length ≤ 100000) :
  Calls Tryz.prog 20 #[.slice a l.length c, .slice b l.length d] w fun e w' => e = .returned (.bool true) ∧ Below w.heap.size w w' := by
 have mixed : Tryz.prog.follows .mixedOrders = true := by kernel_rfl
 have HA : Hid _ := ha
 have HB : Hid _ := hb
 clear ha hb
 go_enter Tryz.func20, Tryz.ntmps20
 go_wp2_with fail
 go_loopw [5] (fun s5 wr => ∃ k : Nat, k ≤ l.length ∧ s5 = .int .i64 k ∧ Below w.heap.size w wr) (fun s5 _ => l.length - (intOf s5).toNat)
 case atStart => exact ⟨0, Nat.zero_le _, rfl, Below.refl _ _⟩
 case round =>
  obtain ⟨k, hk, rfl, hbw⟩ := hrel
  by_cases hkl : k < l.length
  ·have hk' : (k : Int) < (l.length : Int) := by omega
   obtain ⟨x, hx⟩ : ∃ x, nthD l k = x := ⟨_, rfl⟩
   obtain ⟨b1, o1, rfl, _, x0, x1, x2, x3, x4, x5, x6⟩ := (RdD.below HA.out hbw).cells hkl hx
   obtain ⟨b2, o2, rfl, _, y0, y1, y2, y3, y4, y5, y6⟩ := (RdD.below HB.out hbw).cells hkl hx
   clear hx
   go_wp2_with fail
   go_quiet (fail)
   go_wp2
   go_roundw
   case rel => exact ⟨k + 1, by omega, by go_num, hbw.trans (below_drewN _ _ _)⟩
   case measure => simp [intOf]; omega
  ·obtain rfl : k = l.length := by omega
   go_wp2
   go_ret
   exact ⟨rfl, hbw⟩
theorem V.rdD_of {w : World} {a : Option Addr} {l : List Dn} {N : Nat → Prop} (h : B.RdN V.cD N w a l) : RdD w a l := fun g => by
 obtain ⟨b, off, e, hb, _, hc⟩ := h g
 exact ⟨b, off, e, hb, hc⟩
end Go.Proofs.YtiaopafkfadmkaaGreat
namespace Go.Proofs.YtiaopafkfadmkaaGreat.V
open Go.Proofs.YtiaopafkfadmkaaGreat.B (Cd OwR RdN)
open Go.RowKit Go.Shelf
structure T2 {α β : Type} (Ca : Cd α) (ea : TypeId) (Cb : Cd β) (eb : TypeId) (w W : World) (va vb : Value) (A : List α) (B : List β) : Prop where
 ra : OwR Ca ea W va A
 rb : OwR Cb eb W vb B
 na : ∀ k, va.ownBlock = some k → w.heap.size ≤ k
 nb : ∀ k, vb.ownBlock = some k → w.heap.size ≤ k
 ne : ∀ k, va.ownBlock = some k → vb.ownBlock ≠ some k
 bel : Below w.heap.size w W
theorem T2.on {α β : Type} {Ca : Cd α} {ea : TypeId} {Cb : Cd β} {eb : TypeId} {w W W2 : World} {va vb : Value} {A : List α} {B : List β} (h : T2 Ca ea Cb eb w W va vb A B) (hb : Below W.heap.size W W2) : T2 Ca ea Cb eb w W2 va vb A B := ⟨h.ra.below hb, h.rb.below hb, h.na, h.nb, h.ne, h.bel.trans (hb.mono h.bel.size)⟩
theorem T2.flip {α β : Type} {Ca : Cd α} {ea : TypeId} {Cb : Cd β} {eb : TypeId} {w W : World} {va vb : Value} {A : List α} {B : List β} (h : T2 Ca ea Cb eb w W va vb A B) : T2 Cb eb Ca ea w W vb va B A := ⟨h.rb, h.ra, h.nb, h.na, fun k e f => h.ne k f e, h.bel⟩
theorem T2.app {α β : Type} {Ca : Cd α} {ea : TypeId} {Cb : Cd β} {eb : TypeId} {w W w2 : World} {va vb va' : Value} {A A' : List α} {B : List β} (h : T2 Ca ea Cb eb w W va vb A B) (ho : OwR Ca ea w2 va' A') (hm : Mw (fun k => va.ownBlock = some k) (fun k => va'.ownBlock = some k) W w2) : T2 Ca ea Cb eb w w2 va' vb A' B :=
 ⟨ho, h.rb.keep hm.fr (fun g e s => h.ne g s e), fun k e => G.new_ge h.bel.size h.na hm e, h.nb, fun k e f => h.ne k (hm.new k (h.rb.lt f) e) f, h.bel.trans (hm.fr.below h.bel.size h.na)⟩
theorem T2.start {α β : Type} (Ca : Cd α) (ea : TypeId) (Cb : Cd β) (eb : TypeId) {w W : World} (hb : Below w.heap.size w W) : T2 Ca ea Cb eb w ((W.alloc (.cells #[] ea)).alloc (.cells #[] eb)) (.slice (some ⟨W.heap.size, 0, none⟩) 0 0) (.slice (some ⟨W.heap.size + 1, 0, none⟩) 0 0) [] [] := by
 have e : (W.alloc (.cells #[] ea)).heap.size = W.heap.size + 1 := by simp
 refine ⟨(OwR.made Ca ea W).below (B.al _ _), ?_, fun k e => ?_, fun k e => ?_, fun k e f => ?_, B.Below.on hb (B.Below.on (B.al _ _) (B.al _ _))⟩
 ·have := OwR.made Cb eb (W.alloc (.cells #[] ea))
  rw [e] at this
  exact this
 ·simp [Value.ownBlock] at e
  have := hb.size
  omega
 ·simp [Value.ownBlock] at e
  have := hb.size
  omega
 ·simp [Value.ownBlock] at e f
  omega
abbrev F0 : W.Fe := (Bo 0).F
def setB (al : List Mg) : List Mg := (W.tr F0 0 0 (bel2 al)).flatMap (fun e => e.os)
theorem bo_op {n : Nat} {s k : Int} {m o : Mg} (h : o ∈ ((Bo n).F.tk s k m).2.2) : (Bo n).F.op o = decide (o.2.1 = 1) := by
 rw [bo_tk2] at h
 obtain ⟨y, hy, rfl⟩ := List.mem_map.1 h
 obtain ⟨i, _, _, _, _, _, _, hd⟩ := Go.Proofs.YtiaopafkfadmkaaGreat.spr_mem hy
 obtain ⟨d1, d2, d3⟩ := rts_mem hd
 rw [boD_n] at d2
 show decide (kdD (boD n) y.dst = 1) = decide (y.dst = 1)
 rcases (by omega : y.dst = 1 ∨ y.dst = 2) with e | e
 ·rw [e]
  rfl
 ·rw [e]
  rfl
theorem set_ops {p : List En} (h : ∀ e ∈ p, ∀ o ∈ e.os, F0.op o = decide (o.2.1 = 1)) : (p.flatMap (fun e => e.os)).filter (fun o => decide (o.2.1 = 1)) = W.ou F0 p ∧ (p.flatMap (fun e => e.os)).filter (fun o => !decide (o.2.1 = 1)) = (W.gt F0 p).map (fun y => y.2) := by
 induction p with
 | nil => exact ⟨rfl, rfl⟩
 | cons e r ih =>
  obtain ⟨i1, i2⟩ := ih (fun y hy => h y (List.mem_cons_of_mem _ hy))
  have he := h e (List.mem_cons_self ..)
  have e1 : W.ou F0 (e :: r) = e.os.filter F0.op ++ W.ou F0 r := rfl
  have e2 : W.gt F0 (e :: r) = (e.os.filter (fun o => !F0.op o)).map (fun o => (e.m.1, o)) ++ W.gt F0 r := rfl
  rw [List.flatMap_cons, List.filter_append, List.filter_append, i1, i2, e1, e2, List.map_append, List.map_map]
  refine ⟨?_, ?_⟩
  ·rw [List.filter_congr fun o ho => (he o ho).symm]
  ·rw [List.filter_congr (fun o ho => (by rw [he o ho] : (!decide (o.2.1 = 1)) = !F0.op o))]
   congr 1
   exact (List.map_id' _).symm
theorem set_parts (al : List Mg) : (setB al).filter (fun o => decide (o.2.1 = 1)) = setL al ∧ (setB al).filter (fun o => !decide (o.2.1 = 1)) = setM al :=
 set_ops fun e he o ho => by
  obtain ⟨_, s', n', _, _, _, g5⟩ := tr_mem _ _ _ he
  rw [g5] at ho
  exact bo_op ho
theorem rules_at {V : World} {n : Nat} (h : Ww V (boD n)) : ∃ fb fo, (boD n).fa = some ⟨fb, fo, none⟩ ∧ fb < V.heap.size ∧ V.cell? ⟨fb, fo + 3, none⟩ = some (.slice (boF0 n).ra (boF0 n).rs.length (boF0 n).rc) ∧ RdR V (boF0 n).ra (boF0 n).rs ∧ Lt (boF0 n).rs := by
 obtain ⟨b, off, e, hb, hc⟩ := h.f.1 (by intro g; cases g)
 have h3 := hc 0 (by rw [boD_n]; omega) 3 (by omega)
 obtain ⟨g1, g2⟩ := stp_three h (f := 0) (by rw [boD_n]; decide)
 refine ⟨b, off, e, hb, ?_, g1, g2⟩
 rw [Nat.zero_mul, Nat.add_zero] at h3
 exact h3
theorem rstep_at {V : World} {n : Nat} (h : Ww V (boD n)) (s : Int) :
  Calls Tryz.prog 38 #[.slice (boF0 n).ra (boF0 n).rs.length (boF0 n).rc, .int .i64 s, .int .i64 0] V fun e w' => ∃ a c, e = .returned (.tuple #[.int .i64 (stp (boF0 n).rs s 0).1, .slice a (stp (boF0 n).rs s 0).2.length c]) ∧ RdO w' a (stp (boF0 n).rs s 0).2 ∧ Below V.heap.size V w' := by
 obtain ⟨fb, fo, _, _, _, g1, g2⟩ := rules_at h
 exact (rstep_any V _ _ _ s 0 g1 g2).mono fun e w' ⟨a, c, he, hr⟩ => ⟨a, c, he, own_rdO hr.1, hr.2⟩
theorem rspread_at {V : World} {n : Nat} (h : Ww V (boD n)) (q T g : Int) {a : Option Addr} {cp : Nat} {os : List O} (hs : RdO V a os) (hl : os.length ≤ 20) (hq0 : 0 ≤ q) (hq1 : q ≤ 1099511627776) :
  Calls Tryz.prog 39 #[.agg #[.slice (boD n).pa (boD n).ps.length (boD n).pc, .slice (boD n).fa (boD n).fs.length (boD n).fc, .int .i64 (boD n).en], .int .i64 0, .int .i64 q, .int .i64 T, .int .i64 g, .slice a os.length cp] V fun e w' => ∃ va vc, e = .returned (.slice va ((spr (boD n) 0 q T g os).map m6).length vc) ∧ OwR B.cM 39 w' (.slice va ((spr (boD n) 0 q T g os).map m6).length vc) ((spr (boD n) 0 q T g os).map m6) ∧ (∀ k, (Value.slice va ((spr (boD n) 0 q T g os).map m6).length vc).ownBlock = some k → V.heap.size ≤ k) ∧ Below V.heap.size V w' := by
 refine (rspread_any V (boD n) 0 q T g a cp os h hs hl hq0 hq1).mono fun en w' ⟨vm, he, hr⟩ => ?_
 obtain ⟨va, vc, rfl⟩ := shape_of hr.1
 have hr1 := hr.1
 rw [flatM_six] at hr1
 rw [List.length_map]
 refine ⟨va, vc, he, ?_, fun k e => (own_lt hr1 e).2, hr.2⟩
 show w'.ownsRow 0 _ _ _ _ _
 rw [List.length_map]
 refine ⟨hr1.1, ?_⟩
 rcases hr1.2 with g | ⟨g, cap, cur, e1, e2, e3, e4⟩
 ·exact .inl g
 ·exact .inr ⟨g, cap, cur, e1, Nat.zero_le _, e3, e4⟩
structure L4 (al : List Mg) (Vz : World) (i : Nat) (st sn : Int) (a3 : Option Addr) (n3 c3 : Nat) (a4 : Option Addr) (n4 c4 : Nat) (V : World) : Prop where
 le : i ≤ W.posT 200 al
 st : st = (W.fin F0 0 0 (al.take i)).1
 sn : sn = (W.fin F0 0 0 (al.take i)).2
 l3 : n3 = ((W.tr F0 0 0 (al.take i)).map dn).length
 l4 : n4 = ((W.tr F0 0 0 (al.take i)).flatMap (fun e => e.os)).length
 t : T2 cD 49 B.cM 39 Vz V (.slice a3 n3 c3) (.slice a4 n4 c4) ((W.tr F0 0 0 (al.take i)).map dn) ((W.tr F0 0 0 (al.take i)).flatMap (fun e => e.os))
theorem L4.start (al : List Mg) {Vz V : World} (hb : Below Vz.heap.size Vz V) : L4 al Vz 0 0 0 (some ⟨V.heap.size, 0, none⟩) 0 0 (some ⟨V.heap.size + 1, 0, none⟩) 0 0 ((V.alloc (.cells #[] 49)).alloc (.cells #[] 39)) :=
 ⟨Nat.zero_le _, rfl, rfl, rfl, rfl, T2.start cD 49 B.cM 39 hb⟩
theorem fm_len24 {p : List En} (h : ∀ e ∈ p, e.os.length ≤ 24) : (p.flatMap (fun e => e.os)).length ≤ 24 * p.length := by
 induction p with
 | nil => exact Nat.zero_le _
 | cons e r ih =>
  have h1 := ih (fun y hy => h y (List.mem_cons_of_mem _ hy))
  have h2 := h e (List.mem_cons_self ..)
  rw [List.flatMap_cons, List.length_append, List.length_cons]
  omega
theorem tr_os24 (l : List Mg) : ∀ e ∈ W.tr F0 0 0 l, e.os.length ≤ 24 := fun e he => by
 obtain ⟨_, s', n', _, _, _, g5⟩ := tr_mem _ _ _ he
 rw [g5]
 exact (bo_ok 0).ts _ _ _
theorem L4.round {al : List Mg} {Vz : World} {i : Nat} {st sn : Int} {a3 : Option Addr} {n3 c3 : Nat} {a4 : Option Addr} {n4 c4 : Nat} {V : World} (h : L4 al Vz i st sn a3 n3 c3 a4 n4 c4 V) {zl : Nat} (hal : SI zl al) (hs : W.SrtM al) (hz : zl ≤ 30) (hi : i < W.posT 200 al) (n : Nat) :
  ∃ (t : Int) (j : Nat) (s1 : Int) (os : List O) (A A2 : List Dn) (Bl L X : List Mg), B.nth B.cM al i = mj t j ∧ i < al.length ∧ t < 200 ∧ j < 30 ∧ (stp (boF0 n).rs st 0).1 = s1 ∧ (stp (boF0 n).rs st 0).2 = os ∧ os.length ≤ 20 ∧ 0 ≤ sn ∧ sn ≤ 100000 ∧ (spr (boD n) 0 sn t (j : Int) os).map m6 = L ∧ A.length ≤ 1000 ∧ Bl.length ≤ 10000 ∧ L.length ≤ 24 ∧ n3 = A.length ∧ n4 = Bl.length ∧ A ++ [⟨⟨t, 1, (j : Int), 0, 0, (j : Int)⟩, s1⟩] = A2 ∧ Bl ++ L = X ∧ T2 cD 49 B.cM 39 Vz V (.slice a3 n3 c3) (.slice a4 n4 c4) A Bl ∧
   ∀ a3' c3' a4' c4' V', T2 cD 49 B.cM 39 Vz V' (.slice a3' A2.length c3') (.slice a4' X.length c4') A2 X → L4 al Vz (i + 1) s1 (sn + (os.length : Int)) a3' A2.length c3' a4' X.length c4' V' := by
 have hil : i < al.length := Nat.lt_of_lt_of_le hi (W.posT_le 200 al)
 obtain ⟨t, j, em, h0, h1, hj⟩ := hal.fm _ (List.getElem_mem hil)
 have hlt : t < 200 := by
  have hin : al[i] ∈ al.take (W.posT 200 al) := by
   rw [List.mem_take_iff_getElem]
   exact ⟨i, by omega, rfl⟩
  rw [(W.posT_cut hs 200).1] at hin
  have := (List.mem_filter.1 hin).2
  rw [em] at this
  exact of_decide_eq_true this
 have htk : al.take (i + 1) = al.take i ++ [mj t j] := by rw [← em]; exact List.take_succ_eq_append_getElem hil
 have htl : (al.take i).length = i := by rw [List.length_take]; omega
 have hln := hal.ln
 have hfn := fin_n (bo_ok 0) (al.take i) 0 0
 rw [htl] at hfn
 have hF : ∀ s k, F0.tk s k (mj t j) = ((stp (boF0 n).rs s 0).1, k + ((stp (boF0 n).rs s 0).2.length : Int), (spr (boD n) 0 k t (j : Int) (stp (boF0 n).rs s 0).2).map m6) := fun s k => by rw [bo_tk 0 n]; rfl
 have htr : W.tr F0 0 0 (al.take (i + 1)) = W.tr F0 0 0 (al.take i) ++ [⟨mj t j, st, sn, (F0.tk st sn (mj t j)).1, (F0.tk st sn (mj t j)).2.2⟩] := by
  rw [htk, W.tr_append, h.st, h.sn]
  rfl
 have hfi : W.fin F0 0 0 (al.take (i + 1)) = ((F0.tk st sn (mj t j)).1, (F0.tk st sn (mj t j)).2.1) := by
  rw [htk, W.fin_append, h.st, h.sn]
  rfl
 have hL24 : ((spr (boD n) 0 sn t (j : Int) (stp (boF0 n).rs st 0).2).map m6).length ≤ 24 := by
  have := (bo_ok 0).ts st sn (mj t j)
  rw [show ((Bo 0).F.tk st sn (mj t j)) = F0.tk st sn (mj t j) from rfl, hF] at this
  exact this
 have hos : (stp (boF0 n).rs st 0).2.length ≤ 20 := by
  rcases bo_os n st 0 with e | e | e
  ·rw [show (boF0 n).rs = (nthF (boD n).fs 0).rs from rfl, e]; decide
  ·rw [show (boF0 n).rs = (nthF (boD n).fs 0).rs from rfl, e]; decide
  ·rw [show (boF0 n).rs = (nthF (boD n).fs 0).rs from rfl, e]; decide
 have e1 : ((W.tr F0 0 0 (al.take i)).map dn) ++ [⟨⟨t, 1, (j : Int), 0, 0, (j : Int)⟩, (stp (boF0 n).rs st 0).1⟩] = (W.tr F0 0 0 (al.take (i + 1))).map dn := by
  rw [htr, List.map_append, hF]
  rfl
 have e2 : ((W.tr F0 0 0 (al.take i)).flatMap (fun e => e.os)) ++ (spr (boD n) 0 sn t (j : Int) (stp (boF0 n).rs st 0).2).map m6 = (W.tr F0 0 0 (al.take (i + 1))).flatMap (fun e => e.os) := by
  rw [htr, List.flatMap_append, hF]
  simp
 refine ⟨t, j, _, _, _, _, _, _, _, by rw [B.nth_get hil]; exact em, hil, hlt, by omega, rfl, rfl, hos, by rw [h.sn]; exact hfn.1, ?_, rfl, ?_, ?_, hL24, h.l3, h.l4, e1, e2, h.t, fun a3' c3' a4' c4' V' hT => ⟨by omega, ?_, ?_, rfl, rfl, hT⟩⟩
 ·rw [h.sn]
  have h9 := hfn.2
  have h8 : i < 30 := by omega
  exact Int.le_trans h9 (by omega)
 ·rw [List.length_map, W.tr_len, htl]
  omega
 ·refine Nat.le_trans (fm_len24 (tr_os24 _)) ?_
  rw [W.tr_len, htl]
  omega
 ·rw [hfi, hF]
 ·rw [hfi, hF]
theorem L4.done {al : List Mg} {Vz : World} {i : Nat} {st sn : Int} {a3 : Option Addr} {n3 c3 : Nat} {a4 : Option Addr} {n4 c4 : Nat} {V : World} (h : L4 al Vz i st sn a3 n3 c3 a4 n4 c4 V) (hs : W.SrtM al) (hi : ¬ i < W.posT 200 al) : st = setS al ∧ n3 = (setD al).length ∧ n4 = (setB al).length ∧ OwR cD 49 V (.slice a3 n3 c3) (setD al) ∧ OwR B.cM 39 V (.slice a4 n4 c4) (setB al) := by
 have e : i = W.posT 200 al := by have := h.le; omega
 have e2 : al.take i = bel2 al := by rw [e]; exact (W.posT_cut hs 200).1
 have h1 := h.st
 have h3 := h.l3
 have h4 := h.l4
 have ha := h.t.ra
 have hb := h.t.rb
 rw [e2] at h1 h3 h4 ha hb
 exact ⟨h1, h3, h4, ha, hb⟩
theorem at_end {al : List Mg} (hs : W.SrtM al) {i : Nat} (h1 : ¬ i < W.posT 200 al) (h2 : i < al.length) : ¬ (al[i]).1.1 < 200 := fun g => by
 have hin : al[i] ∈ al.filter (fun m => decide (m.1.1 < 200)) := List.mem_filter.2 ⟨List.getElem_mem h2, by simpa using g⟩
 rw [← (W.posT_cut hs 200).1] at hin
 obtain ⟨k, hk, e⟩ := List.mem_take_iff_getElem.1 hin
 have hk2 : k < i := by omega
 have := List.pairwise_iff_getElem.1 hs k i (by omega) h2 hk2
 rw [e] at this
 exact absurd this (by simp [B.klt_irrefl])
structure L5 (al : List Mg) (Vz : World) (j : Nat) (a5 : Option Addr) (n5 c5 : Nat) (a6 : Option Addr) (n6 c6 : Nat) (V : World) : Prop where
 le : j ≤ (setB al).length
 l5 : n5 = (((setB al).take j).filter (fun o => decide (o.2.1 = 1))).length
 l6 : n6 = (((setB al).take j).filter (fun o => !decide (o.2.1 = 1))).length
 t : T2 B.cM 39 B.cM 39 Vz V (.slice a5 n5 c5) (.slice a6 n6 c6) (((setB al).take j).filter (fun o => decide (o.2.1 = 1))) (((setB al).take j).filter (fun o => !decide (o.2.1 = 1)))
theorem L5.start (al : List Mg) (V : World) : L5 al V 0 (some ⟨V.heap.size, 0, none⟩) 0 0 (some ⟨V.heap.size + 1, 0, none⟩) 0 0 ((V.alloc (.cells #[] 39)).alloc (.cells #[] 39)) :=
 ⟨Nat.zero_le _, rfl, rfl, T2.start B.cM 39 B.cM 39 (Below.refl _ _)⟩
theorem setB_len (al : List Mg) (h : al.length ≤ 30) : (setB al).length ≤ 720 := by
 refine Nat.le_trans (fm_len24 (tr_os24 _)) ?_
 rw [W.tr_len]
 unfold bel2
 have := List.length_filter_le (fun m : Mg => decide (m.1.1 < 200)) al
 omega
theorem L5.round {al : List Mg} {Vz : World} {j : Nat} {a5 : Option Addr} {n5 c5 : Nat} {a6 : Option Addr} {n6 c6 : Nat} {V : World} (h : L5 al Vz j a5 n5 c5 a6 n6 c6 V) (hal : al.length ≤ 30) (hj : j < (setB al).length) :
  ∃ (m1 m2 m3 m4 m5 m6 : Int) (A Bl : List Mg), B.nth B.cM (setB al) j = ((m1, m2, m3), m4, m5, m6) ∧ A.length ≤ 10000 ∧ Bl.length ≤ 10000 ∧ n5 = A.length ∧ n6 = Bl.length ∧ T2 B.cM 39 B.cM 39 Vz V (.slice a5 n5 c5) (.slice a6 n6 c6) A Bl ∧
   (m4 = 1 → ∀ a' c' V', T2 B.cM 39 B.cM 39 Vz V' (.slice a' (A ++ [((m1, m2, m3), m4, m5, m6)]).length c') (.slice a6 n6 c6) (A ++ [((m1, m2, m3), m4, m5, m6)]) Bl → L5 al Vz (j + 1) a' (A ++ [((m1, m2, m3), m4, m5, m6)]).length c' a6 n6 c6 V') ∧
   (m4 ≠ 1 → ∀ a' c' V', T2 B.cM 39 B.cM 39 Vz V' (.slice a5 n5 c5) (.slice a' (Bl ++ [((m1, m2, m3), m4, m5, m6)]).length c') A (Bl ++ [((m1, m2, m3), m4, m5, m6)]) → L5 al Vz (j + 1) a5 n5 c5 a' (Bl ++ [((m1, m2, m3), m4, m5, m6)]).length c' V') := by
 obtain ⟨⟨⟨m1, m2, m3⟩, m4, m5, m6⟩, hm⟩ : ∃ m, (setB al)[j] = m := ⟨_, rfl⟩
 have ht : (setB al).take (j + 1) = (setB al).take j ++ [((m1, m2, m3), m4, m5, m6)] := by rw [← hm]; exact List.take_succ_eq_append_getElem hj
 have hB := setB_len al hal
 have htl : ((setB al).take j).length ≤ 720 := by rw [List.length_take]; omega
 have f1 := List.length_filter_le (fun o : Mg => decide (o.2.1 = 1)) ((setB al).take j)
 have f2 := List.length_filter_le (fun o : Mg => !decide (o.2.1 = 1)) ((setB al).take j)
 refine ⟨m1, m2, m3, m4, m5, m6, _, _, by rw [B.nth_get hj]; exact hm, by omega, by omega, h.l5, h.l6, h.t, fun e a' c' V' hT => ?_, fun e a' c' V' hT => ?_⟩
 ·have e1 : ((setB al).take (j + 1)).filter (fun o => decide (o.2.1 = 1)) = ((setB al).take j).filter (fun o => decide (o.2.1 = 1)) ++ [((m1, m2, m3), m4, m5, m6)] := by
   rw [ht, List.filter_append]
   simp [e]
  have e2 : ((setB al).take (j + 1)).filter (fun o => !decide (o.2.1 = 1)) = ((setB al).take j).filter (fun o => !decide (o.2.1 = 1)) := by
   rw [ht, List.filter_append]
   simp [e]
  exact ⟨by omega, by rw [e1], by rw [e2]; exact h.l6, by rw [e1, e2]; exact hT⟩
 ·have e1 : ((setB al).take (j + 1)).filter (fun o => decide (o.2.1 = 1)) = ((setB al).take j).filter (fun o => decide (o.2.1 = 1)) := by
   rw [ht, List.filter_append]
   simp [e]
  have e2 : ((setB al).take (j + 1)).filter (fun o => !decide (o.2.1 = 1)) = ((setB al).take j).filter (fun o => !decide (o.2.1 = 1)) ++ [((m1, m2, m3), m4, m5, m6)] := by
   rw [ht, List.filter_append]
   simp [e]
  exact ⟨by omega, by rw [e1]; exact h.l5, by rw [e2], by rw [e1, e2]; exact hT⟩
theorem L5.done {al : List Mg} {Vz : World} {j : Nat} {a5 : Option Addr} {n5 c5 : Nat} {a6 : Option Addr} {n6 c6 : Nat} {V : World} (h : L5 al Vz j a5 n5 c5 a6 n6 c6 V) (hj : ¬ j < (setB al).length) : n5 = (setL al).length ∧ n6 = (setM al).length ∧ OwR B.cM 39 V (.slice a5 n5 c5) (setL al) ∧ OwR B.cM 39 V (.slice a6 n6 c6) (setM al) ∧ Below Vz.heap.size Vz V := by
 have e : (setB al).take j = setB al := List.take_of_length_le (by omega)
 have h1 := h.l5
 have h2 := h.l6
 have ha := h.t.ra
 have hb := h.t.rb
 rw [e] at h1 h2 ha hb
 rw [(set_parts al).1] at h1 ha
 rw [(set_parts al).2] at h2 hb
 exact ⟨h1, h2, ha, hb, h.t.bel⟩
theorem setL_len (al : List Mg) (h : al.length ≤ 30) : (setL al).length ≤ 720 := by
 rw [← (set_parts al).1]
 exact Nat.le_trans (List.length_filter_le _ _) (setB_len al h)
theorem own_n {α : Type} {C : Cd α} {e : TypeId} {V : World} {a : Option Addr} {n c : Nat} {l : List α} (h : OwR C e V (.slice a n c) l) : n = l.length ∧ RdN C (fun _ => True) V a l := by
 obtain ⟨a', c', e, g⟩ := h.rd (N := fun _ => True) (fun _ _ => trivial)
 simp at e
 obtain ⟨rfl, rfl, rfl⟩ := e
 exact ⟨rfl, g⟩
theorem same_d {V : World} {a b : Option Addr} {n m c d : Nat} {l : List Dn} (h1 : OwR cD 49 V (.slice a n c) l) (h2 : OwR cD 49 V (.slice b m d) l) (hl : l.length ≤ 1000) :
  Calls Tryz.prog 20 #[.slice a n c, .slice b m d] V fun e w' => e = .returned (.bool true) ∧ Below V.heap.size V w' := by
 obtain ⟨e1, g1⟩ := own_n h1
 obtain ⟨e2, g2⟩ := own_n h2
 subst e1 e2
 exact sameD_yes V a b c d l (rdD_of g1) (rdD_of g2) (by omega)
theorem same_m {V : World} {a b : Option Addr} {n m c d : Nat} {l : List Mg} (h1 : OwR B.cM 39 V (.slice a n c) l) (h2 : OwR B.cM 39 V (.slice b m d) l) (hl : l.length ≤ 1000) :
  Calls Tryz.prog 21 #[.slice a n c, .slice b m d] V fun e w' => e = .returned (.bool true) ∧ Below V.heap.size V w' := by
 obtain ⟨e1, g1⟩ := own_n h1
 obtain ⟨e2, g2⟩ := own_n h2
 subst e1
 rw [e2]
 exact G.same15_eq g1 g2 rfl (by omega)
theorem row_msg {V : World} {a : Option Addr} {n c : Nat} {l : List Mg} (h : OwR B.cM 39 V (.slice a n c) l) {i : Nat} (hi : i < l.length) {m1 m2 m3 m4 m5 m6 : Int} (hm : B.nth B.cM l i = ((m1, m2, m3), m4, m5, m6)) : ∃ b off, a = some ⟨b, off, none⟩ ∧ b < V.heap.size ∧ V.cell? ⟨b, off + i * 6, none⟩ = some (.int .i64 m1) ∧ V.cell? ⟨b, off + i * 6 + 1, none⟩ = some (.int .i64 m2) ∧ V.cell? ⟨b, off + i * 6 + 2, none⟩ = some (.int .i64 m3) ∧ V.cell? ⟨b, off + i * 6 + 3, none⟩ = some (.int .i64 m4) ∧ V.cell? ⟨b, off + i * 6 + 4, none⟩ = some (.int .i64 m5) ∧ V.cell? ⟨b, off + i * 6 + 5, none⟩ = some (.int .i64 m6) := by
 obtain ⟨b, off, e, hb, _, g⟩ := (own_n h).2.msg hi hm
 exact ⟨b, off, e, hb, g⟩
end Go.Proofs.YtiaopafkfadmkaaGreat.V
