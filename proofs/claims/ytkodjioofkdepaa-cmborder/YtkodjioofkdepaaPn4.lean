/- Proved: the contract of the program's Step where it may go on. -/
import Derived.Test.YtkodjioofkdepaaPn3
namespace Go.Proofs.Ytkodjioofkdepaa
open Go.RowKit Go.Shelf
set_option linter.unusedVariables false
set_option maxRecDepth 100000

set_option maxHeartbeats 8000000 in
theorem knstep_go {w0 : World} {D : Wd} {f : Nat} {x : Nd} {nb cb rb qb : Nat} {G : Nat → Prop} {v : Value} {K : Nat → Bool} {w : World} (h : KN w0 D f x nb cb rb qb G v K w) (hs : safe D f x = true) (hsn : x.sn ≤ 900000) (hl : x.lg.length ≤ 10000) :
    Calls Try.prog 10 #[.pointer (some ⟨nb, 0, none⟩)] w fun en w' => ∃ va vc G2 v2, en = .returned (.tuple #[dv (spD D f x), .slice va (spM D f x).length vc, .int .i64 0]) ∧ w'.ownsRow w.heap.size 36 6 (.slice va (spM D f x).length vc) (spM D f x).length (flatM (spM D f x)) ∧ (∀ k, (Value.slice va (spM D f x).length vc).ownBlock = some k → ¬ FK nb cb rb G2 v2 K k) ∧ KN w0 D f (spN D f x) nb cb rb qb G2 v2 K w' ∧ StN (FK nb cb rb G v K) (FK nb cb rb G2 v2 K) w w' := by
  have SF := knsafe0 h
  rw [hs] at SF
  have he : x.q.isEmpty = false := by
    unfold safe at hs
    cases g : x.q.isEmpty
    · rfl
    · rw [g] at hs; simp at hs
  obtain ⟨m, hm⟩ : ∃ m, x.q.headD Q.zeroM = m := ⟨_, rfl⟩
  have hhd : hd x = m := hm
  obtain ⟨⟨T, b, c⟩, d, e, g⟩ := m
  have POP := knpop h hm he
  obtain ⟨F, hF⟩ : ∃ F, nthF D.fs f = F := ⟨_, rfl⟩
  obtain ⟨x1, hx1⟩ : ∃ x1 : Nd, { x with q := x.q.tail } = x1 := ⟨_, rfl⟩
  have hst1 : x1.st = x.st := by rw [← hx1]
  have hsn1 : x1.sn = x.sn := by rw [← hx1]
  have hlg1 : x1.lg = x.lg := by rw [← hx1]
  obtain ⟨P, hP⟩ : ∃ P, stp F.rs x.st e = P := ⟨_, rfl⟩
  obtain ⟨s1, os⟩ := P
  have hos : os.length ≤ 20 := by
    have := stp_len (stp_three h.wd h.hf).2 x.st e
    rw [hF, hP] at this
    exact this
  have hspS : spS D f x = (s1, os) := by unfold spS; rw [hhd, hF]; exact hP
  have hspD : spD D f x = ⟨⟨T, b, c, d, e, g⟩, s1⟩ := by unfold spD; rw [hspS, hhd]; rfl
  have hspM : spM D f x = spr D f x.sn T g os := by unfold spM; rw [hspS, hhd]
  have hspN : spN D f x = { x with st := s1, sn := x.sn + os.length, q := x.q.tail, lg := x.lg ++ [⟨⟨T, b, c, d, e, g⟩, s1⟩] } := by unfold spN; rw [hspS, hspD]
  have HPOP : Hid (∀ W, Below w.heap.size w W → W.heap[w.heap.size]? = some (.cells (dcs zeroD) 49 (0, 0)) → w.heap.size < W.heap.size → Calls Try.prog 22 #[.pointer (some ⟨qb, 0, none⟩)] W fun en w' => en = .returned (.tuple #[.agg (mc6 T b c d e g), .bool true]) ∧ ∃ G2, Mn w0 w D f x1 nb cb rb qb G G2 v v K w.heap.size w'.heap.size (mc6 T b c d e g) (w'.alloc (.cells (mc6 T b c d e g) 36)) ∧ (∀ k, G2 k → k < w'.heap.size) ∧ w.heap.size < w'.heap.size) := by rw [← hx1]; exact POP
  have HN7 : Hid (∀ W, Below w.heap.size w W → W.cell? ⟨nb, 1, none⟩ = some (.pointer (some ⟨qb, 0, none⟩)) ∧ nb < W.heap.size) := fun W hb => ⟨(h.below hb).cells.2.1, (h.below hb).lt nb (.inl rfl)⟩
  obtain ⟨L, hL⟩ : ∃ L, spr D f x.sn T g os = L := ⟨_, rfl⟩
  rw [hspD, hspM, hspN, hL]
  have HLL : Hid _ := hL
  clear hL
  have Hx1 : Hid _ := hx1
  have HltF : Hid _ := h.lt
  have HW0 : Hid (w0.heap.size ≤ w.heap.size) := h.bel.size
  have hfd : ∀ w : World, (Instr.field 65 (.agg #[.int .i64 F.kd, .int .i64 F.lk, .int .i64 F.st, .slice F.ra F.rs.length F.rc, .slice F.pa F.ps.length F.pc, .slice F.sa F.ss.length F.sc, .slice F.ia F.is.length F.ic]) 3).run Try.prog w = .ok (.slice F.ra F.rs.length F.rc) w := fun _ => by kernel_rfl
  simp only [mc6] at HPOP
  clear POP hm hhd hspS hspD hspM hspN hx1 h he hs
  go_enter Try.func10, Try.ntmps10
  go_wp2_with (first
    | (go_at_call 14; refine SF.mono ?_; rintro en w2 ⟨rfl, bx, hb2, hlt2⟩; obtain ⟨n7, lnb⟩ := Hid.out HN7 _ hb2; have HB2 : Hid _ := And.intro hb2 (And.intro bx hlt2); clear bx hb2 SF)
    | (go_at_call 22; refine (Hid.out HPOP _ (Hid.out HB2).1 (Hid.out HB2).2.1 (Hid.out HB2).2.2).mono ?_; rintro en w3 ⟨rfl, G2, hM3, hG2, hlt3⟩; have HM3 : Hid _ := hM3; have HG2 : Hid _ := hG2; obtain ⟨⟨y1, y2, y3, y4, y5, y6, y7, y8⟩, z0, z1, z2, z3, z4, z5⟩ := hM3.reads; clear hM3 hG2 HPOP))
  obtain ⟨W4, hW4⟩ : ∃ W4, W4 = w3.alloc (.cells #[.int .i64 T, .int .i64 b, .int .i64 c, .int .i64 d, .int .i64 e, .int .i64 g] 36) := ⟨_, rfl⟩
  obtain ⟨B, hB⟩ : ∃ B, w3.heap.size = B := ⟨_, rfl⟩
  try simp only [mc6] at HM3
  rw [← hW4, hB] at HM3
  rw [← hW4] at y1 y2 y3 y4 y5 y6 y7 y8 z0 z1 z2 z3 z4 z5 ⊢
  rw [hB] at z0 z1 z2 z3 z4 z5 HG2 hlt3
  try simp only [hB]
  have hB4 : B < W4.heap.size := by rw [hW4, ← hB]; simp
  rw [hst1] at y6
  rw [hsn1] at y7
  clear hW4 hB n7 lnb HN7 HB2
  have HFE : Hid (Calls Try.prog 24 #[.pointer (some ⟨nb, 0, none⟩)] W4.drew fun e w' => e = .returned (.agg #[.int .i64 F.kd, .int .i64 F.lk, .int .i64 F.st, .slice F.ra F.rs.length F.rc, .slice F.pa F.ps.length F.pc, .slice F.sa F.ss.length F.sc, .slice F.ia F.is.length F.ic]) ∧ Below W4.heap.size W4 w') := by
    have := knfed (HM3.out.on (below_drew W4)).kn
    rw [hF] at this
    exact this.mono fun e w' ⟨h1, h2⟩ => ⟨h1, ⟨h2.os, h2.tape, h2.output, h2.size, h2.block⟩⟩
  have HST : Hid (∀ w4, Below W4.heap.size W4 w4 → Calls Try.prog 23 #[.slice F.ra F.rs.length F.rc, .int .i64 x.st, .int .i64 e] w4 fun en w' => ∃ a' c', en = .returned (.tuple #[.int .i64 s1, .slice a' os.length c']) ∧ w'.ownsRow W4.heap.size 69 3 (.slice a' os.length c') os.length (flatO os) ∧ Mn w0 w D f x1 nb cb rb qb G G2 v v K w.heap.size B (mc6 T b c d e g) w' ∧ W4.heap.size ≤ w'.heap.size) := fun w4 hb => by
    have := mn_step (HM3.out.on hb) x.st e
    rw [hF, hP] at this
    refine this.mono fun en w' ⟨a', c', h1, h2, h3, h4⟩ => ⟨a', c', h1, ⟨h2.1, ?_⟩, h3, Nat.le_trans hb.size h4⟩
    rcases h2.2 with g | ⟨g, cap, cur, q1, q2, q3, q4⟩
    · exact .inl g
    · exact .inr ⟨g, cap, cur, q1, Nat.le_trans hb.size q2, q3, q4⟩
  have HKP : Hid (∀ w4, Below W4.heap.size W4 w4 → w4.cell? ⟨nb, 6, none⟩ = some (.int .i64 x.st) ∧ w4.cell? ⟨B, 4, none⟩ = some (.int .i64 e)) := fun w4 hb => by
    have hr := (HM3.out.on hb).reads
    exact ⟨hr.1.2.2.2.2.2.1.trans (by rw [hst1]), hr.2.2.2.2.2.1⟩
  go_region_held3 (fun w' => w'.cell? ⟨nb, 6, none⟩ = some (.int .i64 x.st) ∧ w'.cell? ⟨B, 4, none⟩ = some (.int .i64 e)) (first | (go_keep; done) | exact Hid.out KEEP2 | exact Hid.out KEEP) (first
    | (go_at_call 24; refine (Hid.out HFE).mono ?_; rintro en w4 ⟨rfl, b4⟩; have HB4 : Hid _ := b4; have KEEP : Hid _ := Hid.out HKP _ b4; clear b4 HFE)
    | (go_at_call 23; refine (Hid.out HST _ (Hid.out HB4)).mono ?_; rintro en w5 ⟨a1, c1, rfl, hro, hM5, hsz5⟩; have HRO : Hid _ := hro; have HM5 : Hid _ := hM5; obtain ⟨⟨p1, p2, p3, p4, p5, p6, p7, p8⟩, q0, q1, q2, q3, q4, q5⟩ := hM5.reads; have KEEP2 : Hid _ := And.intro (p6.trans (by rw [hst1])) q4; clear hro hM5 HST))
  clear KEEP KEEP2 y1 y2 y3 y4 y5 y6 y7 y8 z0 z1 z2 z3 z4 z5 HM3 HKP HB4
  rw [hsn1] at p7
  rw [hst1] at p6
  have hB5 : B < w5.heap.size := by omega
  have HSP : Hid (Calls Try.prog 25 #[.agg #[.slice D.pa D.ps.length D.pc, .slice D.fa D.fs.length D.fc, .int .i64 D.en], .int .i64 f, .int .i64 x.sn, .int .i64 T, .int .i64 g, .slice a1 os.length c1] w5.drew fun en w' => ∃ va vc, en = .returned (.slice va L.length vc) ∧ w'.ownsRow w5.heap.size 36 6 (.slice va L.length vc) L.length (flatM L) ∧ Mn w0 w D f x1 nb cb rb qb G G2 v v K w.heap.size B (mc6 T b c d e g) w' ∧ w5.heap.size ≤ w'.heap.size) := by
    have := mn_spread (HM5.out.on (below_drew w5)) T g (own_rdO (own_below HRO.out (below_drew w5))) hos (cp := c1)
    rw [hsn1, HLL.out] at this
    refine this.mono fun en w' ⟨vm, h1, h2, h3, h4⟩ => ?_
    obtain ⟨va, vc, rfl⟩ := shape_of h2
    exact ⟨va, vc, h1, h2, h3, h4⟩
  go_wp2
  go_region_held3 (fun w' => w'.cell? ⟨nb, 2, none⟩ = some (.slice D.pa D.ps.length D.pc) ∧ w'.cell? ⟨nb, 3, none⟩ = some (.slice D.fa D.fs.length D.fc) ∧ w'.cell? ⟨nb, 4, none⟩ = some (.int .i64 D.en) ∧ w'.cell? ⟨nb, 5, none⟩ = some (.int .i64 f) ∧ w'.cell? ⟨nb, 7, none⟩ = some (.int .i64 x.sn) ∧ w'.cell? ⟨B, 0, none⟩ = some (.int .i64 T) ∧ w'.cell? ⟨B, 5, none⟩ = some (.int .i64 g)) (first | (go_keep; done) | exact Hid.out KEEP) (first
    | (go_at_call 25; refine (Hid.out HSP).mono ?_; rintro en w7 ⟨va, vc, rfl, hrm, hM7, hsz7⟩; have HRM : Hid _ := hrm; have HM7 : Hid _ := hM7; obtain ⟨⟨y1, y2, y3, y4, y5, y6, y7, y8⟩, z0, z1, z2, z3, z4, z5⟩ := hM7.reads; have KEEP : Hid _ := And.intro y2 (And.intro y3 (And.intro y4 (And.intro y5 (And.intro (y7.trans (by rw [hsn1])) (And.intro z0 z5))))); clear hrm hM7 HSP))
  clear KEEP p1 p2 p3 p4 p5 p6 p7 p8 q0 q1 q2 q3 q4 q5 HM5
  rw [hsn1] at y7
  have hs0 : 0 ≤ x.sn := by have := HM7.out.kn.s0; rw [hsn1] at this; exact this
  have hos' : (os.length : Int) ≤ 20 := by omega
  obtain ⟨n2, hn2⟩ : ∃ n2, x.sn + (os.length : Int) = n2 := ⟨_, rfl⟩
  have lnbW : nb < w.heap.size := HltF.out nb (.inl rfl)
  obtain ⟨dd, hdd⟩ : ∃ dd : Dn, dd = ⟨⟨T, b, c, d, e, g⟩, s1⟩ := ⟨_, rfl⟩
  have hdc : (#[.int .i64 T, .int .i64 b, .int .i64 c, .int .i64 d, .int .i64 e, .int .i64 g, .int .i64 s1] : Array Value) = dcs dd := by rw [hdd]
  obtain ⟨CB, hCB⟩ : ∃ CB, w7.heap.size = CB := ⟨_, rfl⟩
  obtain ⟨W8, hW8⟩ : ∃ W8, w7.alloc (.cells #[.int .i64 T, .int .i64 b, .int .i64 c, .int .i64 d, .int .i64 e, .int .i64 g, .int .i64 s1] 49) = W8 := ⟨_, rfl⟩
  have hsz8 : W8.heap.size = CB + 1 := by rw [← hW8, ← hCB]; simp
  have hb78 : Below w7.heap.size w7 W8 := by rw [← hW8]; exact al w7 _
  have hbx8 : W8.heap[CB]? = some (.cells (dcs dd) 49 (0, 0)) := by rw [← hW8, ← hCB, hdc]; exact (MapKept.heap_alloc w7 _).1
  have HM8 : Hid (Mn w0 w D f x1 nb cb rb qb G G2 v v K w.heap.size B (mc6 T b c d e g) W8) := HM7.out.on hb78
  obtain ⟨W9, hW9⟩ : ∃ W9, W8.setCell ⟨nb, 6, none⟩ (.int .i64 s1) = W9 := ⟨_, rfl⟩
  have HM9 : Hid (Mn w0 w D f { x1 with st := s1, sn := x1.sn } nb cb rb qb G G2 v v K w.heap.size B (mc6 T b c d e g) W9) := by
    rw [← hW9]
    exact HM8.out.own rfl HM8.out.kn.s0 HM8.out.kn.s1
  obtain ⟨x2, hx2⟩ : ∃ x2 : Nd, { x1 with st := s1, sn := x1.sn } = x2 := ⟨_, rfl⟩
  rw [hx2] at HM9
  have hsn2 : x2.sn = x.sn := by rw [← hx2]; exact hsn1
  have hlg2 : x2.lg = x.lg := by rw [← hx2]; exact hlg1
  have Hx2 : Hid _ := hx2
  obtain ⟨W10, hW10⟩ : ∃ W10, W9.setCell ⟨nb, 7, none⟩ (.int .i64 n2) = W10 := ⟨_, rfl⟩
  have HM10 : Hid (Mn w0 w D f { x2 with st := x2.st, sn := n2 } nb cb rb qb G G2 v v K w.heap.size B (mc6 T b c d e g) W10) := by
    rw [← hW10]
    exact HM9.out.own rfl (by omega) (by omega)
  obtain ⟨x3, hx3⟩ : ∃ x3 : Nd, { x2 with st := x2.st, sn := n2 } = x3 := ⟨_, rfl⟩
  rw [hx3] at HM10
  have hlg3 : x3.lg = x.lg := by rw [← hx3]; exact hlg2
  have Hx3 : Hid _ := hx3
  have f8a := HM8.out.kn.froz 6
  have f9a := HM9.out.kn.froz 7
  have g6 := HM8.out.kn.cells.2.2.2.2.2.2.1
  rw [hst1] at g6
  have g7 := HM9.out.kn.cells.2.2.2.2.2.2.2.1
  rw [hsn2] at g7
  have hnbC : ¬ nb = CB := by have := HM7.out.kn.lt nb (.inl rfl); omega
  have hCnb : ¬ CB = nb := fun e => hnbC e.symm
  have lnb8 : nb < W8.heap.size := by have := HM7.out.kn.lt nb (.inl rfl); omega
  have lnb9 : nb < W9.heap.size := by rw [← hW9]; simpa using lnb8
  have hszw : w.heap.size ≤ CB := by have := HM7.out.st.1.size; omega
  have HDC : Hid _ := hdc
  have HDD : Hid _ := hdd
  clear hx2 hx3 hdc hdd
  go_wp2
  have hs9 : W9.heap.size = W8.heap.size := by rw [← hW9]; simp
  have hs10 : W10.heap.size = CB + 1 := by rw [← hW10]; simp; omega
  have hbx10 : W10.heap[CB]? = some (.cells (dcs dd) 49 (0, 0)) := by
    rw [← hW10]
    refine ((frN W9 nb 7 (.int .i64 n2)).block CB (by omega) hCnb).trans ?_
    rw [← hW9]
    exact ((frN W8 nb 6 (.int .i64 s1)).block CB (by omega) hCnb).trans hbx8
  have hM10 : Mn w0 w D f x3 nb cb rb qb G G2 v v K w.heap.size B (mc6 T b c d e g) W10.drew := HM10.out.on (below_drew W10)
  obtain ⟨a', c', w11, hrun, hc8, hf8, hF11, hnw, hM12⟩ := hM10.log dd (by rw [hlg3]; omega) 44
  obtain ⟨n1, hvn⟩ : ∃ n1, x3.lg.length + 1 = n1 := ⟨_, rfl⟩
  rw [hvn] at hrun hM12 hnw
  have HNW : Hid (∀ k, (Value.slice a' n1 c').ownBlock = some k → v.ownBlock = some k ∨ W10.heap.size < k) := hnw
  clear hnw
  obtain ⟨W12, hW12⟩ : ∃ W12, w11.setCell ⟨nb, 8, none⟩ (.slice a' n1 c') = W12 := ⟨_, rfl⟩
  rw [hW12] at hM12
  have hrun' : (Builtin.append_ #[44, 44] 44 #[v, .slice (some ⟨W10.heap.size, 0, none⟩) 1 1]).run Try.prog (W10.alloc (.cells #[.int .i64 T, .int .i64 b, .int .i64 c, .int .i64 d, .int .i64 e, .int .i64 g, .int .i64 s1] 49)).drew = .ok (.slice a' n1 c') w11 := by
    rw [HDC.out]
    exact hrun
  have HRUN : Hid _ := hrun'
  have hsz11 : W10.heap.size ≤ w11.heap.size := hF11.size
  have hsz12 : w11.heap.size = W12.heap.size := by rw [← hW12]; simp
  have lv : ∀ k, v.ownBlock = some k → k < w.heap.size := fun k g => HltF.out k (.inr (.inr (.inr (.inr (.inl g)))))
  have hbx12 : W12.heap[CB]? = some (.cells (dcs dd) 49 (0, 0)) := by
    rw [← hW12]
    refine ((frN w11 nb 8 (.slice a' n1 c')).block _ (by omega) hCnb).trans ((hF11.block _ (by show _ < W10.heap.size; omega) (fun g => by have := lv _ g; omega)).trans hbx10)
  obtain ⟨t0, t1, t2, t3, t4, t5, t6, tf⟩ := dn_cells hbx12
  obtain ⟨u0, u1, u2, u3, u4, u5, u6, uf⟩ := dn_cells hM12.bA
  rw [HDD.out] at t0 t1 t2 t3 t4 t5 t6
  dsimp only [zeroD] at t0 t1 t2 t3 t4 t5 t6 u0 u1 u2 u3 u4 u5 u6
  have k10 : W10.cell? ⟨nb, 8, none⟩ = some v := hM10.kn.cells.2.2.2.2.2.2.2.2
  obtain ⟨j0, j1, j2, j3, j4, j5, j6, jf⟩ := dn_cells hbx10
  rw [HDD.out] at j0 j1 j2 j3 j4 j5 j6
  dsimp only at j0 j1 j2 j3 j4 j5 j6
  have hA12 : w.heap.size < W12.heap.size := by omega
  have hC12 : CB < W12.heap.size := by omega
  have hC10 : CB < W10.heap.size := by omega
  have lnb10 : nb < W10.heap.size := by omega
  have nA1 : ¬ w.heap.size = CB := by have := HM7.out.st.1.size; have := HM7.out.lB; have := (Array.getElem?_eq_some_iff.1 HM7.out.bB).1; omega
  have nA2 : ¬ CB = w.heap.size := fun e => nA1 e.symm
  have HM12 : Hid _ := hM12
  have HRM12 : Hid (W12.ownsRow w.heap.size 36 6 (.slice va L.length vc) L.length (flatM L) ∧ ∀ k, (Value.slice va L.length vc).ownBlock = some k → B < k ∧ k < CB) := by
    have hk : ∀ k, (Value.slice va L.length vc).ownBlock = some k → B < k ∧ k < CB := fun k g => by
      have h1 := own_lt HRM.out g
      omega
    refine ⟨?_, hk⟩
    have h8 := own_below HRM.out hb78
    have h9 := own_keep h8 (frN W8 nb 6 (.int .i64 s1)) (fun k g e => by have := hk k g; omega)
    rw [hW9] at h9
    have h10 := own_keep h9 (frN W9 nb 7 (.int .i64 n2)) (fun k g e => by have := hk k g; omega)
    rw [hW10] at h10
    have h11 := own_keep (own_below h10 (below_drew W10)) hF11 (fun k g g2 => by have := hk k g; have := lv k g2; omega)
    have h12 := own_keep h11 (frN w11 nb 8 (.slice a' n1 c')) (fun k g e => by have := hk k g; omega)
    rw [hW12] at h12
    refine ⟨h12.1, ?_⟩
    rcases h12.2 with g | ⟨g, cap, cur, e1, e2, e3, e4⟩
    · exact .inl g
    · exact .inr ⟨g, cap, cur, e1, by omega, e3, e4⟩
  have HSZ : Hid _ := And.intro hs10 (And.intro hsz11 hsz12)
  clear hM10 hM12 hrun hrun' hbx10 hbx12 hvn hF11 hbx8 hW9 hW10 hW8 hs9 hs10 hsz8 hsz12 hsz11 HRM HM7 HM8 HM9 HM10 g6 g7 f8a f9a y1 y2 y3 y4 y5 y6 y7 y8 z0 z1 z2 z3 z4 z5 hb78
  go_region_law (refine step_append_run rfl (.tmp 75) (.tmp 77) 44 rfl (by simp [Act.eval]) (by simp [Act.eval]) HRUN.out ?_)
  all_goals
    go_wp2_with fail
    generalize hwf : World.setCell _ _ _ = WF
    have hWF : WF = set7 W12 w.heap.size ⟨⟨T, b, c, d, e, g⟩, s1⟩ := hwf.symm
    have hFF := set7_heap (W := W12) (z := zeroD) HM12.out.bA ⟨⟨T, b, c, d, e, g⟩, s1⟩
    have hF7 := set7_fr (Fr.refl (fun k => k = w.heap.size) W12) (.inl rfl) (A := w.heap.size) ⟨⟨T, b, c, d, e, g⟩, s1⟩
    rw [← hWF] at hFF hF7
    obtain ⟨m0, m1, m2, m3, m4, m5, m6, _⟩ := dn_cells hFF
    dsimp only at m0 m1 m2 m3 m4 m5 m6
    refine bodyPost_ret (v := .tuple #[dv ⟨⟨T, b, c, d, e, g⟩, s1⟩, .slice va L.length vc, .int .i64 0]) (by simp [results, Try.results10, go_sem, m0, m1, m2, m3, m4, m5, m6]) rfl ⟨va, vc, G2, .slice a' n1 c', rfl, ?_, ?_, ?_, ?_⟩
    · exact own_keep HRM12.out.1 hF7 (fun k q e => by have := HRM12.out.2 k q; omega)
    · intro k q
      have hk := HRM12.out.2 k q
      have hsz := HSZ.out
      have hK := HM12.out.kn.kl k
      rintro (e | e | e | g2 | g2 | g2)
      · omega
      · have := HltF.out k (.inr (.inl e)); omega
      · have := HltF.out k (.inr (.inr (.inl e))); omega
      · have := HG2.out k g2; omega
      · rcases HNW.out k g2 with q2 | q2
        · have := lv k q2; omega
        · omega
      · have := HltF.out k (.inr (.inr (.inr (.inr (.inr g2))))); omega
    · have e4 : ({ x3 with lg := x3.lg ++ [dd] } : Nd) = { x with st := s1, sn := x.sn + os.length, q := x.q.tail, lg := x.lg ++ [⟨⟨T, b, c, d, e, g⟩, s1⟩] } := by
        have q1 := Hx1.out
        have q2 := Hx2.out
        have q3 := Hx3.out
        rw [HDD.out, ← q3, ← q2, ← q1]
        simp [← hn2]
      have := HM12.out.kn.keep hF7 (fun k g2 e => by subst e; exact HM12.out.nA g2) (fun k e => by have := HW0.out; omega)
      rw [e4] at this
      exact this
    · refine ⟨HM12.out.st.1.trans hF7 (fun k hk e => by omega), HM12.out.st.2⟩
end Go.Proofs.Ytkodjioofkdepaa
