/- Joined: the texts that follow, each with its own sentence. -/
import Derived.Test.YtadmojehemdoaaaGreatNod
import Derived.Test.YtadmojehemdoaaaGreatJRch
import Derived.Test.YtadmojehemdoaaaGreatJRf
/- Proved: how the document's node lies in memory, and what becomes of it. -/
namespace Go.Proofs.YtadmojehemdoaaaGreat
open Go.RowKit Go.Shelf
set_option linter.unusedVariables false
set_option maxRecDepth 100000
abbrev ncs (D : Wd) (f : Nat) (st sn : Int) (cb qb : Nat) (v : Value) : Array Value := #[.slice D.pa D.ps.length D.pc, .slice D.fa D.fs.length D.fc, .int .i64 D.en, .int .i64 f, .int .i64 st, .int .i64 sn, .pointer (some ⟨cb, 0, none⟩), .pointer (some ⟨qb, 0, none⟩), v]
def FN (nb cb rb : Nat) (G : Nat → Prop) (v : Value) (k : Nat) : Prop := k = nb ∨ k = cb ∨ k = rb ∨ G k ∨ v.ownBlock = some k
structure RN (w0 : World) (D : Wd) (f : Nat) (x : Nd) (nb cb rb qb : Nat) (G : Nat → Prop) (v : Value) (W : World) : Prop where
  ww : Ww w0 D
  bel : Below w0.heap.size w0 W
  blk : W.heap[nb]? = some (.cells (ncs D f x.st x.sn cb qb v) 86 (0, 0))
  ck : C.DC D.fs.length f x.c x.t cb rb W
  qu : Q.IsR W G qb 64 x.q
  lg : W.ownsRow w0.heap.size 46 7 v x.lg.length (flatD x.lg)
  lo : ∀ k, FN nb cb rb G v k → w0.heap.size ≤ k
  a1 : nb ≠ cb
  a2 : nb ≠ rb
  a3 : ¬ G nb
  a4 : ¬ G cb
  a5 : ¬ G rb
  a6 : v.ownBlock ≠ some nb
  a7 : v.ownBlock ≠ some cb
  a8 : v.ownBlock ≠ some rb
  a9 : ∀ k, v.ownBlock = some k → ¬ G k
  hf : f < D.fs.length
  ok : wldE D = (-1, 0)
  s0 : 0 ≤ x.sn
  s1 : x.sn ≤ 1000000
theorem RN.wd {w0 : World} {D : Wd} {f : Nat} {x : Nd} {nb cb rb qb : Nat} {G : Nat → Prop} {v : Value} {W : World} (h : RN w0 D f x nb cb rb qb G v W) : Ww W D := h.ww.below h.bel
theorem RN.lt {w0 : World} {D : Wd} {f : Nat} {x : Nd} {nb cb rb qb : Nat} {G : Nat → Prop} {v : Value} {W : World} (h : RN w0 D f x nb cb rb qb G v W) : ∀ k, FN nb cb rb G v k → k < W.heap.size := by
  rintro k (rfl | rfl | rfl | g | g)
  · exact (Array.getElem?_eq_some_iff.1 h.blk).1
  · exact h.ck.lt
  · exact h.ck.rlt
  · exact h.qu.lt k g
  · exact (own_lt h.lg g).1
theorem RN.keep {S : Nat → Prop} {w0 : World} {D : Wd} {f : Nat} {x : Nd} {nb cb rb qb : Nat} {G : Nat → Prop} {v : Value} {W W2 : World} (h : RN w0 D f x nb cb rb qb G v W) (hf : Fr S W W2) (hs : ∀ k, FN nb cb rb G v k → ¬ S k) (h0 : ∀ k, S k → w0.heap.size ≤ k) : RN w0 D f x nb cb rb qb G v W2 :=
  ⟨h.ww, h.bel.trans (hf.below h.bel.size h0), (hf.block nb (h.lt nb (.inl rfl)) (hs nb (.inl rfl))).trans h.blk, h.ck.keep hf.toC (hs cb (.inr (.inl rfl))) (hs rb (.inr (.inr (.inl rfl)))), h.qu.keep hf.toQ (fun k g => hs k (.inr (.inr (.inr (.inl g))))), own_keep h.lg hf (fun k g => hs k (.inr (.inr (.inr (.inr g))))), h.lo, h.a1, h.a2, h.a3, h.a4, h.a5, h.a6, h.a7, h.a8, h.a9, h.hf, h.ok, h.s0, h.s1⟩
theorem RN.below {w0 : World} {D : Wd} {f : Nat} {x : Nd} {nb cb rb qb : Nat} {G : Nat → Prop} {v : Value} {W W2 : World} (h : RN w0 D f x nb cb rb qb G v W) (hb : Below W.heap.size W W2) : RN w0 D f x nb cb rb qb G v W2 :=
  h.keep (Fr.of_below (S := fun _ => False) hb) (fun _ _ g => g) (fun _ g => g.elim)
theorem RN.cells {w0 : World} {D : Wd} {f : Nat} {x : Nd} {nb cb rb qb : Nat} {G : Nat → Prop} {v : Value} {W : World} (h : RN w0 D f x nb cb rb qb G v W) :
    W.cell? ⟨nb, 0, none⟩ = some (.slice D.pa D.ps.length D.pc) ∧ W.cell? ⟨nb, 1, none⟩ = some (.slice D.fa D.fs.length D.fc) ∧ W.cell? ⟨nb, 2, none⟩ = some (.int .i64 D.en) ∧ W.cell? ⟨nb, 3, none⟩ = some (.int .i64 f) ∧ W.cell? ⟨nb, 4, none⟩ = some (.int .i64 x.st) ∧ W.cell? ⟨nb, 5, none⟩ = some (.int .i64 x.sn) ∧ W.cell? ⟨nb, 6, none⟩ = some (.pointer (some ⟨cb, 0, none⟩)) ∧ W.cell? ⟨nb, 7, none⟩ = some (.pointer (some ⟨qb, 0, none⟩)) ∧ W.cell? ⟨nb, 8, none⟩ = some v :=
  ⟨cellN h.blk 0, cellN h.blk 1, cellN h.blk 2, cellN h.blk 3, cellN h.blk 4, cellN h.blk 5, cellN h.blk 6, cellN h.blk 7, cellN h.blk 8⟩
theorem RN.froz {w0 : World} {D : Wd} {f : Nat} {x : Nd} {nb cb rb qb : Nat} {G : Nat → Prop} {v : Value} {W : World} (h : RN w0 D f x nb cb rb qb G v W) (i : Nat) : W.frozen? ⟨nb, i, none⟩ = false := by simp [World.frozen?, h.blk]
/-- Its clocks are written. -/
theorem RN.ckw {S : Nat → Prop} {w0 : World} {D : Wd} {f : Nat} {x : Nd} {nb cb rb qb : Nat} {G : Nat → Prop} {v : Value} {W W2 : World} (h : RN w0 D f x nb cb rb qb G v W) {c : Int → Int} {t : Int} (hc : C.DC D.fs.length f c t cb rb W2) (hf : C.Fr S W W2) (hs : ∀ k, S k → k = cb ∨ k = rb) : RN w0 D f { x with c := c, t := t } nb cb rb qb G v W2 ∧ Fr (FN nb cb rb G v) W W2 := by
  have hF := Fr.ofC hf
  have ns : ∀ k, k ≠ cb → k ≠ rb → ¬ S k := fun k e1 e2 g => by rcases hs k g with e | e; exact e1 e; exact e2 e
  refine ⟨⟨h.ww, h.bel.trans (hF.below h.bel.size (fun k g => by rcases hs k g with rfl | rfl; exact h.lo _ (.inr (.inl rfl)); exact h.lo _ (.inr (.inr (.inl rfl))))), (hF.block nb (h.lt nb (.inl rfl)) (ns nb h.a1 h.a2)).trans h.blk, hc, h.qu.keep hF.toQ (fun k g => ns k (fun e => h.a4 (e ▸ g)) (fun e => h.a5 (e ▸ g))), own_keep h.lg hF (fun k g => ns k (fun e => h.a7 (e ▸ g)) (fun e => h.a8 (e ▸ g))), h.lo, h.a1, h.a2, h.a3, h.a4, h.a5, h.a6, h.a7, h.a8, h.a9, h.hf, h.ok, h.s0, h.s1⟩, hF.wide (fun k g => by rcases hs k g with e | e; exact .inr (.inl e); exact .inr (.inr (.inl e)))⟩
/-- Its queue is written. -/
theorem RN.quw {w0 : World} {D : Wd} {f : Nat} {x : Nd} {nb cb rb qb : Nat} {G G2 : Nat → Prop} {v : Value} {W W2 : World} (h : RN w0 D f x nb cb rb qb G v W) {q : List Q.M} (hq : Q.IsR W2 G2 qb 64 q) (hs : Q.Step G G2 W W2) : RN w0 D f { x with q := q } nb cb rb qb G2 v W2 ∧ Fr (FN nb cb rb G v) W W2 ∧ ∀ k, FN nb cb rb G2 v k → FN nb cb rb G v k ∨ W.heap.size ≤ k := by
  have hF := Fr.ofQ hs.1
  have n2 : ∀ k, k < W.heap.size → ¬ G k → ¬ G2 k := fun k hk hg g => by rcases hs.2 k g with e | e; exact hg e; omega
  have l1 := h.lt nb (.inl rfl)
  have l2 := h.lt cb (.inr (.inl rfl))
  have l3 := h.lt rb (.inr (.inr (.inl rfl)))
  have hsz := h.bel.size
  refine ⟨⟨h.ww, h.bel.trans (hF.below h.bel.size (fun k g => h.lo k (.inr (.inr (.inr (.inl g)))))), (hF.block nb l1 h.a3).trans h.blk, h.ck.keep hF.toC h.a4 h.a5, hq, own_keep h.lg hF (fun k g => h.a9 k g), ?_, h.a1, h.a2, n2 nb l1 h.a3, n2 cb l2 h.a4, n2 rb l3 h.a5, h.a6, h.a7, h.a8, fun k g => n2 k (own_lt h.lg g).1 (h.a9 k g), h.hf, h.ok, h.s0, h.s1⟩, hF.wide (fun k g => .inr (.inr (.inr (.inl g)))), ?_⟩
  · rintro k (e | e | e | g | g)
    · exact h.lo k (.inl e)
    · exact h.lo k (.inr (.inl e))
    · exact h.lo k (.inr (.inr (.inl e)))
    · rcases hs.2 k g with e | e
      · exact h.lo k (.inr (.inr (.inr (.inl e))))
      · omega
    · exact h.lo k (.inr (.inr (.inr (.inr g))))
  · rintro k (e | e | e | g | g)
    · exact .inl (.inl e)
    · exact .inl (.inr (.inl e))
    · exact .inl (.inr (.inr (.inl e)))
    · rcases hs.2 k g with e | e
      · exact .inl (.inr (.inr (.inr (.inl e))))
      · exact .inr e
    · exact .inl (.inr (.inr (.inr (.inr g))))
/-- Its own record is written: the state, or how many it sent. -/
theorem RN.own {w0 : World} {D : Wd} {f : Nat} {x : Nd} {nb cb rb qb : Nat} {G : Nat → Prop} {v : Value} {W : World} (h : RN w0 D f x nb cb rb qb G v W) {i : Nat} {u : Value} {st sn : Int} (he : (ncs D f x.st x.sn cb qb v).setIfInBounds i u = ncs D f st sn cb qb v) (h0 : 0 ≤ sn) (h1 : sn ≤ 1000000) : RN w0 D f { x with st := st, sn := sn } nb cb rb qb G v (W.setCell ⟨nb, i, none⟩ u) := by
  have hF := frN W nb i u
  refine ⟨h.ww, h.bel.trans (hF.below h.bel.size (fun k e => by subst e; exact h.lo _ (.inl rfl))), ?_, h.ck.keep hF.toC (fun e => h.a1 e.symm) (fun e => h.a2 e.symm), h.qu.keep hF.toQ (fun k g e => by subst e; exact h.a3 g), own_keep h.lg hF (fun k g e => by subst e; exact h.a6 g), h.lo, h.a1, h.a2, h.a3, h.a4, h.a5, h.a6, h.a7, h.a8, h.a9, h.hf, h.ok, h0, h1⟩
  rw [heap_setCell_same W nb i _ _ _ h.blk, he]
end Go.Proofs.YtadmojehemdoaaaGreat
/- Proved: contracts of the document's node: Bound, State, Waiting, Safe, Hear, Tell. -/
namespace Go.Proofs.YtadmojehemdoaaaGreat
open Go.RowKit Go.Shelf
set_option linter.unusedVariables false
set_option maxRecDepth 100000

set_option maxHeartbeats 1000000 in
theorem rnbound {w0 : World} {D : Wd} {f : Nat} {x : Nd} {nb cb rb qb : Nat} {G : Nat → Prop} {v : Value} {w : World} (h : RN w0 D f x nb cb rb qb G v w) :
    Calls Tryz.prog 23 #[.pointer (some ⟨nb, 0, none⟩)] w fun e w' => e = .returned (.int .i64 (C.bnd D.fs.length f x.c)) ∧ w = w' := by
  obtain ⟨n0, n1, n2, n3, n4, n5, n6, n7, n8⟩ := h.cells
  have C := C.dbound_any h.ck
  go_enter Tryz.func23, Tryz.ntmps23
  go_wp2_with (go_at_call 54; refine C.mono ?_; rintro e w' ⟨rfl, rfl⟩)
  go_ret
  exact ⟨rfl, rfl⟩
set_option maxHeartbeats 1000000 in
theorem rnstate {w0 : World} {D : Wd} {f : Nat} {x : Nd} {nb cb rb qb : Nat} {G : Nat → Prop} {v : Value} {w : World} (h : RN w0 D f x nb cb rb qb G v w) :
    Calls Tryz.prog 21 #[.pointer (some ⟨nb, 0, none⟩)] w fun e w' => e = .returned (.int .i64 x.st) ∧ w = w' := by
  obtain ⟨n0, n1, n2, n3, n4, n5, n6, n7, n8⟩ := h.cells
  go_enter Tryz.func21, Tryz.ntmps21
  go_wp2
  go_ret
  exact ⟨rfl, rfl⟩
set_option maxHeartbeats 1000000 in
theorem rnwaiting {w0 : World} {D : Wd} {f : Nat} {x : Nd} {nb cb rb qb : Nat} {G : Nat → Prop} {v : Value} {w : World} (h : RN w0 D f x nb cb rb qb G v w) :
    Calls Tryz.prog 25 #[.pointer (some ⟨nb, 0, none⟩)] w fun e w' => ∃ u, e = .returned u ∧ Q.Own w' u x.q ∧ (∀ k, u.ownBlock = some k → w.heap.size ≤ k) ∧ Below w.heap.size w w' := by
  obtain ⟨n0, n1, n2, n3, n4, n5, n6, n7, n8⟩ := h.cells
  have C := Q.rlist_any h.qu
  go_enter Tryz.func25, Tryz.ntmps25
  go_wp2_with (go_at_call 56; refine C.mono ?_; rintro e w' ⟨u, rfl, h1, h2, h3⟩; have H : Hid _ := And.intro h1 (And.intro h2 h3); clear h1 h2 h3)
  go_ret
  exact ⟨u, rfl, H.out⟩
set_option maxHeartbeats 2000000 in
theorem rnsafe {w0 : World} {D : Wd} {f : Nat} {x : Nd} {nb cb rb qb : Nat} {G : Nat → Prop} {v : Value} {w : World} (h : RN w0 D f x nb cb rb qb G v w) :
    Calls Tryz.prog 19 #[.pointer (some ⟨nb, 0, none⟩)] w fun e w' => e = .returned (.bool (safe D f x)) ∧ Below w.heap.size w w' := by
  obtain ⟨n0, n1, n2, n3, n4, n5, n6, n7, n8⟩ := h.cells
  have F := Q.rfirst_any h.qu
  obtain ⟨m, hm⟩ : ∃ m, x.q.headD Q.zeroM = m := ⟨_, rfl⟩
  obtain ⟨E, hE⟩ : ∃ E, (!x.q.isEmpty) = E := ⟨_, rfl⟩
  have hs : safe D f x = (E && (decide (m.1.1 < D.en) && decide (m.1.1 < C.bnd D.fs.length f x.c))) := by unfold safe hd; rw [hm, hE]
  rw [hs]
  rw [hm, hE] at F
  have HP : Hid (∀ W, Below w.heap.size w W → RN w0 D f x nb cb rb qb G v W) := fun W hb => h.below hb
  clear hs hm hE h
  obtain ⟨⟨T, m2, m3⟩, m4, m5, m6⟩ := m
  dsimp only [Q.mv] at F ⊢
  have HB0 : Hid (∀ w1, Below w.heap.size w w1 → Below w.heap.size w (w1.alloc (.cells #[.int .i64 T, .int .i64 m2, .int .i64 m3, .int .i64 m4, .int .i64 m5, .int .i64 m6] 39)) ∧ (w1.alloc (.cells #[.int .i64 T, .int .i64 m2, .int .i64 m3, .int .i64 m4, .int .i64 m5, .int .i64 m6] 39)).cell? ⟨w1.heap.size, 0, none⟩ = some (.int .i64 T)) := fun w1 b1 => ⟨b1.trans ((al w1 _).mono b1.size), cellN (MapKept.heap_alloc w1 _).1 0⟩
  cases E
  · rw [Bool.false_and]
    go_enter Tryz.func19, Tryz.ntmps19
    go_wp2_with (go_at_call 51; refine F.mono ?_; rintro e w1 ⟨rfl, b1⟩; obtain ⟨hb, k0⟩ := Hid.out HB0 _ b1; have HB : Hid _ := hb; clear b1 F hb)
    go_quiet (fail)
    go_wp2
    go_ret
    exact ⟨rfl, HB.out.trans ⟨rfl, rfl, rfl, Nat.le_refl _, fun _ _ => rfl⟩⟩
  · rw [Bool.true_and]
    obtain ⟨B, hB⟩ : ∃ B, C.bnd D.fs.length f x.c = B := ⟨_, rfl⟩
    rw [hB]
    have HBD : Hid (∀ W, Below w.heap.size w W → ∀ n, Calls Tryz.prog 23 #[.pointer (some ⟨nb, 0, none⟩)] (W.drewN n) fun e w' => e = .returned (.int .i64 B) ∧ w' = W.drewN n) := fun W hb n => by
      have := rnbound (HP.out (W.drewN n) (hb.trans ⟨rfl, rfl, rfl, Nat.le_refl _, fun _ _ => rfl⟩))
      rw [hB] at this
      exact this.mono fun e w' ⟨he, hw⟩ => ⟨he, hw.symm⟩
    clear hB
    by_cases c1 : T < D.en
    · have d1 : decide (T < D.en) = true := by simpa using c1
      rw [d1, Bool.true_and]
      go_enter Tryz.func19, Tryz.ntmps19
      go_wp2_with (go_at_call 51; refine F.mono ?_; rintro e w1 ⟨rfl, b1⟩; obtain ⟨hb, k0⟩ := Hid.out HB0 _ b1; have HB : Hid _ := hb; obtain ⟨y0, y1, y2, y3, y4, y5, y6, y7, y8⟩ := (Hid.out HP _ hb).cells; clear b1 F hb)
      have HC := HBD.out _ HB.out
      go_quiet (first | (go_at_call 23; refine Calls.quiet_of_same (HC _)))
      go_wp2
      go_ret
      exact ⟨rfl, HB.out.trans ⟨rfl, rfl, rfl, Nat.le_refl _, fun _ _ => rfl⟩⟩
    · have d1 : decide (T < D.en) = false := by simpa using c1
      rw [d1, Bool.false_and]
      clear HBD
      go_enter Tryz.func19, Tryz.ntmps19
      go_wp2_with (go_at_call 51; refine F.mono ?_; rintro e w1 ⟨rfl, b1⟩; obtain ⟨hb, k0⟩ := Hid.out HB0 _ b1; have HB : Hid _ := hb; obtain ⟨y0, y1, y2, y3, y4, y5, y6, y7, y8⟩ := (Hid.out HP _ hb).cells; clear b1 F hb)
      go_quiet (fail)
      go_wp2
      go_ret
      exact ⟨rfl, HB.out.trans ⟨rfl, rfl, rfl, Nat.le_refl _, fun _ _ => rfl⟩⟩
end Go.Proofs.YtadmojehemdoaaaGreat
/- Proved: contracts of the document's node: Hear, Tell. -/
namespace Go.Proofs.YtadmojehemdoaaaGreat
open Go.RowKit Go.Shelf
set_option linter.unusedVariables false
set_option maxRecDepth 100000

set_option maxHeartbeats 2000000 in
theorem rnhear {w0 : World} {D : Wd} {f : Nat} {x : Nd} {nb cb rb qb : Nat} {G : Nat → Prop} {v : Value} {w : World} (h : RN w0 D f x nb cb rb qb G v w) (fr k co T b c d e g : Int) :
    Calls Tryz.prog 12 #[.pointer (some ⟨nb, 0, none⟩), .int .i64 fr, .agg (icv k T b c d e g co)] w fun en w' => en = .returned (.int .i64 (heE D.fs.length f x fr k ((T, b, c), d, e, g))) ∧ ∃ G2, RN w0 D f (heN D.fs.length f x fr k ((T, b, c), d, e, g)) nb cb rb qb G2 v w' ∧ StN (FN nb cb rb G v) (FN nb cb rb G2 v) w w' := by
  obtain ⟨W0, hW0⟩ : ∃ W0, W0 = w.alloc (.cells (icv k T b c d e g co) 41) := ⟨_, rfl⟩
  have hb0 : Below w.heap.size w W0 := by rw [hW0]; exact al w _
  have h0 := h.below hb0
  have hlt := h.lt
  have bx : W0.heap[w.heap.size]? = some (.cells (icv k T b c d e g co) 41 (0, 0)) := by rw [hW0]; exact (MapKept.heap_alloc w _).1
  have nF : ¬ FN nb cb rb G v w.heap.size := fun g => by have := hlt _ g; omega
  have HS : Hid (∀ G2 W, StN (FN nb cb rb G v) (FN nb cb rb G2 v) W0 W → StN (FN nb cb rb G v) (FN nb cb rb G2 v) w W) := fun G2 W hs => StN.after hb0 hlt hs
  obtain ⟨n0, n1, n2, n3, n4, n5, n6, n7, n8⟩ := h0.cells
  have k0 : W0.cell? ⟨w.heap.size, 0, none⟩ = some (.int .i64 k) := cellN bx 0
  have k1 : W0.cell? ⟨w.heap.size, 1, none⟩ = some (.int .i64 T) := cellN bx 1
  have k2 : W0.cell? ⟨w.heap.size, 2, none⟩ = some (.int .i64 b) := cellN bx 2
  have k3 : W0.cell? ⟨w.heap.size, 3, none⟩ = some (.int .i64 c) := cellN bx 3
  have k4 : W0.cell? ⟨w.heap.size, 4, none⟩ = some (.int .i64 d) := cellN bx 4
  have k5 : W0.cell? ⟨w.heap.size, 5, none⟩ = some (.int .i64 e) := cellN bx 5
  have k6 : W0.cell? ⟨w.heap.size, 6, none⟩ = some (.int .i64 g) := cellN bx 6
  have HX : Hid (∀ W, Fr (FN nb cb rb G v) W0 W → W.heap[w.heap.size]? = some (.cells (icv k T b c d e g co) 41 (0, 0))) := fun W hf => (hf.block _ (Array.getElem?_eq_some_iff.1 bx).1 nF).trans bx
  have H0 : Hid (RN w0 D f x nb cb rb qb G v W0) := h0
  simp only [icv] at hW0
  clear h bx nF h0
  by_cases e2 : k = 2
  · have d2 : (k == 2) = true := by simpa using e2
    have eE : heE D.fs.length f x fr k ((T, b, c), d, e, g) = C.hrE D.fs.length f x.c fr T := by unfold heE; rw [if_pos e2]
    have eN : heN D.fs.length f x fr k ((T, b, c), d, e, g) = { x with c := C.hrC D.fs.length f x.c fr T } := by unfold heN; rw [if_pos e2]
    rw [eE, eN]
    clear eE eN e2
    have HC : Hid (Calls Tryz.prog 39 #[.pointer (some ⟨cb, 0, none⟩), .int .i64 fr, .int .i64 T] W0.drew fun en w' => en = .returned (.int .i64 (C.hrE D.fs.length f x.c fr T)) ∧ RN w0 D f { x with c := C.hrC D.fs.length f x.c fr T } nb cb rb qb G v w' ∧ Fr (FN nb cb rb G v) W0 w') := by
      have hd : RN w0 D f x nb cb rb qb G v W0.drew := H0.out.below ((Below.refl _ _).drew)
      exact (C.dhear_any hd.ck fr T).mono fun en w' ⟨he, hc, hf⟩ => by
        obtain ⟨r1, r2⟩ := hd.ckw hc hf (fun k e => .inr e)
        exact ⟨he, r1, ⟨r2.os, r2.tape, r2.output, r2.size, r2.block⟩⟩
    obtain ⟨E, hE⟩ : ∃ E, C.hrE D.fs.length f x.c fr T = E := ⟨_, rfl⟩
    rw [hE] at HC ⊢
    clear hE
    go_enter Tryz.func12, Tryz.ntmps12
    go_wp2
    rw [← hW0]
    clear hW0
    go_region_held3 (fun w' => w'.cell? ⟨nb, 6, none⟩ = some (.pointer (some ⟨cb, 0, none⟩)) ∧ w'.cell? ⟨w.heap.size, 1, none⟩ = some (.int .i64 T)) (first | (go_keep; done) | exact Hid.out KEEP) (first
      | (go_at_call 39; refine (Hid.out HC).mono ?_; rintro en w3 ⟨rfl, h3, f3⟩; have H3 : Hid _ := h3; have F3 : Hid _ := f3; have KEEP : Hid _ := And.intro h3.cells.2.2.2.2.2.2.1 (cellN (Hid.out HX _ f3) 1); clear h3 f3 HC))
    go_wp2
    go_ret
    exact ⟨rfl, G, H3.out, HS.out G _ ⟨F3.out, fun k g => .inl g⟩⟩
  · have d2 : (k == 2) = false := by simpa using e2
    by_cases e0 : k = 0
    · have d0 : (k == 0) = true := by simpa using e0
      have hAt := C.dat_any H0.out.ck fr
      obtain ⟨A, hA⟩ : ∃ A, C.atC D.fs.length f x.c fr = A := ⟨_, rfl⟩
      rw [hA] at hAt
      have eE : heE D.fs.length f x fr k ((T, b, c), d, e, g) = (if A < 0 then 1 else if T < A then 110 else if Q.hasK x.q (T, b, c) = true then 3 else if 64 ≤ x.q.length then 2 else 0) := by unfold heE; rw [if_neg e2, if_pos e0, hA]
      by_cases a0 : A < 0
      · have eN : heN D.fs.length f x fr k ((T, b, c), d, e, g) = x := by unfold heN; rw [if_neg e2, if_neg (fun g => by have := g.2; rw [eE, if_pos a0] at this; cases this)]
        rw [eE, eN, if_pos a0]
        clear eE eN e2 e0 hA
        rw [hW0] at hAt n6
        go_enter Tryz.func12, Tryz.ntmps12
        go_wp2_with (go_at_call 40; refine hAt.mono ?_; rintro en w3 ⟨rfl, rfl⟩)
        go_ret
        rw [← hW0]
        exact ⟨rfl, G, H0.out, HS.out G _ (StN.below (Below.refl _ _))⟩
      · have HAt : Hid (∀ n, Calls Tryz.prog 40 #[.pointer (some ⟨cb, 0, none⟩), .int .i64 fr] (W0.drewN n) fun en w' => en = .returned (.int .i64 A) ∧ w' = W0.drewN n) := fun n => by
          have := C.dat_any (H0.out.below (W2 := W0.drewN n) ⟨rfl, rfl, rfl, Nat.le_refl _, fun _ _ => rfl⟩).ck fr
          rw [hA] at this
          exact this.mono fun en w' ⟨he, hw⟩ => ⟨he, hw.symm⟩
        by_cases aT : T < A
        · have eN : heN D.fs.length f x fr k ((T, b, c), d, e, g) = x := by unfold heN; rw [if_neg e2, if_neg (fun g => by have := g.2; rw [eE, if_neg a0, if_pos aT] at this; cases this)]
          rw [eE, eN, if_neg a0, if_pos aT]
          clear eE eN e2 e0 hA
          rw [hW0] at hAt n6
          go_enter Tryz.func12, Tryz.ntmps12
          go_wp2_with (go_at_call 40; refine hAt.mono ?_; rintro en w3 ⟨rfl, rfl⟩)
          rw [← hW0] at n6 ⊢
          clear hW0 hAt
          have HC := HAt.out
          go_quiet (first | (go_at_call 40; refine Calls.quiet_of_same (HC _)))
          go_wp2
          go_ret
          exact ⟨rfl, G, H0.out.below ⟨rfl, rfl, rfl, Nat.le_refl _, fun _ _ => rfl⟩, HS.out G _ (StN.below ⟨rfl, rfl, rfl, Nat.le_refl _, fun _ _ => rfl⟩)⟩
        · rw [if_neg a0, if_neg aT] at eE
          obtain ⟨E, hE⟩ : ∃ E : Int, (if Q.hasK x.q (T, b, c) = true then (3 : Int) else if 64 ≤ x.q.length then 2 else 0) = E := ⟨_, rfl⟩
          rw [hE] at eE
          have eN : heN D.fs.length f x fr k ((T, b, c), d, e, g) = { x with q := if Q.hasK x.q (T, b, c) = true then x.q else if 64 ≤ x.q.length then x.q else Q.ins x.q ((T, b, c), d, e, g) } := by
            unfold heN
            rw [if_neg e2, eE, ← hE]
            by_cases g1 : Q.hasK x.q (T, b, c) = true
            · rw [if_pos g1, if_pos g1, if_neg (fun g => by have := g.2; cases this)]
            · rw [if_neg g1, if_neg g1]
              by_cases g2 : 64 ≤ x.q.length
              · rw [if_pos g2, if_pos g2, if_neg (fun g => by have := g.2; cases this)]
              · rw [if_neg g2, if_neg g2, if_pos ⟨e0, rfl⟩]
          rw [eE, eN]
          obtain ⟨Y, hY⟩ : ∃ Y, ({ x with q := if Q.hasK x.q (T, b, c) = true then x.q else if 64 ≤ x.q.length then x.q else Q.ins x.q ((T, b, c), d, e, g) } : Nd) = Y := ⟨_, rfl⟩
          have HP : Hid (∀ W, Below W0.heap.size W0 W → Calls Tryz.prog 41 #[.pointer (some ⟨qb, 0, none⟩), .agg #[.int .i64 T, .int .i64 b, .int .i64 c, .int .i64 d, .int .i64 e, .int .i64 g]] W fun en w' => en = .returned (.int .i64 E) ∧ ∃ G2, RN w0 D f Y nb cb rb qb G2 v w' ∧ StN (FN nb cb rb G v) (FN nb cb rb G2 v) W0 w') := fun W hb => by
            have hd := H0.out.below hb
            have := Q.rpush_any hd.qu ((T, b, c), d, e, g)
            rw [hE] at this
            refine this.mono fun en w' ⟨he, G2, hq, hs⟩ => ?_
            obtain ⟨r1, r2, r3⟩ := hd.quw hq hs
            rw [hY] at r1
            exact ⟨he, G2, r1, StN.after hb H0.out.lt ⟨r2, r3⟩⟩
          rw [hY]
          clear eE eN e2 e0 hA hE hY
          rw [hW0] at hAt n6
          go_enter Tryz.func12, Tryz.ntmps12
          go_wp2_with (go_at_call 40; refine hAt.mono ?_; rintro en w3 ⟨rfl, rfl⟩)
          rw [← hW0] at n6 ⊢
          clear hW0 hAt
          have HC := HAt.out
          go_quiet (first | (go_at_call 40; refine Calls.quiet_of_same (HC _)))
          go_wp2
          have HKX : Hid (∀ G2 W, RN w0 D f Y nb cb rb qb G2 v W → StN (FN nb cb rb G v) (FN nb cb rb G2 v) W0 W → W.cell? ⟨nb, 7, none⟩ = some (.pointer (some ⟨qb, 0, none⟩)) ∧ W.cell? ⟨w.heap.size, 1, none⟩ = some (.int .i64 T) ∧ W.cell? ⟨w.heap.size, 2, none⟩ = some (.int .i64 b) ∧ W.cell? ⟨w.heap.size, 3, none⟩ = some (.int .i64 c) ∧ W.cell? ⟨w.heap.size, 4, none⟩ = some (.int .i64 d) ∧ W.cell? ⟨w.heap.size, 5, none⟩ = some (.int .i64 e) ∧ W.cell? ⟨w.heap.size, 6, none⟩ = some (.int .i64 g)) := fun G2 W hr hs => by
            have hx := HX.out W hs.1
            exact ⟨hr.cells.2.2.2.2.2.2.2.1, cellN hx 1, cellN hx 2, cellN hx 3, cellN hx 4, cellN hx 5, cellN hx 6⟩
          clear HC HAt HX
          go_region_held3 (fun w' => w'.cell? ⟨nb, 7, none⟩ = some (.pointer (some ⟨qb, 0, none⟩)) ∧ w'.cell? ⟨w.heap.size, 1, none⟩ = some (.int .i64 T) ∧ w'.cell? ⟨w.heap.size, 2, none⟩ = some (.int .i64 b) ∧ w'.cell? ⟨w.heap.size, 3, none⟩ = some (.int .i64 c) ∧ w'.cell? ⟨w.heap.size, 4, none⟩ = some (.int .i64 d) ∧ w'.cell? ⟨w.heap.size, 5, none⟩ = some (.int .i64 e) ∧ w'.cell? ⟨w.heap.size, 6, none⟩ = some (.int .i64 g)) (first | (go_keep; done) | exact Hid.out KEEP) (first
            | (go_at_call 41; refine (Hid.out HP ((W0.drewN nq).drew) ⟨rfl, rfl, rfl, Nat.le_refl _, fun _ _ => rfl⟩).mono ?_; rintro en w3 ⟨rfl, G2, h3, s3⟩; have H3 : Hid _ := And.intro h3 s3; have KEEP : Hid _ := Hid.out HKX G2 w3 h3 s3; clear h3 s3 HP))
          go_wp2
          go_ret
          exact ⟨rfl, G2, H3.out.1, HS.out G2 _ H3.out.2⟩
    · have d0 : (k == 0) = false := by simpa using e0
      have eE : heE D.fs.length f x fr k ((T, b, c), d, e, g) = 130 := by unfold heE; rw [if_neg e2, if_neg e0]
      have eN : heN D.fs.length f x fr k ((T, b, c), d, e, g) = x := by unfold heN; rw [if_neg e2, if_neg (fun g => e0 g.1)]
      rw [eE, eN]
      clear eE eN e2 e0
      go_enter Tryz.func12, Tryz.ntmps12
      go_wp2
      go_ret
      rw [← hW0]
      exact ⟨rfl, G, H0.out, HS.out G _ (StN.below (Below.refl _ _))⟩

set_option maxHeartbeats 2000000 in
theorem rntell {w0 : World} {D : Wd} {f : Nat} {x : Nd} {nb cb rb qb : Nat} {G : Nat → Prop} {v : Value} {w : World} (h : RN w0 D f x nb cb rb qb G v w) :
    Calls Tryz.prog 17 #[.pointer (some ⟨nb, 0, none⟩)] w fun en w' => en = .returned (.tuple #[.int .i64 (teT D f x), .bool (teB D f x)]) ∧ RN w0 D f (teN D f x) nb cb rb qb G v w' ∧ StN (FN nb cb rb G v) (FN nb cb rb G v) w w' := by
  obtain ⟨n0, n1, n2, n3, n4, n5, n6, n7, n8⟩ := h.cells
  have hfI : (f : Int) < (D.fs.length : Int) := by have := h.hf; omega
  have F := Q.rfirst_any h.qu
  obtain ⟨m, hm⟩ : ∃ m, x.q.headD Q.zeroM = m := ⟨_, rfl⟩
  obtain ⟨E, hE⟩ : ∃ E, (!x.q.isEmpty) = E := ⟨_, rfl⟩
  have hft : ft x = if E = false then 1125899906842624 else m.1.1 := by unfold ft hd; rw [hm, ← hE]; cases x.q.isEmpty <;> rfl
  rw [hm, hE] at F
  obtain ⟨⟨T, m2, m3⟩, m4, m5, m6⟩ := m
  dsimp only [Q.mv] at F hft
  obtain ⟨fb, off, hfa, hfb, hcs⟩ := h.wd.f.1 (by intro e; have := h.hf; rw [e] at this; simp at this)
  have HCF : Hid (∀ W, Below w.heap.size w W → W.cell? ⟨fb, off + f * 7 + 1, none⟩ = some (.int .i64 (nthF D.fs f).lk)) := fun W hb => (hb.cell (p := ⟨fb, off + f * 7 + 1, none⟩) hfb).trans (hcs f h.hf 1 (by omega))
  obtain ⟨L, hL⟩ : ∃ L, (nthF D.fs f).lk = L := ⟨_, rfl⟩
  obtain ⟨A, hA⟩ : ∃ A, ft x = A := ⟨_, rfl⟩
  obtain ⟨t1, ht1⟩ : ∃ t1, teT D f x = t1 := ⟨_, rfl⟩
  obtain ⟨b1, hb1⟩ : ∃ b1, teB D f x = b1 := ⟨_, rfl⟩
  have HTL : Hid (∀ W, Below w.heap.size w W → Calls Tryz.prog 52 #[.pointer (some ⟨cb, 0, none⟩), .int .i64 A, .int .i64 L] W fun en w' => en = .returned (.tuple #[.int .i64 t1, .bool b1]) ∧ RN w0 D f (teN D f x) nb cb rb qb G v w' ∧ Fr (FN nb cb rb G v) w w') := fun W hb => by
    have hd := h.below hb
    have := C.dtell_any hd.ck A L
    rw [← hA, ← hL] at this
    change Calls _ _ _ _ (fun e w' => e = .returned (.tuple #[.int .i64 (teT D f x), .bool (teB D f x)]) ∧ C.DC D.fs.length f x.c (teT D f x) cb rb w' ∧ C.Fr (fun k => k = cb) W w') at this
    rw [ht1, hb1, hA, hL] at this
    refine this.mono fun en w' ⟨he, hc, hf⟩ => ?_
    obtain ⟨r1, r2⟩ := hd.ckw hc hf (fun k e => .inl e)
    refine ⟨he, ?_, (Fr.of_below hb).then r2⟩
    have e : teN D f x = { x with c := x.c, t := t1 } := by unfold teN; rw [ht1]
    rw [e]
    exact r1
  have HP : Hid (∀ W, Below w.heap.size w W → RN w0 D f x nb cb rb qb G v W) := fun W hb => h.below hb
  rw [hL] at HCF
  rw [ht1, hb1]
  have HB0 : Hid (∀ w1, Below w.heap.size w w1 → Below w.heap.size w (w1.alloc (.cells #[.int .i64 T, .int .i64 m2, .int .i64 m3, .int .i64 m4, .int .i64 m5, .int .i64 m6] 39)) ∧ (w1.alloc (.cells #[.int .i64 T, .int .i64 m2, .int .i64 m3, .int .i64 m4, .int .i64 m5, .int .i64 m6] 39)).cell? ⟨w1.heap.size, 0, none⟩ = some (.int .i64 T)) := fun w1 b1 => ⟨b1.trans ((al w1 _).mono b1.size), cellN (MapKept.heap_alloc w1 _).1 0⟩
  rw [hfa] at n1
  have HK : Hid (∀ W, RN w0 D f (teN D f x) nb cb rb qb G v W → Fr (FN nb cb rb G v) w W → W.cell? ⟨nb, 6, none⟩ = some (.pointer (some ⟨cb, 0, none⟩)) ∧ W.cell? ⟨nb, 1, none⟩ = some (.slice (some ⟨fb, off, none⟩) D.fs.length D.fc) ∧ W.cell? ⟨nb, 3, none⟩ = some (.int .i64 f) ∧ W.cell? ⟨fb, off + f * 7 + 1, none⟩ = some (.int .i64 L)) := fun W hr hf => by
    have q := hr.cells
    refine ⟨q.2.2.2.2.2.2.1, by rw [← hfa]; exact q.2.1, q.2.2.2.1, ?_⟩
    have := hr.wd.f.1 (by intro e; have := h.hf; rw [e] at this; simp at this)
    obtain ⟨fb2, off2, e2, _, hc2⟩ := this
    rw [hfa] at e2
    cases e2
    rw [← hL]
    exact hc2 f h.hf 1 (by omega)
  clear hm hE h hcs hL ht1 hb1
  cases E
  · rw [if_pos rfl] at hft
    rw [hft] at hA
    subst hA
    clear hft
    go_enter Tryz.func17, Tryz.ntmps17
    go_wp2_with (go_at_call 51; refine F.mono ?_; rintro e w1 ⟨rfl, b1⟩; obtain ⟨hb, k0⟩ := Hid.out HB0 _ b1; have HB : Hid _ := hb; obtain ⟨y0, y1, y2, y3, y4, y5, y6, y7, y8⟩ := (Hid.out HP _ hb).cells; rw [hfa] at y1; have z1 := Hid.out HCF _ hb; clear b1 F hb)
    go_region_held3 (fun w' => w'.cell? ⟨nb, 6, none⟩ = some (.pointer (some ⟨cb, 0, none⟩)) ∧ w'.cell? ⟨nb, 1, none⟩ = some (.slice (some ⟨fb, off, none⟩) D.fs.length D.fc) ∧ w'.cell? ⟨nb, 3, none⟩ = some (.int .i64 f) ∧ w'.cell? ⟨fb, off + f * 7 + 1, none⟩ = some (.int .i64 L)) (first | (go_keep; done) | exact Hid.out KEEP) (first
      | (go_at_call 52; refine (Hid.out HTL _ ((Hid.out HB).trans ((Below.refl _ _).drew))).mono ?_; rintro en w3 ⟨rfl, h3, f3⟩; have H3 : Hid _ := And.intro h3 f3; have KEEP : Hid _ := Hid.out HK w3 h3 f3; clear h3 f3 HTL))
    go_wp2
    go_ret2
    exact ⟨rfl, H3.out.1, H3.out.2, fun k g => .inl g⟩
  · rw [if_neg (by decide)] at hft
    rw [hft] at hA
    subst hA
    clear hft
    go_enter Tryz.func17, Tryz.ntmps17
    go_wp2_with (go_at_call 51; refine F.mono ?_; rintro e w1 ⟨rfl, b1⟩; obtain ⟨hb, k0⟩ := Hid.out HB0 _ b1; have HB : Hid _ := hb; obtain ⟨y0, y1, y2, y3, y4, y5, y6, y7, y8⟩ := (Hid.out HP _ hb).cells; rw [hfa] at y1; have z1 := Hid.out HCF _ hb; clear b1 F hb)
    go_region_held3 (fun w' => w'.cell? ⟨nb, 6, none⟩ = some (.pointer (some ⟨cb, 0, none⟩)) ∧ w'.cell? ⟨nb, 1, none⟩ = some (.slice (some ⟨fb, off, none⟩) D.fs.length D.fc) ∧ w'.cell? ⟨nb, 3, none⟩ = some (.int .i64 f) ∧ w'.cell? ⟨fb, off + f * 7 + 1, none⟩ = some (.int .i64 L)) (first | (go_keep; done) | exact Hid.out KEEP) (first
      | (go_at_call 52; refine (Hid.out HTL _ ((Hid.out HB).trans ((Below.refl _ _).drew))).mono ?_; rintro en w3 ⟨rfl, h3, f3⟩; have H3 : Hid _ := And.intro h3 f3; have KEEP : Hid _ := Hid.out HK w3 h3 f3; clear h3 f3 HTL))
    go_wp2
    go_ret2
    exact ⟨rfl, H3.out.1, H3.out.2, fun k g => .inl g⟩
end Go.Proofs.YtadmojehemdoaaaGreat
/- Proved: what the document's Step has in its middle; how what was taken is put down. -/
namespace Go.Proofs.YtadmojehemdoaaaGreat
open Go.RowKit Go.Shelf
set_option linter.unusedVariables false
set_option maxRecDepth 100000

structure Md (w0 w : World) (D : Wd) (f : Nat) (x : Nd) (nb cb rb qb : Nat) (G0 G : Nat → Prop) (v0 v : Value) (A B : Nat) (z : Array Value) (W : World) : Prop where
  rn : RN w0 D f x nb cb rb qb G v W
  st : StN (FN nb cb rb G0 v0) (FN nb cb rb G v) w W
  bA : W.heap[A]? = some (.cells (dcs zeroD) 46 (0, 0))
  bB : W.heap[B]? = some (.cells z 39 (0, 0))
  nA : ¬ FN nb cb rb G v A
  nB : ¬ FN nb cb rb G v B
  lA : w.heap.size ≤ A
  lB : w.heap.size ≤ B
theorem Md.on {w0 w : World} {D : Wd} {f : Nat} {x : Nd} {nb cb rb qb : Nat} {G0 G : Nat → Prop} {v0 v : Value} {A B : Nat} {z : Array Value} {W W2 : World} (h : Md w0 w D f x nb cb rb qb G0 G v0 v A B z W) (hb : Below W.heap.size W W2) : Md w0 w D f x nb cb rb qb G0 G v0 v A B z W2 :=
  ⟨h.rn.below hb, ⟨h.st.1.then (Fr.of_below hb), h.st.2⟩, (hb.block A (Array.getElem?_eq_some_iff.1 h.bA).1).trans h.bA, (hb.block B (Array.getElem?_eq_some_iff.1 h.bB).1).trans h.bB, h.nA, h.nB, h.lA, h.lB⟩
theorem StN.own {F0 : Nat → Prop} {nb cb rb : Nat} {G : Nat → Prop} {v : Value} {w W : World} (h : StN F0 (FN nb cb rb G v) w W) (i : Nat) (u : Value) : StN F0 (FN nb cb rb G v) w (W.setCell ⟨nb, i, none⟩ u) := by
  refine ⟨h.1.trans (frN W nb i u) (fun k hk e => ?_), h.2⟩
  subst e
  rcases h.2 k (.inl rfl) with g | g
  · exact g
  · omega
theorem Md.own {w0 w : World} {D : Wd} {f : Nat} {x : Nd} {nb cb rb qb : Nat} {G0 G : Nat → Prop} {v0 v : Value} {A B : Nat} {z : Array Value} {W : World} (h : Md w0 w D f x nb cb rb qb G0 G v0 v A B z W) {i : Nat} {u : Value} {st sn : Int} (he : (ncs D f x.st x.sn cb qb v).setIfInBounds i u = ncs D f st sn cb qb v) (h0 : 0 ≤ sn) (h1 : sn ≤ 1000000) : Md w0 w D f { x with st := st, sn := sn } nb cb rb qb G0 G v0 v A B z (W.setCell ⟨nb, i, none⟩ u) := by
  have hF := frN W nb i u
  exact ⟨h.rn.own he h0 h1, h.st.own i u, (hF.block A (Array.getElem?_eq_some_iff.1 h.bA).1 (fun e => h.nA (.inl e))).trans h.bA, (hF.block B (Array.getElem?_eq_some_iff.1 h.bB).1 (fun e => h.nB (.inl e))).trans h.bB, h.nA, h.nB, h.lA, h.lB⟩
/-- What the walk reads in its middle: the record, the federate's rules, the message. -/
theorem Md.reads {w0 w : World} {D : Wd} {f : Nat} {x : Nd} {nb cb rb qb : Nat} {G0 G : Nat → Prop} {v0 v : Value} {A B : Nat} {T b c d e g : Int} {W : World} (h : Md w0 w D f x nb cb rb qb G0 G v0 v A B (mc6 T b c d e g) W) {fb off : Nat} (hfa : D.fa = some ⟨fb, off, none⟩) {F : Fd} (hF : nthF D.fs f = F) :
    (W.cell? ⟨nb, 0, none⟩ = some (.slice D.pa D.ps.length D.pc) ∧ W.cell? ⟨nb, 1, none⟩ = some (.slice (some ⟨fb, off, none⟩) D.fs.length D.fc) ∧ W.cell? ⟨nb, 2, none⟩ = some (.int .i64 D.en) ∧ W.cell? ⟨nb, 3, none⟩ = some (.int .i64 f) ∧ W.cell? ⟨nb, 4, none⟩ = some (.int .i64 x.st) ∧ W.cell? ⟨nb, 5, none⟩ = some (.int .i64 x.sn) ∧ W.cell? ⟨nb, 7, none⟩ = some (.pointer (some ⟨qb, 0, none⟩)) ∧ W.cell? ⟨nb, 8, none⟩ = some v) ∧
    W.cell? ⟨fb, off + f * 7 + 3, none⟩ = some (.slice F.ra F.rs.length F.rc) ∧
    (W.cell? ⟨B, 0, none⟩ = some (.int .i64 T) ∧ W.cell? ⟨B, 1, none⟩ = some (.int .i64 b) ∧ W.cell? ⟨B, 2, none⟩ = some (.int .i64 c) ∧ W.cell? ⟨B, 3, none⟩ = some (.int .i64 d) ∧ W.cell? ⟨B, 4, none⟩ = some (.int .i64 e) ∧ W.cell? ⟨B, 5, none⟩ = some (.int .i64 g)) := by
  obtain ⟨n0, n1, n2, n3, n4, n5, n6, n7, n8⟩ := h.rn.cells
  rw [hfa] at n1
  refine ⟨⟨n0, n1, n2, n3, n4, n5, n7, n8⟩, ?_, cellN h.bB 0, cellN h.bB 1, cellN h.bB 2, cellN h.bB 3, cellN h.bB 4, cellN h.bB 5⟩
  obtain ⟨fb2, off2, e2, _, hc2⟩ := h.rn.wd.f.1 (by intro e; have := h.rn.hf; rw [e] at this; simp at this)
  rw [hfa] at e2
  cases e2
  have := hc2 f h.rn.hf 3 (by omega)
  rw [hF] at this
  exact this
/-- One more is put down behind what was taken. -/
theorem Md.log {w0 w : World} {D : Wd} {f : Nat} {x : Nd} {nb cb rb qb : Nat} {G0 G : Nat → Prop} {v0 v : Value} {A B : Nat} {z : Array Value} {W : World} (h : Md w0 w D f x nb cb rb qb G0 G v0 v A B z W) (d : Dn) (hl : x.lg.length ≤ 100000) (ty : TypeId) :
    ∃ a' c' w', (Builtin.append_ #[56, 56] ty #[v, .slice (some ⟨W.heap.size, 0, none⟩) 1 1]).run Tryz.prog (W.alloc (.cells (dcs d) 46)) = .ok (.slice a' (x.lg.length + 1) c') w' ∧ w'.cell? ⟨nb, 8, none⟩ = some v ∧ w'.frozen? ⟨nb, 8, none⟩ = false ∧ Fr (fun k => v.ownBlock = some k) W w' ∧ (∀ k, (Value.slice a' (x.lg.length + 1) c').ownBlock = some k → v.ownBlock = some k ∨ W.heap.size < k) ∧
      Md w0 w D f { x with lg := x.lg ++ [d] } nb cb rb qb G0 G v0 (.slice a' (x.lg.length + 1) c') A B z (w'.setCell ⟨nb, 8, none⟩ (.slice a' (x.lg.length + 1) c')) := by
  obtain ⟨i0, hi0, hz0, hz1, hz2⟩ := info_parts infoD
  have hb1 := al W (.cells (dcs d) 46)
  have hx : (W.alloc (.cells (dcs d) 46)).heap[W.heap.size]? = some (.cells (dcs d) 46 (0, 0)) := (MapKept.heap_alloc W _).1
  obtain ⟨v', w', hr, h3, h4, h5, h6⟩ := run_append_own_at (P := Tryz.prog) _ w0.heap.size 56 ty 46 i0 _ 7 56 Tryz.underlying56 hi0 hz0 hz1 hz2 rfl (by decide) v x.lg.length (flatD x.lg) (own_below h.rn.lg hb1) ⟨W.heap.size, 0, none⟩ 1 1 (flatD [d]) (flatD_len [d]) (fun j u hj => by
    rw [Addr.add_lit, Nat.zero_add]
    have e : flatD [d] = encD d := by simp [flatD]
    rw [e] at hj
    rw [cellN hx j]
    simpa [encD, dcs] using hj) (flatD_one _) (by unfold maxLen; omega) (by omega) (Nat.le_trans h.rn.bel.size hb1.size)
  have hro : w'.ownsRow w0.heap.size 46 7 v' (x.lg.length + 1) (flatD (x.lg ++ [d])) := by
    rw [flatD_append]
    exact h3
  obtain ⟨a', c', rfl⟩ := shape_of hro
  have hF : Fr (fun k => v.ownBlock = some k) W w' := (Fr.of_below hb1).then (Fr.grown (Fr.refl _ _) h4 (fun k hk _ => hk))
  have hcl : ∀ k, k < W.heap.size → v.ownBlock ≠ some k → w'.heap[k]? = W.heap[k]? := fun k hk hn => hF.block k hk hn
  have lnb := h.rn.lt nb (.inl rfl)
  have hblk' := (hcl nb lnb h.rn.a6).trans h.rn.blk
  -- where the new row lies
  have hnew : ∀ k, (Value.slice a' (x.lg.length + 1) c').ownBlock = some k → v.ownBlock = some k ∨ W.heap.size < k := fun k hk => by
    rcases h6 with e | e
    · rw [e] at hk; exact .inl hk
    · rw [e] at hk
      simp at hk
      exact .inr (by omega)
  have nn : ∀ k, k < W.heap.size → v.ownBlock ≠ some k → (Value.slice a' (x.lg.length + 1) c').ownBlock ≠ some k := fun k hk hn e => by
    rcases hnew k e with g | g
    · exact hn g
    · omega
  have lA' := (Array.getElem?_eq_some_iff.1 h.bA).1
  have lB' := (Array.getElem?_eq_some_iff.1 h.bB).1
  have hS := frN w' nb 8 (.slice a' (x.lg.length + 1) c')
  have lcb := h.rn.lt cb (.inr (.inl rfl))
  have lrb := h.rn.lt rb (.inr (.inr (.inl rfl)))
  have hbel : Below w0.heap.size w0 w' := h.rn.bel.trans (hF.below h.rn.bel.size (fun k g => h.rn.lo k (.inr (.inr (.inr (.inr g))))))
  have hlo : ∀ k, FN nb cb rb G (.slice a' (x.lg.length + 1) c') k → w0.heap.size ≤ k := by
    rintro k (e | e | e | g | g)
    · exact h.rn.lo k (.inl e)
    · exact h.rn.lo k (.inr (.inl e))
    · exact h.rn.lo k (.inr (.inr (.inl e)))
    · exact h.rn.lo k (.inr (.inr (.inr (.inl g))))
    · exact (own_lt hro g).2
  have hnF : ∀ k, k < W.heap.size → ¬ FN nb cb rb G v k → ¬ FN nb cb rb G (.slice a' (x.lg.length + 1) c') k := fun k hk hn => by
    rintro (e | e | e | g | g)
    · exact hn (.inl e)
    · exact hn (.inr (.inl e))
    · exact hn (.inr (.inr (.inl e)))
    · exact hn (.inr (.inr (.inr (.inl g))))
    · exact nn k hk (fun e => hn (.inr (.inr (.inr (.inr e))))) g
  have lAv : v.ownBlock ≠ some A := fun e => h.nA (.inr (.inr (.inr (.inr e))))
  have lBv : v.ownBlock ≠ some B := fun e => h.nB (.inr (.inr (.inr (.inr e))))
  refine ⟨a', c', w', hr, ?_, ?_, hF, hnew, ?_⟩
  · exact cellN hblk' 8
  · simp [World.frozen?, hblk']
  refine ⟨⟨h.rn.ww, hbel.trans (hS.below hbel.size (fun k e => by subst e; exact h.rn.lo _ (.inl rfl))), ?_, ?_, ?_, ?_, hlo, h.rn.a1, h.rn.a2, h.rn.a3, h.rn.a4, h.rn.a5, nn nb lnb h.rn.a6, nn cb lcb h.rn.a7, nn rb lrb h.rn.a8, fun k g hg => ?_, h.rn.hf, h.rn.ok, h.rn.s0, h.rn.s1⟩, ?_, ?_, ?_, hnF A lA' h.nA, hnF B lB' h.nB, h.lA, h.lB⟩
  · rw [heap_setCell_same w' nb 8 _ _ _ hblk']
    rfl
  · exact ((h.rn.ck.keep hF.toC h.rn.a7 h.rn.a8)).keep hS.toC (fun e => h.rn.a1 e.symm) (fun e => h.rn.a2 e.symm)
  · exact (h.rn.qu.keep hF.toQ (fun k g e => h.rn.a9 k e g)).keep hS.toQ (fun k g e => by subst e; exact h.rn.a3 g)
  · have e1 : (x.lg ++ [d]).length = x.lg.length + 1 := by simp
    show World.ownsRow _ _ _ _ _ (x.lg ++ [d]).length _
    rw [e1]
    exact own_keep hro hS (fun k g e => by subst e; exact nn k lnb h.rn.a6 g)
  · rcases hnew k g with e | e
    · exact h.rn.a9 k e hg
    · have := h.rn.qu.lt k hg; omega
  · refine ⟨(h.st.1.trans hF (fun k hk g => ?_)).trans hS (fun k hk e => ?_), ?_⟩
    · rcases h.st.2 k (.inr (.inr (.inr (.inr g)))) with e | e
      · exact e
      · omega
    · subst e
      rcases h.st.2 k (.inl rfl) with e | e
      · exact e
      · omega
    · rintro k (e | e | e | g | g)
      · exact h.st.2 k (.inl e)
      · exact h.st.2 k (.inr (.inl e))
      · exact h.st.2 k (.inr (.inr (.inl e)))
      · exact h.st.2 k (.inr (.inr (.inr (.inl g))))
      · rcases hnew k g with e | e
        · exact h.st.2 k (.inr (.inr (.inr (.inr e))))
        · exact .inr (by have := h.st.1.size; omega)
  · exact (hS.block A (Nat.lt_of_lt_of_le lA' hF.size) (fun e => h.nA (.inl e))).trans ((hcl A lA' lAv).trans h.bA)
  · exact (hS.block B (Nat.lt_of_lt_of_le lB' hF.size) (fun e => h.nB (.inl e))).trans ((hcl B lB' lBv).trans h.bB)
end Go.Proofs.YtadmojehemdoaaaGreat
/- Proved: the contract of the document's Step. -/
namespace Go.Proofs.YtadmojehemdoaaaGreat
open Go.RowKit Go.Shelf
set_option linter.unusedVariables false
set_option maxRecDepth 100000

/-- Safe, in the world behind the answer's block. -/
theorem rnsafe0 {w0 : World} {D : Wd} {f : Nat} {x : Nd} {nb cb rb qb : Nat} {G : Nat → Prop} {v : Value} {w : World} (h : RN w0 D f x nb cb rb qb G v w) :
    Calls Tryz.prog 19 #[.pointer (some ⟨nb, 0, none⟩)] (w.alloc (.cells #[.int .i64 0, .int .i64 0, .int .i64 0, .int .i64 0, .int .i64 0, .int .i64 0, .int .i64 0] 46)) fun en w' => en = .returned (.bool (safe D f x)) ∧ w'.heap[w.heap.size]? = some (.cells (dcs zeroD) 46 (0, 0)) ∧ Below w.heap.size w w' ∧ w.heap.size < w'.heap.size := by
  have hb0 := al w (.cells (dcs zeroD) 46)
  have hx : (w.alloc (.cells (dcs zeroD) 46)).heap[w.heap.size]? = some (.cells (dcs zeroD) 46 (0, 0)) := (MapKept.heap_alloc w _).1
  have hsz : (w.alloc (.cells (dcs zeroD) 46)).heap.size = w.heap.size + 1 := by simp
  exact (rnsafe (h.below hb0)).mono fun en w' ⟨he, hb⟩ => ⟨he, (hb.block _ (by omega)).trans hx, hb0.trans (hb.mono hb0.size), by have := hb.size; omega⟩
set_option maxHeartbeats 2000000 in
theorem rnstep_idle {w0 : World} {D : Wd} {f : Nat} {x : Nd} {nb cb rb qb : Nat} {G : Nat → Prop} {v : Value} {w : World} (h : RN w0 D f x nb cb rb qb G v w) (hs : safe D f x = false) :
    Calls Tryz.prog 14 #[.pointer (some ⟨nb, 0, none⟩)] w fun en w' => en = .returned (.tuple #[dv zeroD, .slice none 0 0, .int .i64 150]) ∧ Below w.heap.size w w' := by
  have SF := rnsafe0 h
  rw [hs] at SF
  clear h hs
  go_enter Tryz.func14, Tryz.ntmps14
  go_wp2_with (go_at_call 19; refine SF.mono ?_; rintro en w3 ⟨rfl, bx, hb, hlt⟩; obtain ⟨t0, t1, t2, t3, t4, t5, t6, tf⟩ := dn_cells bx; dsimp only [zeroD] at t0 t1 t2 t3 t4 t5 t6; have HB : Hid _ := hb; have BX : Hid _ := bx; clear bx hb SF)
  generalize hwf : World.setCell _ _ _ = WF
  have hWF : WF = set7 w3 w.heap.size zeroD := hwf.symm
  have hFF := set7_heap (W := w3) (z := zeroD) BX.out zeroD
  have hbl := set7_below HB.out (A := w.heap.size) (Nat.le_refl _) zeroD
  rw [← hWF] at hFF hbl
  obtain ⟨m0, m1, m2, m3, m4, m5, m6, _⟩ := dn_cells hFF
  dsimp only [zeroD] at m0 m1 m2 m3 m4 m5 m6
  exact bodyPost_ret (v := .tuple #[dv zeroD, .slice none 0 0, .int .i64 150]) (by simp [results, Tryz.results14, go_sem, m0, m1, m2, m3, m4, m5, m6, zeroD]) rfl ⟨rfl, hbl⟩
end Go.Proofs.YtadmojehemdoaaaGreat
/- Proved: the contract of the document's Step where it may go on. -/
namespace Go.Proofs.YtadmojehemdoaaaGreat
open Go.RowKit Go.Shelf
set_option linter.unusedVariables false
set_option maxRecDepth 100000

/-- Pop, in the middle of a step. -/
theorem rnpop {w0 : World} {D : Wd} {f : Nat} {x : Nd} {nb cb rb qb : Nat} {G : Nat → Prop} {v : Value} {w : World} (h : RN w0 D f x nb cb rb qb G v w) {T b c d e g : Int} (hh : x.q.headD Q.zeroM = ((T, b, c), d, e, g)) (he : x.q.isEmpty = false) (W : World) (hb : Below w.heap.size w W) (hA : W.heap[w.heap.size]? = some (.cells (dcs zeroD) 46 (0, 0))) (hlt : w.heap.size < W.heap.size) :
    Calls Tryz.prog 46 #[.pointer (some ⟨qb, 0, none⟩)] W fun en w' => en = .returned (.tuple #[.agg (mc6 T b c d e g), .bool true]) ∧ ∃ G2, Md w0 w D f { x with q := x.q.tail } nb cb rb qb G G2 v v w.heap.size w'.heap.size (mc6 T b c d e g) (w'.alloc (.cells (mc6 T b c d e g) 39)) ∧ (∀ k, G2 k → k < w'.heap.size) ∧ w.heap.size < w'.heap.size := by
  have hr := h.below hb
  have C := Q.rpop_any hr.qu
  rw [hh, he] at C
  refine C.mono fun en w' ⟨hen, G2, hq, hs⟩ => ⟨hen, G2, ?_, fun k g => hq.lt k g, Nat.lt_of_lt_of_le hlt hs.1.size⟩
  obtain ⟨r1, r2, r3⟩ := hr.quw hq hs
  have hlt' := h.lt
  have nA0 : ¬ FN nb cb rb G v w.heap.size := fun g => by have := hlt' _ g; omega
  have hbx := al w' (.cells (mc6 T b c d e g) 39)
  have hsz := hs.1.size
  have hszb := hb.size
  refine ⟨r1.below hbx, ⟨((Fr.of_below hb).then r2).then (Fr.of_below hbx), fun k g => ?_⟩, ?_, (MapKept.heap_alloc w' _).1, fun g => ?_, fun g => ?_, Nat.le_refl _, by omega⟩
  · rcases r3 k g with e | e
    · exact .inl e
    · exact .inr (by omega)
  · exact (hbx.block _ (by omega)).trans ((r2.block _ hlt nA0).trans hA)
  · rcases r3 _ g with e | e
    · exact nA0 e
    · omega
  · have := r1.lt _ g; omega
/-- The table's Step, in the middle of a step. -/
theorem md_step {w0 w : World} {D : Wd} {f : Nat} {x : Nd} {nb cb rb qb : Nat} {G0 G : Nat → Prop} {v0 v : Value} {A B : Nat} {z : Array Value} {W : World} (h : Md w0 w D f x nb cb rb qb G0 G v0 v A B z W) (s cl : Int) :
    Calls Tryz.prog 47 #[.slice (nthF D.fs f).ra (nthF D.fs f).rs.length (nthF D.fs f).rc, .int .i64 s, .int .i64 cl] W fun en w' => ∃ a' c', en = .returned (.tuple #[.int .i64 (stp (nthF D.fs f).rs s cl).1, .slice a' (stp (nthF D.fs f).rs s cl).2.length c']) ∧ w'.ownsRow W.heap.size 104 3 (.slice a' (stp (nthF D.fs f).rs s cl).2.length c') (stp (nthF D.fs f).rs s cl).2.length (flatO (stp (nthF D.fs f).rs s cl).2) ∧ Md w0 w D f x nb cb rb qb G0 G v0 v A B z w' ∧ W.heap.size ≤ w'.heap.size := by
  obtain ⟨h1, h2⟩ := stp_three h.rn.wd h.rn.hf
  exact (rstep_any W _ _ _ s cl h1 h2).mono fun en w' ⟨a', c', he, hr⟩ => ⟨a', c', he, hr.1, h.on hr.2, hr.2.size⟩
/-- Spread, in the middle of a step. -/
theorem md_spread {w0 w : World} {D : Wd} {f : Nat} {x : Nd} {nb cb rb qb : Nat} {G0 G : Nat → Prop} {v0 v : Value} {A B : Nat} {z : Array Value} {W : World} (h : Md w0 w D f x nb cb rb qb G0 G v0 v A B z W) (T g : Int) {a : Option Addr} {cp : Nat} {os : List O} (hs : RdO W a os) (hl : os.length ≤ 20) :
    Calls Tryz.prog 48 #[wv D, .int .i64 f, .int .i64 x.sn, .int .i64 T, .int .i64 g, .slice a os.length cp] W fun en w' => ∃ vm, en = .returned vm ∧ w'.ownsRow W.heap.size 39 6 vm (spr D f x.sn T g os).length (flatM (spr D f x.sn T g os)) ∧ Md w0 w D f x nb cb rb qb G0 G v0 v A B z w' ∧ W.heap.size ≤ w'.heap.size :=
  (rspread_any W D f x.sn T g a cp os h.rn.wd hs hl h.rn.s0 (by have := h.rn.s1; omega)).mono fun en w' ⟨vm, he, hr⟩ => ⟨vm, he, hr.1, h.on hr.2, hr.2.size⟩

set_option maxHeartbeats 4000000 in
theorem rnstep_go {w0 : World} {D : Wd} {f : Nat} {x : Nd} {nb cb rb qb : Nat} {G : Nat → Prop} {v : Value} {w : World} (h : RN w0 D f x nb cb rb qb G v w) (hs : safe D f x = true) (hsn : x.sn ≤ 900000) (hl : x.lg.length ≤ 10000) :
    Calls Tryz.prog 14 #[.pointer (some ⟨nb, 0, none⟩)] w fun en w' => ∃ vm G2 v2, en = .returned (.tuple #[dv (spD D f x), vm, .int .i64 0]) ∧ w'.ownsRow w.heap.size 39 6 vm (spM D f x).length (flatM (spM D f x)) ∧ (∀ k, vm.ownBlock = some k → ¬ FN nb cb rb G2 v2 k) ∧ RN w0 D f (spN D f x) nb cb rb qb G2 v2 w' ∧ StN (FN nb cb rb G v) (FN nb cb rb G2 v2) w w' := by
  have SF := rnsafe0 h
  rw [hs] at SF
  have he : x.q.isEmpty = false := by
    unfold safe at hs
    cases g : x.q.isEmpty
    · rfl
    · rw [g] at hs; simp at hs
  obtain ⟨m, hm⟩ : ∃ m, x.q.headD Q.zeroM = m := ⟨_, rfl⟩
  have hhd : hd x = m := hm
  obtain ⟨⟨T, b, c⟩, d, e, g⟩ := m
  have POP := rnpop h hm he
  obtain ⟨fb, off, hfa, hfb, hcs⟩ := h.wd.f.1 (by intro e; have := h.hf; rw [e] at this; simp at this)
  obtain ⟨F, hF⟩ : ∃ F, nthF D.fs f = F := ⟨_, rfl⟩
  obtain ⟨x1, hx1⟩ : ∃ x1 : Nd, { x with q := x.q.tail } = x1 := ⟨_, rfl⟩
  have hst1 : x1.st = x.st := by rw [← hx1]
  have hsn1 : x1.sn = x.sn := by rw [← hx1]
  have hlg1 : x1.lg = x.lg := by rw [← hx1]
  obtain ⟨P, hP⟩ : ∃ P, stp F.rs x.st e = P := ⟨_, rfl⟩
  obtain ⟨s1, os⟩ := P
  have hos : os.length ≤ 20 := by
    have := stp_len (stp_three h.wd h.hf).2 x.st e
    rw [hF, hP] at this
    exact this
  have hspS : spS D f x = (s1, os) := by unfold spS; rw [hhd, hF]; exact hP
  have hspD : spD D f x = ⟨⟨T, b, c, d, e, g⟩, s1⟩ := by unfold spD; rw [hspS, hhd]; rfl
  have hspM : spM D f x = spr D f x.sn T g os := by unfold spM; rw [hspS, hhd]
  have hspN : spN D f x = { x with st := s1, sn := x.sn + os.length, q := x.q.tail, lg := x.lg ++ [⟨⟨T, b, c, d, e, g⟩, s1⟩] } := by unfold spN; rw [hspS, hspD]
  have HPOP : Hid (∀ W, Below w.heap.size w W → W.heap[w.heap.size]? = some (.cells (dcs zeroD) 46 (0, 0)) → w.heap.size < W.heap.size → Calls Tryz.prog 46 #[.pointer (some ⟨qb, 0, none⟩)] W fun en w' => en = .returned (.tuple #[.agg (mc6 T b c d e g), .bool true]) ∧ ∃ G2, Md w0 w D f x1 nb cb rb qb G G2 v v w.heap.size w'.heap.size (mc6 T b c d e g) (w'.alloc (.cells (mc6 T b c d e g) 39)) ∧ (∀ k, G2 k → k < w'.heap.size) ∧ w.heap.size < w'.heap.size) := by rw [← hx1]; exact POP
  have hfI : (f : Int) < (D.fs.length : Int) := by have := h.hf; omega
  have HN7 : Hid (∀ W, Below w.heap.size w W → W.cell? ⟨nb, 7, none⟩ = some (.pointer (some ⟨qb, 0, none⟩)) ∧ nb < W.heap.size) := fun W hb => ⟨(h.below hb).cells.2.2.2.2.2.2.2.1, (h.below hb).lt nb (.inl rfl)⟩
  obtain ⟨L, hL⟩ : ∃ L, spr D f x.sn T g os = L := ⟨_, rfl⟩
  rw [hspD, hspM, hspN, hL]
  have HLL : Hid _ := hL
  clear hL
  have Hx1 : Hid _ := hx1
  have HltF : Hid _ := h.lt
  have HW0 : Hid (w0.heap.size ≤ w.heap.size) := h.bel.size
  simp only [mc6] at HPOP
  clear POP hm hhd hcs hspS hspD hspM hspN hx1 h he hs
  go_enter Tryz.func14, Tryz.ntmps14
  go_wp2_with (first
    | (go_at_call 19; refine SF.mono ?_; rintro en w2 ⟨rfl, bx, hb2, hlt2⟩; obtain ⟨n7, lnb⟩ := Hid.out HN7 _ hb2; have HB2 : Hid _ := And.intro hb2 (And.intro bx hlt2); clear bx hb2 SF)
    | (go_at_call 46; refine (Hid.out HPOP _ (Hid.out HB2).1 (Hid.out HB2).2.1 (Hid.out HB2).2.2).mono ?_; rintro en w3 ⟨rfl, G2, hM3, hG2, hlt3⟩; have HM3 : Hid _ := hM3; have HG2 : Hid _ := hG2; obtain ⟨⟨y0, y1, y2, y3, y4, y5, y7, y8⟩, yr, z0, z1, z2, z3, z4, z5⟩ := hM3.reads hfa hF; clear hM3 hG2 HPOP))
  obtain ⟨W4, hW4⟩ : ∃ W4, W4 = w3.alloc (.cells #[.int .i64 T, .int .i64 b, .int .i64 c, .int .i64 d, .int .i64 e, .int .i64 g] 39) := ⟨_, rfl⟩
  obtain ⟨B, hB⟩ : ∃ B, w3.heap.size = B := ⟨_, rfl⟩
  try simp only [mc6] at HM3
  rw [← hW4, hB] at HM3
  rw [← hW4] at y0 y1 y2 y3 y4 y5 y7 y8 yr z0 z1 z2 z3 z4 z5 ⊢
  rw [hB] at z0 z1 z2 z3 z4 z5 HG2 hlt3
  try simp only [hB]
  have hB4 : B < W4.heap.size := by rw [hW4, ← hB]; simp
  rw [hst1] at y4
  rw [hsn1] at y5
  clear hW4 hB n7 lnb HN7 HB2
  have HST : Hid (Calls Tryz.prog 47 #[.slice F.ra F.rs.length F.rc, .int .i64 x.st, .int .i64 e] W4.drew fun en w' => ∃ a' c', en = .returned (.tuple #[.int .i64 s1, .slice a' os.length c']) ∧ w'.ownsRow W4.heap.size 104 3 (.slice a' os.length c') os.length (flatO os) ∧ Md w0 w D f x1 nb cb rb qb G G2 v v w.heap.size B (mc6 T b c d e g) w' ∧ W4.heap.size ≤ w'.heap.size) := by
    have := md_step (HM3.out.on (below_drew W4)) x.st e
    rw [hF, hP] at this
    exact this
  go_region_held3 (fun w' => w'.cell? ⟨nb, 1, none⟩ = some (.slice (some ⟨fb, off, none⟩) D.fs.length D.fc) ∧ w'.cell? ⟨nb, 3, none⟩ = some (.int .i64 f) ∧ w'.cell? ⟨nb, 4, none⟩ = some (.int .i64 x.st) ∧ w'.cell? ⟨fb, off + f * 7 + 3, none⟩ = some (.slice F.ra F.rs.length F.rc) ∧ w'.cell? ⟨B, 4, none⟩ = some (.int .i64 e)) (first | (go_keep; done) | exact Hid.out KEEP) (first
    | (go_at_call 47; refine (Hid.out HST).mono ?_; rintro en w5 ⟨a1, c1, rfl, hro, hM5, hsz5⟩; have HRO : Hid _ := hro; have HM5 : Hid _ := hM5; obtain ⟨⟨p0, p1, p2, p3, p4, p5, p7, p8⟩, pr, q0, q1, q2, q3, q4, q5⟩ := hM5.reads hfa hF; have KEEP : Hid _ := And.intro p1 (And.intro p3 (And.intro (p4.trans (by rw [hst1])) (And.intro pr q4))); clear hro hM5 HST))
  clear KEEP y0 y1 y2 y3 y4 y5 y7 y8 yr z0 z1 z2 z3 z4 z5
  have lnb5 := HM5.out.rn.lt nb (.inl rfl)
  have f4 := HM5.out.rn.froz 4
  have lnbW : nb < w.heap.size := HltF.out nb (.inl rfl)
  obtain ⟨W6, hW6⟩ : ∃ W6, W6 = w5.setCell ⟨nb, 4, none⟩ (.int .i64 s1) := ⟨_, rfl⟩
  have HM6 : Hid (Md w0 w D f { x1 with st := s1, sn := x1.sn } nb cb rb qb G G2 v v w.heap.size B (mc6 T b c d e g) W6) := by
    rw [hW6]
    exact HM5.out.own rfl HM5.out.rn.s0 HM5.out.rn.s1
  have HRO6 : Hid (W6.ownsRow W4.heap.size 104 3 (.slice a1 os.length c1) os.length (flatO os)) := by
    rw [hW6]
    exact own_keep HRO.out (frN w5 nb 4 _) (fun k g e => by have := (own_lt HRO.out g).2; omega)
  have hsz6 : w5.heap.size = W6.heap.size := by rw [hW6]; simp
  obtain ⟨x2, hx2⟩ : ∃ x2 : Nd, { x1 with st := s1, sn := x1.sn } = x2 := ⟨_, rfl⟩
  rw [hx2] at HM6
  have hsn2 : x2.sn = x.sn := by rw [← hx2]; exact hsn1
  have hst2 : x2.st = s1 := by rw [← hx2]
  have hlg2 : x2.lg = x.lg := by rw [← hx2]; exact hlg1
  have Hx2 : Hid _ := hx2
  obtain ⟨⟨y0, y1, y2, y3, y4, y5, y7, y8⟩, yr, z0, z1, z2, z3, z4, z5⟩ := HM6.out.reads hfa hF
  rw [hsn2] at y5
  rw [hst2] at y4
  have HSP : Hid (Calls Tryz.prog 48 #[.agg #[.slice D.pa D.ps.length D.pc, .slice (some ⟨fb, off, none⟩) D.fs.length D.fc, .int .i64 D.en], .int .i64 f, .int .i64 x.sn, .int .i64 T, .int .i64 g, .slice a1 os.length c1] W6.drew fun en w' => ∃ vm, en = .returned vm ∧ w'.ownsRow W6.heap.size 39 6 vm (spr D f x.sn T g os).length (flatM (spr D f x.sn T g os)) ∧ Md w0 w D f x2 nb cb rb qb G G2 v v w.heap.size B (mc6 T b c d e g) w' ∧ W6.heap.size ≤ w'.heap.size) := by
    have := md_spread (HM6.out.on (below_drew W6)) T g (own_rdO (own_below HRO6.out (below_drew W6))) hos (cp := c1)
    rw [hsn2] at this
    dsimp only [wv] at this
    rw [hfa] at this
    exact this
  rw [HLL.out] at HSP
  clear hx2 HM3
  rw [hW6] at y0 y1 y2 y3 y4 y5 y7 y8 yr z0 z1 z2 z3 z4 z5
  clear p0 p1 p2 p5 p7 p8 pr q0 q1 q2 q3 q4 q5
  go_wp2
  rw [← hW6] at y0 y1 y2 y3 y4 y5 y7 y8 yr z0 z1 z2 z3 z4 z5 ⊢
  clear hW6
  go_region_held3 (fun w' => w'.cell? ⟨nb, 0, none⟩ = some (.slice D.pa D.ps.length D.pc) ∧ w'.cell? ⟨nb, 1, none⟩ = some (.slice (some ⟨fb, off, none⟩) D.fs.length D.fc) ∧ w'.cell? ⟨nb, 2, none⟩ = some (.int .i64 D.en) ∧ w'.cell? ⟨nb, 3, none⟩ = some (.int .i64 f) ∧ w'.cell? ⟨nb, 5, none⟩ = some (.int .i64 x.sn) ∧ w'.cell? ⟨B, 0, none⟩ = some (.int .i64 T) ∧ w'.cell? ⟨B, 5, none⟩ = some (.int .i64 g)) (first | (go_keep; done) | exact Hid.out KEEP) (first
    | (go_at_call 48; refine (Hid.out HSP).mono ?_; rintro en w7 ⟨vm, rfl, hrm, hM7, hsz7⟩; have HRM : Hid _ := hrm; have HM7 : Hid _ := hM7; obtain ⟨⟨p0, p1, p2, p3, p4, p5, p7, p8⟩, pr, q0, q1, q2, q3, q4, q5⟩ := hM7.reads hfa hF; have KEEP : Hid _ := And.intro p0 (And.intro p1 (And.intro p2 (And.intro p3 (And.intro (p5.trans (by rw [hsn2])) (And.intro q0 q5))))); clear hrm hM7 HSP))
  clear KEEP y0 y1 y2 y3 y4 y5 y7 y8 yr z0 z1 z2 z3 z4 z5
  have lnb7 := HM7.out.rn.lt nb (.inl rfl)
  have f5 := HM7.out.rn.froz 5
  rw [hsn2] at p5
  have hs0 : 0 ≤ x.sn := by have := HM7.out.rn.s0; rw [hsn2] at this; exact this
  have hos' : (os.length : Int) ≤ 20 := by omega
  obtain ⟨n2, hn2⟩ : ∃ n2, x.sn + (os.length : Int) = n2 := ⟨_, rfl⟩
  obtain ⟨W8, hW8⟩ : ∃ W8, w7.setCell ⟨nb, 5, none⟩ (.int .i64 n2) = W8 := ⟨_, rfl⟩
  have HM8 : Hid (Md w0 w D f { x2 with st := x2.st, sn := n2 } nb cb rb qb G G2 v v w.heap.size B (mc6 T b c d e g) W8) := by
    rw [← hW8]
    exact HM7.out.own rfl (by omega) (by omega)
  have HRM8 : Hid (W8.ownsRow W6.heap.size 39 6 vm L.length (flatM L)) := by
    rw [← hW8]
    exact own_keep HRM.out (frN w7 nb 5 _) (fun k g e => by have := (own_lt HRM.out g).2; omega)
  have hsz8 : Hid (w7.heap.size = W8.heap.size) := by show _ = _; rw [← hW8]; simp
  obtain ⟨x3, hx3⟩ : ∃ x3 : Nd, { x2 with st := x2.st, sn := n2 } = x3 := ⟨_, rfl⟩
  rw [hx3] at HM8
  have hlg3 : x3.lg = x.lg := by rw [← hx3]; exact hlg2
  have Hx3 : Hid _ := hx3
  obtain ⟨⟨y0, y1, y2, y3, y4, y5, y7, y8⟩, yr, z0, z1, z2, z3, z4, z5⟩ := HM8.out.reads hfa hF
  have hB8 : B < W8.heap.size := by have := hsz8.out; omega
  have lnb8 : nb < W8.heap.size := by have := hsz8.out; omega
  clear hx3 p0 p1 p2 p7 p8 pr q0 q1 q2 q3 q4 q5 y0 y1 y2 y3 y4 y5 y7 yr
  go_wp2
  obtain ⟨dd, hdd⟩ : ∃ dd : Dn, dd = ⟨⟨T, b, c, d, e, g⟩, s1⟩ := ⟨_, rfl⟩
  have hdc : (#[.int .i64 T, .int .i64 b, .int .i64 c, .int .i64 d, .int .i64 e, .int .i64 g, .int .i64 s1] : Array Value) = dcs dd := by rw [hdd]
  obtain ⟨W9, hW9⟩ : ∃ W9, W9 = W8.alloc (.cells #[.int .i64 T, .int .i64 b, .int .i64 c, .int .i64 d, .int .i64 e, .int .i64 g, .int .i64 s1] 46) := ⟨_, rfl⟩
  have hsz9 : W9.heap.size = W8.heap.size + 1 := by rw [hW9]; simp
  have hb89 : Below W8.heap.size W8 W9 := by rw [hW9]; exact al W8 _
  have hbx9 : W9.heap[W8.heap.size]? = some (.cells (dcs dd) 46 (0, 0)) := by rw [hW9, hdc]; exact (MapKept.heap_alloc W8 _).1
  have hM9 : Md w0 w D f x3 nb cb rb qb G G2 v v w.heap.size B (mc6 T b c d e g) W9.drew := HM8.out.on (hb89.trans ((below_drew W9).mono hb89.size))
  obtain ⟨a', c', w10, hrun, hc8, hf8, hF10, hnw, hM11⟩ := hM9.log dd (by rw [hlg3]; omega) 56
  obtain ⟨n1, hvn⟩ : ∃ n1, x3.lg.length + 1 = n1 := ⟨_, rfl⟩
  rw [hvn] at hrun hM11 hnw
  have HNW : Hid (∀ k, (Value.slice a' n1 c').ownBlock = some k → v.ownBlock = some k ∨ W9.heap.size < k) := hnw
  clear hnw
  obtain ⟨W11, hW11⟩ : ∃ W11, w10.setCell ⟨nb, 8, none⟩ (.slice a' n1 c') = W11 := ⟨_, rfl⟩
  rw [hW11] at hM11
  have hrun' : (Builtin.append_ #[56, 56] 56 #[v, .slice (some ⟨W9.heap.size, 0, none⟩) 1 1]).run Tryz.prog (W9.alloc (.cells #[.int .i64 T, .int .i64 b, .int .i64 c, .int .i64 d, .int .i64 e, .int .i64 g, .int .i64 s1] 46)).drew = .ok (.slice a' n1 c') w10 := by rw [hdc]; exact hrun
  have HRUN : Hid _ := hrun'
  have hsz10 : W9.heap.size ≤ w10.heap.size := hF10.size
  have hsz11 : w10.heap.size = W11.heap.size := by rw [← hW11]; simp
  have lv : ∀ k, v.ownBlock = some k → k < w.heap.size := fun k g => HltF.out k (.inr (.inr (.inr (.inr g))))
  have hszw : w.heap.size ≤ W8.heap.size := by have := HM8.out.st.1.size; exact this
  have hbx11 : W11.heap[W8.heap.size]? = some (.cells (dcs dd) 46 (0, 0)) := by
    rw [← hW11]
    refine ((frN w10 nb 8 (.slice a' n1 c')).block _ (by omega) (by omega)).trans ((hF10.block _ (by show _ < W9.heap.size; omega) (fun g => by have := lv _ g; omega)).trans hbx9)
  obtain ⟨t0, t1, t2, t3, t4, t5, t6, tf⟩ := dn_cells hbx11
  obtain ⟨u0, u1, u2, u3, u4, u5, u6, uf⟩ := dn_cells hM11.bA
  rw [hdd] at t0 t1 t2 t3 t4 t5 t6
  dsimp only [zeroD] at t0 t1 t2 t3 t4 t5 t6 u0 u1 u2 u3 u4 u5 u6
  have k9 : W9.cell? ⟨nb, 8, none⟩ = some v := hM9.rn.cells.2.2.2.2.2.2.2.2
  obtain ⟨j0, j1, j2, j3, j4, j5, j6, jf⟩ := dn_cells hbx9
  rw [hdd] at j0 j1 j2 j3 j4 j5 j6
  dsimp only at j0 j1 j2 j3 j4 j5 j6
  have hA11 : w.heap.size < W11.heap.size := by omega
  have hC11 : W8.heap.size < W11.heap.size := by omega
  have hC9 : W8.heap.size < W9.heap.size := by omega
  have lnb9 : nb < W9.heap.size := by omega
  have nA1 : ¬ w.heap.size = W8.heap.size := by omega
  have nA2 : ¬ W8.heap.size = w.heap.size := by omega
  have HM11 : Hid _ := hM11
  have HRM11 : Hid (W11.ownsRow w.heap.size 39 6 vm L.length (flatM L) ∧ ∀ k, vm.ownBlock = some k → B < k ∧ k < W8.heap.size) := by
    have hk : ∀ k, vm.ownBlock = some k → B < k ∧ k < W8.heap.size := fun k g => by
      have h1 := own_lt HRM8.out g
      omega
    refine ⟨?_, hk⟩
    have h9 := own_below (own_below HRM8.out hb89) (below_drew W9)
    have h10 := own_keep h9 hF10 (fun k g g2 => by have := hk k g; have := lv k g2; omega)
    have h11 := own_keep h10 (frN w10 nb 8 (.slice a' n1 c')) (fun k g e => by have := hk k g; omega)
    rw [hW11] at h11
    refine ⟨h11.1, ?_⟩
    rcases h11.2 with g | ⟨g, cap, cur, e1, e2, e3, e4⟩
    · exact .inl g
    · exact .inr ⟨g, cap, cur, e1, by omega, e3, e4⟩
  have HDD : Hid _ := hdd
  clear hM9 hM11 hrun hrun' hbx9 hbx11 hvn hF10 hdc hdd
  rw [← hW9]
  have HSZ : Hid _ := And.intro hsz9 hsz11
  clear hsz9 hsz11
  clear hW9 y8 z0 z1 z2 z3 z4 z5 HRM HRM8 HM7
  go_region_law (refine step_append_run rfl (.tmp 85) (.tmp 87) 56 rfl (by simp [Act.eval]) (by simp [Act.eval]) HRUN.out ?_)
  all_goals
    go_wp2_with fail
    generalize hwf : World.setCell _ _ _ = WF
    have hWF : WF = set7 W11 w.heap.size ⟨⟨T, b, c, d, e, g⟩, s1⟩ := hwf.symm
    have hFF := set7_heap (W := W11) (z := zeroD) HM11.out.bA ⟨⟨T, b, c, d, e, g⟩, s1⟩
    have hF7 := set7_fr (Fr.refl (fun k => k = w.heap.size) W11) (.inl rfl) (A := w.heap.size) ⟨⟨T, b, c, d, e, g⟩, s1⟩
    rw [← hWF] at hFF hF7
    obtain ⟨m0, m1, m2, m3, m4, m5, m6, _⟩ := dn_cells hFF
    dsimp only at m0 m1 m2 m3 m4 m5 m6
    refine bodyPost_ret (v := .tuple #[dv ⟨⟨T, b, c, d, e, g⟩, s1⟩, vm, .int .i64 0]) (by simp [results, Tryz.results14, go_sem, m0, m1, m2, m3, m4, m5, m6]) rfl ⟨vm, G2, .slice a' n1 c', rfl, ?_, ?_, ?_, ?_⟩
    · exact own_keep HRM11.out.1 hF7 (fun k q e => by have := HRM11.out.2 k q; omega)
    · intro k q
      have hk := HRM11.out.2 k q
      rintro (e | e | e | g2 | g2)
      · omega
      · have := HltF.out k (.inr (.inl e)); omega
      · have := HltF.out k (.inr (.inr (.inl e))); omega
      · have := HG2.out k g2; omega
      · rcases HNW.out k g2 with q2 | q2
        · have := lv k q2; omega
        · omega
    · have e4 : ({ x3 with lg := x3.lg ++ [dd] } : Nd) = { x with st := s1, sn := x.sn + os.length, q := x.q.tail, lg := x.lg ++ [⟨⟨T, b, c, d, e, g⟩, s1⟩] } := by
        have q1 := Hx1.out
        have q2 := Hx2.out
        have q3 := Hx3.out
        rw [HDD.out, ← q3, ← q2, ← q1]
        simp [← hn2]
      have := HM11.out.rn.keep hF7 (fun k g2 e => by subst e; exact HM11.out.nA g2) (fun k e => by have := HW0.out; omega)
      rw [e4] at this
      exact this
    · refine ⟨HM11.out.st.1.trans hF7 (fun k hk e => by omega), HM11.out.st.2⟩
end Go.Proofs.YtadmojehemdoaaaGreat
/- Proved: contracts of the document's node: Log, New. -/
namespace Go.Proofs.YtadmojehemdoaaaGreat
open Go.RowKit Go.Shelf
set_option linter.unusedVariables false
set_option maxRecDepth 100000

set_option maxHeartbeats 1000000 in
theorem rnlog {w0 : World} {D : Wd} {f : Nat} {x : Nd} {nb cb rb qb : Nat} {G : Nat → Prop} {v : Value} {w : World} (h : RN w0 D f x nb cb rb qb G v w) (hl : x.lg.length ≤ 10000) :
    Calls Tryz.prog 28 #[.pointer (some ⟨nb, 0, none⟩)] w fun en w' => ∃ a c, en = .returned (.slice a x.lg.length c) ∧ w'.ownsRow w.heap.size 46 7 (.slice a x.lg.length c) x.lg.length (flatD x.lg) ∧ Below w.heap.size w w' := by
  obtain ⟨va, vc, rfl⟩ := shape_of h.lg
  have n8 := (h.below (al w (.cells #[] 46))).cells.2.2.2.2.2.2.2.2
  have lnb := h.lt nb (.inl rfl)
  obtain ⟨a', c', w', hrun, hro, hb⟩ := appD w va x.lg.length vc (flatD x.lg) (flatD_len _) hl (flatD_one _) (fun g => RdD.flat (rdD_row h.lg) g) 56
  have HR : Hid _ := hrun
  have HO : Hid _ := And.intro hro hb
  obtain ⟨n, hn⟩ : ∃ n, x.lg.length = n := ⟨_, rfl⟩
  rw [hn] at n8 HR
  clear h hrun hro hb
  go_enter Tryz.func28, Tryz.ntmps28
  go_wp2_with (at_builtin; refine wpList_append_run _ rfl _ _ 56 rfl rfl rfl HR.out ?_)
  go_ret
  exact ⟨a', c', by rw [hn]; rfl, HO.out⟩

set_option maxHeartbeats 1000000 in
theorem rnnew_err (w : World) (D : Wd) (f : Int) (h : Ww w D) {N E : Int} (hw : wldE D = (N, E)) (hE : E ≠ 0) :
    Calls Tryz.prog 10 #[wv D, .int .i64 f] w fun en w' => en = .returned (.tuple #[.pointer none, .int .i64 E]) ∧ Below w.heap.size w w' := by
  have BX := BoxW.new h
  have CK := rwcheck_any _ D BX.ok
  rw [hw] at CK
  have c0 := BX.c0
  have c1 := BX.c1
  have c2 := BX.c2
  have hb0 : Hid _ := al w (.cells (wcs D) 25)
  have d0 : (E != 0) = true := by simpa using hE
  dsimp only [wv, wcs] at CK c0 c1 c2 hb0 ⊢
  clear BX hw hE
  go_enter Tryz.func10, Tryz.ntmps10
  go_wp2_with (go_at_call 34; refine CK.mono ?_; rintro en w2 ⟨rfl, b2⟩; have HB : Hid (Below w.heap.size w w2) := hb0.out.trans (b2.mono hb0.out.size); clear b2 CK)
  go_ret2
  exact ⟨rfl, HB.out⟩
set_option maxHeartbeats 1000000 in
theorem rnnew_no (w : World) (D : Wd) (f : Int) (h : Ww w D) (hw : wldE D = (-1, 0)) (hf : ¬ (0 ≤ f ∧ f < D.fs.length ∧ (nthF D.fs f.toNat).kd = 0)) :
    Calls Tryz.prog 10 #[wv D, .int .i64 f] w fun en w' => en = .returned (.tuple #[.pointer none, .int .i64 1]) ∧ Below w.heap.size w w' := by
  have BX := BoxW.new h
  have CK := rwcheck_any _ D BX.ok
  rw [hw] at CK
  have HBX : Hid _ := BX
  have hb0 : Hid _ := al w (.cells (wcs D) 25)
  dsimp only [wcs] at HBX
  dsimp only [wv, wcs] at CK hb0 ⊢
  have c0 := HBX.out.c0
  have c1 := HBX.out.c1
  have c2 := HBX.out.c2
  by_cases h1 : f < 0
  · clear BX hw hf
    go_enter Tryz.func10, Tryz.ntmps10
    go_wp2_with (go_at_call 34; refine CK.mono ?_; rintro en w2 ⟨rfl, b2⟩; have HB : Hid (Below w.heap.size w w2) := hb0.out.trans (b2.mono hb0.out.size); clear b2 CK)
    go_ret2
    exact ⟨rfl, HB.out⟩
  by_cases h2 : (D.fs.length : Int) ≤ f
  · clear BX hw hf
    go_enter Tryz.func10, Tryz.ntmps10
    go_wp2_with (go_at_call 34; refine CK.mono ?_; rintro en w2 ⟨rfl, b2⟩; have HB : Hid (Below w.heap.size w w2) := hb0.out.trans (b2.mono hb0.out.size); have k1 := (HBX.out.below b2).c1; clear b2 CK)
    go_ret2
    exact ⟨rfl, HB.out⟩
  obtain ⟨k, rfl⟩ := Int.eq_ofNat_of_zero_le (show 0 ≤ f by omega)
  have hk : k < D.fs.length := by omega
  obtain ⟨F, hF⟩ : ∃ F, nthF D.fs k = F := ⟨_, rfl⟩
  obtain ⟨fb, off, hfa, hcs⟩ := boxf h hk hF
  have d1 : (F.kd != 0) = true := by
    have : ¬ F.kd = 0 := fun e => hf ⟨by omega, by omega, by rw [show ((k : Int)).toNat = k from rfl, hF]; exact e⟩
    simpa using this
  have hkI : (k : Int) < (D.fs.length : Int) := by omega
  have HCS : Hid _ := hcs
  rw [hfa] at CK c1
  have hb0' := hb0.out
  rw [hfa] at hb0' ⊢
  have HB0 : Hid _ := hb0'
  have HK1 : Hid (∀ w2, Below (w.alloc (.cells #[.slice D.pa D.ps.length D.pc, .slice D.fa D.fs.length D.fc, .int .i64 D.en] 25)).heap.size (w.alloc (.cells #[.slice D.pa D.ps.length D.pc, .slice D.fa D.fs.length D.fc, .int .i64 D.en] 25)) w2 → w2.cell? ⟨w.heap.size, 1, none⟩ = some (.slice D.fa D.fs.length D.fc)) := fun w2 b2 => (HBX.out.below b2).c1
  rw [hfa] at HK1
  clear BX hw hf hcs hF hb0 hb0' HBX
  go_enter Tryz.func10, Tryz.ntmps10
  go_wp2_with (go_at_call 34; refine CK.mono ?_; rintro en w2 ⟨rfl, b2⟩; have hbb : Below w.heap.size w w2 := HB0.out.trans (b2.mono HB0.out.size); have HB : Hid _ := hbb; have k1 := Hid.out HK1 _ b2; obtain ⟨y0, y2, y6⟩ := Hid.out HCS _ hbb; clear b2 hbb CK)
  go_ret2
  exact ⟨rfl, HB.out⟩
end Go.Proofs.YtadmojehemdoaaaGreat
/- Proved: the contract of New of the document's node, where there is one. -/
namespace Go.Proofs.YtadmojehemdoaaaGreat
open Go.RowKit Go.Shelf
set_option linter.unusedVariables false
set_option maxRecDepth 100000

set_option maxHeartbeats 2000000 in
theorem rnnew_ok (w : World) (D : Wd) (f : Nat) (h : Ww w D) (hw : wldE D = (-1, 0)) (hf : f < D.fs.length) (hkd : (nthF D.fs f).kd = 0) :
    Calls Tryz.prog 10 #[wv D, .int .i64 (f : Int)] w fun en w' => ∃ nb cb rb qb G, en = .returned (.tuple #[.pointer (some ⟨nb, 0, none⟩), .int .i64 0]) ∧ RN w D f (nd0 D f) nb cb rb qb G (.slice none 0 0) w' := by
  have BX := BoxW.new h
  have CK := rwcheck_any _ D BX.ok
  rw [hw] at CK
  obtain ⟨hn1, hn8⟩ := wld_n hw
  have HBX : Hid _ := BX
  have hb0 := al w (.cells (wcs D) 25)
  obtain ⟨F, hF⟩ : ∃ F, nthF D.fs f = F := ⟨_, rfl⟩
  obtain ⟨fb, off, hfa, hcs⟩ := boxf h hf hF
  rw [hF] at hkd
  have d1 : (F.kd != 0) = false := by simpa using hkd
  have hfI : (f : Int) < (D.fs.length : Int) := by omega
  have hn8I : (D.fs.length : Int) ≤ 8 := by omega
  -- in whatever world behind the check
  have HK : Hid (∀ w2, Below (w.alloc (.cells (wcs D) 25)).heap.size (w.alloc (.cells (wcs D) 25)) w2 → Below w.heap.size w w2 ∧ w.heap.size < w2.heap.size ∧ w2.cell? ⟨w.heap.size, 0, none⟩ = some (.slice D.pa D.ps.length D.pc) ∧ w2.cell? ⟨w.heap.size, 1, none⟩ = some (.slice (some ⟨fb, off, none⟩) D.fs.length D.fc) ∧ w2.cell? ⟨w.heap.size, 2, none⟩ = some (.int .i64 D.en)) := fun w2 b2 => by
    have hb := HBX.out.below b2
    have hs : (w.alloc (.cells (wcs D) 25)).heap.size = w.heap.size + 1 := by simp
    refine ⟨hb0.trans (b2.mono hb0.size), by have := b2.size; omega, hb.c0, by rw [← hfa]; exact hb.c1, hb.c2⟩
  have HCS : Hid _ := hcs
  have HNC : Hid (∀ w2, Below (w.alloc (.cells (wcs D) 25)).heap.size (w.alloc (.cells (wcs D) 25)) w2 → Calls Tryz.prog 35 #[.int .i64 (D.fs.length : Int), .int .i64 (f : Int)] w2 fun en w' => en = .returned (.tuple #[.pointer (some ⟨w2.heap.size + 1, 0, none⟩), .int .i64 0]) ∧ C.DC D.fs.length f C.noC 0 (w2.heap.size + 1) w2.heap.size w' ∧ Below w2.heap.size w2 w') := fun w2 b2 => C.dnew_ok w2 D.fs.length f hn1 hn8 hf
  have HBEL : Hid (∀ w2 w3, Below (w.alloc (.cells (wcs D) 25)).heap.size (w.alloc (.cells (wcs D) 25)) w2 → Below w2.heap.size w2 w3 → Below (w.alloc (.cells (wcs D) 25)).heap.size (w.alloc (.cells (wcs D) 25)) w3) := fun w2 w3 b2 b3 => b2.trans (b3.mono b2.size)
  have c1 := BX.c1
  have c0 := BX.c0
  have c2 := BX.c2
  have HW : Hid _ := h
  have HOK : Hid _ := hw
  dsimp only [wcs] at HK HNC HBEL c0 c1 c2
  dsimp only [wv, wcs] at CK ⊢
  rw [hfa] at CK c1 HK HNC HBEL c0 c2 ⊢
  clear BX HBX hcs hb0 hkd h hw
  go_enter Tryz.func10, Tryz.ntmps10
  go_wp2_with (first
    | (go_at_call 34; refine CK.mono ?_; rintro en w2 ⟨rfl, b2⟩; obtain ⟨hbb, hlt2, k0, k1, k2⟩ := Hid.out HK _ b2; obtain ⟨y0, y2, y6⟩ := Hid.out HCS _ hbb; have HB2 : Hid _ := b2; clear b2 hbb CK)
    | (go_at_call 35; refine (Hid.out HNC _ (Hid.out HB2)).mono ?_; rintro en w3 ⟨rfl, hck, b3⟩; have HCK : Hid _ := hck; have hb3 := Hid.out HBEL _ _ (Hid.out HB2) b3; have HB3 : Hid _ := hb3; obtain ⟨hbb, hlt3, k0, k1, k2⟩ := Hid.out HK _ hb3; obtain ⟨y0, y2, y6⟩ := Hid.out HCS _ hbb; have HBW : Hid _ := And.intro hbb (And.intro b3 hlt2); clear hck b3 hb3 hbb HNC))
  obtain ⟨rb, hrb⟩ : ∃ rb, w2.heap.size = rb := ⟨_, rfl⟩
  obtain ⟨cb, hcb⟩ : ∃ cb, rb + 1 = cb := ⟨_, rfl⟩
  rw [hrb, hcb] at HCK
  simp only [hrb, hcb]
  have hrb2 : rb < cb := by omega
  have hlw : w.heap.size < rb := by rw [← hrb]; exact HBW.out.2.2
  have HQN : Hid (Calls Tryz.prog 36 #[.int .i64 64] w3.drew fun en w' => ∃ qb G, en = .returned (.pointer (some ⟨qb, 0, none⟩)) ∧ Q.IsR w' G qb 64 [] ∧ (∀ k, G k → w3.heap.size ≤ k) ∧ Below w3.heap.size w3 w') := by
    refine (Q.rnew_any 64 w3.drew (by unfold Q.i64; omega)).mono fun en w' ⟨qb, G, he, hq, hg, hb⟩ => ⟨qb, G, he, hq, hg, ⟨hb.os, hb.tape, hb.output, hb.size, hb.block⟩⟩
  clear hrb hcb y0
  go_region_held3 (fun w' => w'.cell? ⟨w.heap.size, 0, none⟩ = some (.slice D.pa D.ps.length D.pc) ∧ w'.cell? ⟨w.heap.size, 1, none⟩ = some (.slice (some ⟨fb, off, none⟩) D.fs.length D.fc) ∧ w'.cell? ⟨w.heap.size, 2, none⟩ = some (.int .i64 D.en) ∧ w'.cell? ⟨fb, off + f * 7 + 2, none⟩ = some (.int .i64 F.st) ∧ w'.cell? ⟨fb, off + f * 7 + 6, none⟩ = some (.slice F.ia F.is.length F.ic)) (first | (go_keep; done) | exact Hid.out KEEP) (first
    | (go_at_call 36; refine (Hid.out HQN).mono ?_; rintro en w4 ⟨qb, G, rfl, hq, hg, b4⟩; have HQ4 : Hid _ := And.intro hq (And.intro hg b4); have hb4 := Hid.out HBEL _ _ (Hid.out HB3) b4; obtain ⟨hbb, hlt4, x0, x1, x2⟩ := Hid.out HK _ hb4; obtain ⟨_, z2, z6⟩ := Hid.out HCS _ hbb; have KEEP : Hid _ := And.intro x0 (And.intro x1 (And.intro x2 (And.intro z2 z6))); have HBB : Hid _ := hbb; clear hq hg b4 hb4 hbb HQN))
  go_wp2
  go_ret2
  obtain ⟨hq, hg, b4⟩ := HQ4.out
  have hck := HCK.out
  have hbx := al w4 (.cells (ncs D f F.st F.is.length cb qb (.slice none 0 0)) 86)
  have hB : Below w.heap.size w (w4.alloc (.cells (ncs D f F.st F.is.length cb qb (.slice none 0 0)) 86)) := HBB.out.trans (hbx.mono HBB.out.size)
  have hq4 := hq.lt
  have l1 := hck.lt
  have l2 := hck.rlt
  have hs34 := b4.size
  have hmem : nthF D.fs f ∈ D.fs := by unfold nthF; simp [hf]
  have hil : (nthF D.fs f).is.length ≤ 20 := (HW.out.lt _ hmem).i
  rw [hF] at hil
  have hs4 : (w4.alloc (.cells (ncs D f F.st F.is.length cb qb (.slice none 0 0)) 86)).heap[w4.heap.size]? = some (.cells (ncs D f F.st F.is.length cb qb (.slice none 0 0)) 86 (0, 0)) := (MapKept.heap_alloc w4 _).1
  have e0 : nd0 D f = ⟨F.st, F.is.length, C.noC, 0, [], []⟩ := by unfold nd0; rw [hF]
  have hRN : RN w D f (nd0 D f) w4.heap.size cb rb qb G (.slice none 0 0) (w4.alloc (.cells (ncs D f F.st F.is.length cb qb (.slice none 0 0)) 86)) := by
    rw [e0]
    refine ⟨HW.out, hB, hs4, (hck.below b4).below hbx, hq.below hbx, World.ownsRow_nil _ _ _ _, ?_, by omega, by omega, fun g => ?_, fun g => ?_, fun g => ?_, by simp [Value.ownBlock], by simp [Value.ownBlock], by simp [Value.ownBlock], fun k g => by simp [Value.ownBlock] at g, hf, HOK.out, by show (0 : Int) ≤ (F.is.length : Int); omega, by show (F.is.length : Int) ≤ 1000000; omega⟩
    · rintro k (e | e | e | g | g)
      · subst e; exact HBB.out.size
      · omega
      · omega
      · have := hg k g; omega
      · simp [Value.ownBlock] at g
    · have := hq4 _ g; omega
    · have := hg _ g; omega
    · have := hg _ g; omega
  have e1 : ncs D f F.st F.is.length cb qb (.slice none 0 0) = #[.slice D.pa D.ps.length D.pc, .slice (some ⟨fb, off, none⟩) D.fs.length D.fc, .int .i64 D.en, .int .i64 f, .int .i64 F.st, .int .i64 F.is.length, .pointer (some ⟨cb, 0, none⟩), .pointer (some ⟨qb, 0, none⟩), .slice none 0 0] := by unfold ncs; rw [hfa]
  rw [e1] at hRN
  exact ⟨_, cb, rb, qb, G, rfl, hRN⟩
end Go.Proofs.YtadmojehemdoaaaGreat
