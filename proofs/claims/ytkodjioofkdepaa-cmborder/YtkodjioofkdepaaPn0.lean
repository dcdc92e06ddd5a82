/- Proved: how the program's node lies in memory, and what becomes of it. -/
import Derived.Test.YtkodjioofkdepaaNod
import Derived.Test.YtkodjioofkdepaaMsk
namespace Go.Proofs.Ytkodjioofkdepaa
open Go.RowKit Go.Shelf
set_option linter.unusedVariables false
set_option maxRecDepth 100000

/-- What a node of f keeps of a federation. -/
structure LikP (f : Nat) (D' D : Wd) : Prop where
  ps : D'.ps = D.ps
  en : D'.en = D.en
  fl : D'.fs.length = D.fs.length
  ss : ∀ i, i < D.fs.length → (nthF D'.fs i).ss = (nthF D.fs i).ss
  lk : (nthF D'.fs f).lk = (nthF D.fs f).lk
  rl : (nthF D'.fs f).rs.length = (nthF D.fs f).rs.length
  rs : ∀ i, i < (nthF D.fs f).rs.length → LikR (nthR (nthF D'.fs f).rs i) (nthR (nthF D.fs f).rs i)
theorem LikP.spr {f : Nat} {D' D : Wd} (h : LikP f D' D) (p q n b : Int) (os : List O) : spr D' p q n b os = spr D p q n b os := by
  have hr : ∀ f c, rts D' f c = rts D f c := fun f c => by
    unfold rts
    rw [h.fl]
    exact rtsF_congr h.ps h.ss f c _ (Nat.le_refl _)
  unfold Go.Proofs.Ytkodjioofkdepaa.spr sprF oneM
  simp only [hr]
theorem LikP.safe {f : Nat} {D' D : Wd} (h : LikP f D' D) (x : Nd) : safe D' f x = safe D f x := by
  unfold Go.Proofs.Ytkodjioofkdepaa.safe
  rw [h.en, h.fl]
theorem LikP.spS {f : Nat} {D' D : Wd} (h : LikP f D' D) (x : Nd) : spS D' f x = spS D f x := stp_lik h.rl h.rs _ _
theorem LikP.spD {f : Nat} {D' D : Wd} (h : LikP f D' D) (x : Nd) : spD D' f x = spD D f x := by
  unfold Go.Proofs.Ytkodjioofkdepaa.spD
  rw [h.spS]
theorem LikP.spM {f : Nat} {D' D : Wd} (h : LikP f D' D) (x : Nd) : spM D' f x = spM D f x := by
  unfold Go.Proofs.Ytkodjioofkdepaa.spM
  rw [h.spS, h.spr]
theorem LikP.spN {f : Nat} {D' D : Wd} (h : LikP f D' D) (x : Nd) : spN D' f x = spN D f x := by
  unfold Go.Proofs.Ytkodjioofkdepaa.spN
  rw [h.spS, h.spD]
theorem LikP.teT {f : Nat} {D' D : Wd} (h : LikP f D' D) (x : Nd) : teT D' f x = teT D f x := by
  unfold Go.Proofs.Ytkodjioofkdepaa.teT
  rw [h.lk, h.fl]
theorem LikP.teB {f : Nat} {D' D : Wd} (h : LikP f D' D) (x : Nd) : teB D' f x = teB D f x := by
  unfold Go.Proofs.Ytkodjioofkdepaa.teB
  rw [h.lk, h.fl]
theorem LikP.teN {f : Nat} {D' D : Wd} (h : LikP f D' D) (x : Nd) : teN D' f x = teN D f x := by
  unfold Go.Proofs.Ytkodjioofkdepaa.teN
  rw [h.teT]

abbrev pcs (D : Wd) (f : Nat) (st sn : Int) (cb qb : Nat) (v : Value) : Array Value := #[.pointer (some ⟨cb, 0, none⟩), .pointer (some ⟨qb, 0, none⟩), .slice D.pa D.ps.length D.pc, .slice D.fa D.fs.length D.fc, .int .i64 D.en, .int .i64 f, .int .i64 st, .int .i64 sn, v]
/-- The blocks of a node: its record, its clocks and their map, its queue, what it took, its copy of the federation. -/
def FK (nb cb rb : Nat) (G : Nat → Prop) (v : Value) (K : Nat → Bool) (k : Nat) : Prop := k = nb ∨ k = cb ∨ k = rb ∨ G k ∨ v.ownBlock = some k ∨ K k = true
structure KN (w0 : World) (D : Wd) (f : Nat) (x : Nd) (nb cb rb qb : Nat) (G : Nat → Prop) (v : Value) (K : Nat → Bool) (W : World) : Prop where
  ww : Ww (mask (fun k => !K k) W) D
  bel : Below w0.heap.size w0 W
  blk : W.heap[nb]? = some (.cells (pcs D f x.st x.sn cb qb v) 46 (0, 0))
  ck : C.PC D.fs.length f x.c x.t cb rb W
  qu : Q.IsQ W G qb 64 x.q
  lg : W.ownsRow w0.heap.size 49 7 v x.lg.length (flatD x.lg)
  lo : ∀ k, FK nb cb rb G v K k → w0.heap.size ≤ k
  kl : ∀ k, K k = true → k < W.heap.size
  a1 : nb ≠ cb
  a2 : nb ≠ rb
  a3 : ¬ G nb
  a4 : ¬ G cb
  a5 : ¬ G rb
  a6 : v.ownBlock ≠ some nb
  a7 : v.ownBlock ≠ some cb
  a8 : v.ownBlock ≠ some rb
  a9 : ∀ k, v.ownBlock = some k → ¬ G k
  b1 : K nb = false
  b2 : K cb = false
  b3 : K rb = false
  b4 : ∀ k, G k → K k = false
  b5 : ∀ k, v.ownBlock = some k → K k = false
  hf : f < D.fs.length
  s0 : 0 ≤ x.sn
  s1 : x.sn ≤ 1000000
theorem mask_on {K : Nat → Bool} {W W2 : World} {D : Wd} (h : Ww (mask (fun k => !K k) W) D) (hs : W.heap.size ≤ W2.heap.size) (hk : ∀ k, k < W.heap.size → K k = true → W2.heap[k]? = W.heap[k]?) : Ww (mask (fun k => !K k) W2) D :=
  h.sub (sub_mask hs (fun k hl hS => ⟨hS, hk k hl (by simpa using hS)⟩))
theorem KN.wd {w0 : World} {D : Wd} {f : Nat} {x : Nd} {nb cb rb qb : Nat} {G : Nat → Prop} {v : Value} {K : Nat → Bool} {W : World} (h : KN w0 D f x nb cb rb qb G v K W) : Ww W D := h.ww.sub (sub_of_mask (Nat.le_refl _) (fun _ _ _ => rfl))
theorem KN.lt {w0 : World} {D : Wd} {f : Nat} {x : Nd} {nb cb rb qb : Nat} {G : Nat → Prop} {v : Value} {K : Nat → Bool} {W : World} (h : KN w0 D f x nb cb rb qb G v K W) : ∀ k, FK nb cb rb G v K k → k < W.heap.size := by
  rintro k (rfl | rfl | rfl | g | g | g)
  · exact (Array.getElem?_eq_some_iff.1 h.blk).1
  · exact h.ck.lt
  · exact h.ck.mlt
  · exact h.qu.lt k g
  · exact (own_lt h.lg g).1
  · exact h.kl k g
theorem KN.keep {S : Nat → Prop} {w0 : World} {D : Wd} {f : Nat} {x : Nd} {nb cb rb qb : Nat} {G : Nat → Prop} {v : Value} {K : Nat → Bool} {W W2 : World} (h : KN w0 D f x nb cb rb qb G v K W) (hf : Fr S W W2) (hs : ∀ k, FK nb cb rb G v K k → ¬ S k) (h0 : ∀ k, S k → w0.heap.size ≤ k) : KN w0 D f x nb cb rb qb G v K W2 :=
  ⟨mask_on h.ww hf.size (fun k hl g => hf.block k hl (hs k (.inr (.inr (.inr (.inr (.inr g))))))), h.bel.trans (hf.below h.bel.size h0), (hf.block nb (h.lt nb (.inl rfl)) (hs nb (.inl rfl))).trans h.blk, h.ck.keep hf.toC (hs cb (.inr (.inl rfl))) (hs rb (.inr (.inr (.inl rfl)))), h.qu.keep hf.toQ (fun k g => hs k (.inr (.inr (.inr (.inl g))))), own_keep h.lg hf (fun k g => hs k (.inr (.inr (.inr (.inr (.inl g)))))), h.lo, fun k g => Nat.lt_of_lt_of_le (h.kl k g) hf.size, h.a1, h.a2, h.a3, h.a4, h.a5, h.a6, h.a7, h.a8, h.a9, h.b1, h.b2, h.b3, h.b4, h.b5, h.hf, h.s0, h.s1⟩
theorem KN.below {w0 : World} {D : Wd} {f : Nat} {x : Nd} {nb cb rb qb : Nat} {G : Nat → Prop} {v : Value} {K : Nat → Bool} {W W2 : World} (h : KN w0 D f x nb cb rb qb G v K W) (hb : Below W.heap.size W W2) : KN w0 D f x nb cb rb qb G v K W2 :=
  h.keep (Fr.of_below (S := fun _ => False) hb) (fun _ _ g => g) (fun _ g => g.elim)
theorem KN.cells {w0 : World} {D : Wd} {f : Nat} {x : Nd} {nb cb rb qb : Nat} {G : Nat → Prop} {v : Value} {K : Nat → Bool} {W : World} (h : KN w0 D f x nb cb rb qb G v K W) :
    W.cell? ⟨nb, 0, none⟩ = some (.pointer (some ⟨cb, 0, none⟩)) ∧ W.cell? ⟨nb, 1, none⟩ = some (.pointer (some ⟨qb, 0, none⟩)) ∧ W.cell? ⟨nb, 2, none⟩ = some (.slice D.pa D.ps.length D.pc) ∧ W.cell? ⟨nb, 3, none⟩ = some (.slice D.fa D.fs.length D.fc) ∧ W.cell? ⟨nb, 4, none⟩ = some (.int .i64 D.en) ∧ W.cell? ⟨nb, 5, none⟩ = some (.int .i64 f) ∧ W.cell? ⟨nb, 6, none⟩ = some (.int .i64 x.st) ∧ W.cell? ⟨nb, 7, none⟩ = some (.int .i64 x.sn) ∧ W.cell? ⟨nb, 8, none⟩ = some v :=
  ⟨cellN h.blk 0, cellN h.blk 1, cellN h.blk 2, cellN h.blk 3, cellN h.blk 4, cellN h.blk 5, cellN h.blk 6, cellN h.blk 7, cellN h.blk 8⟩
theorem KN.froz {w0 : World} {D : Wd} {f : Nat} {x : Nd} {nb cb rb qb : Nat} {G : Nat → Prop} {v : Value} {K : Nat → Bool} {W : World} (h : KN w0 D f x nb cb rb qb G v K W) (i : Nat) : W.frozen? ⟨nb, i, none⟩ = false := by simp [World.frozen?, h.blk]
/-- Its clocks are written. -/
theorem KN.ckw {S : Nat → Prop} {w0 : World} {D : Wd} {f : Nat} {x : Nd} {nb cb rb qb : Nat} {G : Nat → Prop} {v : Value} {K : Nat → Bool} {W W2 : World} (h : KN w0 D f x nb cb rb qb G v K W) {c : Int → Int} {t : Int} (hc : C.PC D.fs.length f c t cb rb W2) (hf : C.Fr S W W2) (hs : ∀ k, S k → k = cb ∨ k = rb) : KN w0 D f { x with c := c, t := t } nb cb rb qb G v K W2 ∧ Fr (FK nb cb rb G v K) W W2 := by
  have hF := Fr.ofC hf
  have ns : ∀ k, k ≠ cb → k ≠ rb → ¬ S k := fun k e1 e2 g => by rcases hs k g with e | e; exact e1 e; exact e2 e
  have nK : ∀ k, K k = true → ¬ S k := fun k g => ns k (fun e => by rw [e, h.b2] at g; cases g) (fun e => by rw [e, h.b3] at g; cases g)
  refine ⟨⟨mask_on h.ww hF.size (fun k hl g => hF.block k hl (nK k g)), h.bel.trans (hF.below h.bel.size (fun k g => by rcases hs k g with rfl | rfl; exact h.lo _ (.inr (.inl rfl)); exact h.lo _ (.inr (.inr (.inl rfl))))), (hF.block nb (h.lt nb (.inl rfl)) (ns nb h.a1 h.a2)).trans h.blk, hc, h.qu.keep hF.toQ (fun k g => ns k (fun e => h.a4 (e ▸ g)) (fun e => h.a5 (e ▸ g))), own_keep h.lg hF (fun k g => ns k (fun e => h.a7 (e ▸ g)) (fun e => h.a8 (e ▸ g))), h.lo, fun k g => Nat.lt_of_lt_of_le (h.kl k g) hF.size, h.a1, h.a2, h.a3, h.a4, h.a5, h.a6, h.a7, h.a8, h.a9, h.b1, h.b2, h.b3, h.b4, h.b5, h.hf, h.s0, h.s1⟩, hF.wide (fun k g => by rcases hs k g with e | e; exact .inr (.inl e); exact .inr (.inr (.inl e)))⟩
/-- Its queue is written. -/
theorem KN.quw {w0 : World} {D : Wd} {f : Nat} {x : Nd} {nb cb rb qb : Nat} {G G2 : Nat → Prop} {v : Value} {K : Nat → Bool} {W W2 : World} (h : KN w0 D f x nb cb rb qb G v K W) {q : List Q.M} (hq : Q.IsQ W2 G2 qb 64 q) (hs : Q.Step G G2 W W2) : KN w0 D f { x with q := q } nb cb rb qb G2 v K W2 ∧ Fr (FK nb cb rb G v K) W W2 ∧ ∀ k, FK nb cb rb G2 v K k → FK nb cb rb G v K k ∨ W.heap.size ≤ k := by
  have hF := Fr.ofQ hs.1
  have n2 : ∀ k, k < W.heap.size → ¬ G k → ¬ G2 k := fun k hk hg g => by rcases hs.2 k g with e | e; exact hg e; omega
  have l1 := h.lt nb (.inl rfl)
  have l2 := h.lt cb (.inr (.inl rfl))
  have l3 := h.lt rb (.inr (.inr (.inl rfl)))
  have hsz := h.bel.size
  have nK : ∀ k, K k = true → ¬ G k := fun k g g2 => by rw [h.b4 k g2] at g; cases g
  refine ⟨⟨mask_on h.ww hF.size (fun k hl g => hF.block k hl (nK k g)), h.bel.trans (hF.below h.bel.size (fun k g => h.lo k (.inr (.inr (.inr (.inl g)))))), (hF.block nb l1 h.a3).trans h.blk, h.ck.keep hF.toC h.a4 h.a5, hq, own_keep h.lg hF (fun k g => h.a9 k g), ?_, fun k g => Nat.lt_of_lt_of_le (h.kl k g) hF.size, h.a1, h.a2, n2 nb l1 h.a3, n2 cb l2 h.a4, n2 rb l3 h.a5, h.a6, h.a7, h.a8, fun k g => n2 k (own_lt h.lg g).1 (h.a9 k g), h.b1, h.b2, h.b3, fun k g => ?_, h.b5, h.hf, h.s0, h.s1⟩, hF.wide (fun k g => .inr (.inr (.inr (.inl g)))), ?_⟩
  · rintro k (e | e | e | g | g | g)
    · exact h.lo k (.inl e)
    · exact h.lo k (.inr (.inl e))
    · exact h.lo k (.inr (.inr (.inl e)))
    · rcases hs.2 k g with e | e
      · exact h.lo k (.inr (.inr (.inr (.inl e))))
      · omega
    · exact h.lo k (.inr (.inr (.inr (.inr (.inl g)))))
    · exact h.lo k (.inr (.inr (.inr (.inr (.inr g)))))
  · rcases hs.2 k g with e | e
    · exact h.b4 k e
    · cases hK : K k
      · rfl
      · have := h.kl k hK; omega
  · rintro k (e | e | e | g | g | g)
    · exact .inl (.inl e)
    · exact .inl (.inr (.inl e))
    · exact .inl (.inr (.inr (.inl e)))
    · rcases hs.2 k g with e | e
      · exact .inl (.inr (.inr (.inr (.inl e))))
      · exact .inr e
    · exact .inl (.inr (.inr (.inr (.inr (.inl g)))))
    · exact .inl (.inr (.inr (.inr (.inr (.inr g)))))
/-- Its own record is written: the state, or how many it sent. -/
theorem KN.own {w0 : World} {D : Wd} {f : Nat} {x : Nd} {nb cb rb qb : Nat} {G : Nat → Prop} {v : Value} {K : Nat → Bool} {W : World} (h : KN w0 D f x nb cb rb qb G v K W) {i : Nat} {u : Value} {st sn : Int} (he : (pcs D f x.st x.sn cb qb v).setIfInBounds i u = pcs D f st sn cb qb v) (h0 : 0 ≤ sn) (h1 : sn ≤ 1000000) : KN w0 D f { x with st := st, sn := sn } nb cb rb qb G v K (W.setCell ⟨nb, i, none⟩ u) := by
  have hF := frN W nb i u
  refine ⟨mask_on h.ww hF.size (fun k hl g => hF.block k hl (fun e => by subst e; rw [h.b1] at g; cases g)), h.bel.trans (hF.below h.bel.size (fun k e => by subst e; exact h.lo _ (.inl rfl))), ?_, h.ck.keep hF.toC (fun e => h.a1 e.symm) (fun e => h.a2 e.symm), h.qu.keep hF.toQ (fun k g e => by subst e; exact h.a3 g), own_keep h.lg hF (fun k g e => by subst e; exact h.a6 g), h.lo, fun k g => Nat.lt_of_lt_of_le (h.kl k g) hF.size, h.a1, h.a2, h.a3, h.a4, h.a5, h.a6, h.a7, h.a8, h.a9, h.b1, h.b2, h.b3, h.b4, h.b5, h.hf, h0, h1⟩
  rw [heap_setCell_same W nb i _ _ _ h.blk, he]
end Go.Proofs.Ytkodjioofkdepaa
