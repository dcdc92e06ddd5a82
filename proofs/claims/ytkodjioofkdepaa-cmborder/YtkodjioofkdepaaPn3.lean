/- Proved: what the program's Step has in its middle; how what was taken is put down. -/
import Derived.Test.YtkodjioofkdepaaPn2
namespace Go.Proofs.Ytkodjioofkdepaa
open Go.RowKit Go.Shelf
set_option linter.unusedVariables false
set_option maxRecDepth 100000

structure Mn (w0 w : World) (D : Wd) (f : Nat) (x : Nd) (nb cb rb qb : Nat) (G0 G : Nat → Prop) (v0 v : Value) (K : Nat → Bool) (A B : Nat) (z : Array Value) (W : World) : Prop where
  kn : KN w0 D f x nb cb rb qb G v K W
  st : StN (FK nb cb rb G0 v0 K) (FK nb cb rb G v K) w W
  bA : W.heap[A]? = some (.cells (dcs zeroD) 49 (0, 0))
  bB : W.heap[B]? = some (.cells z 36 (0, 0))
  nA : ¬ FK nb cb rb G v K A
  nB : ¬ FK nb cb rb G v K B
  lA : w.heap.size ≤ A
  lB : w.heap.size ≤ B
theorem Mn.on {w0 w : World} {D : Wd} {f : Nat} {x : Nd} {nb cb rb qb : Nat} {G0 G : Nat → Prop} {v0 v : Value} {K : Nat → Bool} {A B : Nat} {z : Array Value} {W W2 : World} (h : Mn w0 w D f x nb cb rb qb G0 G v0 v K A B z W) (hb : Below W.heap.size W W2) : Mn w0 w D f x nb cb rb qb G0 G v0 v K A B z W2 :=
  ⟨h.kn.below hb, ⟨h.st.1.then (Fr.of_below hb), h.st.2⟩, (hb.block A (Array.getElem?_eq_some_iff.1 h.bA).1).trans h.bA, (hb.block B (Array.getElem?_eq_some_iff.1 h.bB).1).trans h.bB, h.nA, h.nB, h.lA, h.lB⟩
theorem StN.ownK {F0 : Nat → Prop} {nb cb rb : Nat} {G : Nat → Prop} {v : Value} {K : Nat → Bool} {w W : World} (h : StN F0 (FK nb cb rb G v K) w W) (i : Nat) (u : Value) : StN F0 (FK nb cb rb G v K) w (W.setCell ⟨nb, i, none⟩ u) := by
  refine ⟨h.1.trans (frN W nb i u) (fun k hk e => ?_), h.2⟩
  subst e
  rcases h.2 k (.inl rfl) with g | g
  · exact g
  · omega
theorem Mn.own {w0 w : World} {D : Wd} {f : Nat} {x : Nd} {nb cb rb qb : Nat} {G0 G : Nat → Prop} {v0 v : Value} {K : Nat → Bool} {A B : Nat} {z : Array Value} {W : World} (h : Mn w0 w D f x nb cb rb qb G0 G v0 v K A B z W) {i : Nat} {u : Value} {st sn : Int} (he : (pcs D f x.st x.sn cb qb v).setIfInBounds i u = pcs D f st sn cb qb v) (h0 : 0 ≤ sn) (h1 : sn ≤ 1000000) : Mn w0 w D f { x with st := st, sn := sn } nb cb rb qb G0 G v0 v K A B z (W.setCell ⟨nb, i, none⟩ u) := by
  have hF := frN W nb i u
  exact ⟨h.kn.own he h0 h1, h.st.ownK i u, (hF.block A (Array.getElem?_eq_some_iff.1 h.bA).1 (fun e => h.nA (.inl e))).trans h.bA, (hF.block B (Array.getElem?_eq_some_iff.1 h.bB).1 (fun e => h.nB (.inl e))).trans h.bB, h.nA, h.nB, h.lA, h.lB⟩
/-- What the walk reads in its middle: the record, the message. -/
theorem Mn.reads {w0 w : World} {D : Wd} {f : Nat} {x : Nd} {nb cb rb qb : Nat} {G0 G : Nat → Prop} {v0 v : Value} {K : Nat → Bool} {A B : Nat} {T b c d e g : Int} {W : World} (h : Mn w0 w D f x nb cb rb qb G0 G v0 v K A B (mc6 T b c d e g) W) :
    (W.cell? ⟨nb, 1, none⟩ = some (.pointer (some ⟨qb, 0, none⟩)) ∧ W.cell? ⟨nb, 2, none⟩ = some (.slice D.pa D.ps.length D.pc) ∧ W.cell? ⟨nb, 3, none⟩ = some (.slice D.fa D.fs.length D.fc) ∧ W.cell? ⟨nb, 4, none⟩ = some (.int .i64 D.en) ∧ W.cell? ⟨nb, 5, none⟩ = some (.int .i64 f) ∧ W.cell? ⟨nb, 6, none⟩ = some (.int .i64 x.st) ∧ W.cell? ⟨nb, 7, none⟩ = some (.int .i64 x.sn) ∧ W.cell? ⟨nb, 8, none⟩ = some v) ∧
    (W.cell? ⟨B, 0, none⟩ = some (.int .i64 T) ∧ W.cell? ⟨B, 1, none⟩ = some (.int .i64 b) ∧ W.cell? ⟨B, 2, none⟩ = some (.int .i64 c) ∧ W.cell? ⟨B, 3, none⟩ = some (.int .i64 d) ∧ W.cell? ⟨B, 4, none⟩ = some (.int .i64 e) ∧ W.cell? ⟨B, 5, none⟩ = some (.int .i64 g)) := by
  obtain ⟨n0, n1, n2, n3, n4, n5, n6, n7, n8⟩ := h.kn.cells
  exact ⟨⟨n1, n2, n3, n4, n5, n6, n7, n8⟩, cellN h.bB 0, cellN h.bB 1, cellN h.bB 2, cellN h.bB 3, cellN h.bB 4, cellN h.bB 5⟩
/-- One more is put down behind what was taken. -/
theorem Mn.log {w0 w : World} {D : Wd} {f : Nat} {x : Nd} {nb cb rb qb : Nat} {G0 G : Nat → Prop} {v0 v : Value} {K : Nat → Bool} {A B : Nat} {z : Array Value} {W : World} (h : Mn w0 w D f x nb cb rb qb G0 G v0 v K A B z W) (d : Dn) (hl : x.lg.length ≤ 100000) (ty : TypeId) :
    ∃ a' c' w', (Builtin.append_ #[44, 44] ty #[v, .slice (some ⟨W.heap.size, 0, none⟩) 1 1]).run Try.prog (W.alloc (.cells (dcs d) 49)) = .ok (.slice a' (x.lg.length + 1) c') w' ∧ w'.cell? ⟨nb, 8, none⟩ = some v ∧ w'.frozen? ⟨nb, 8, none⟩ = false ∧ Fr (fun k => v.ownBlock = some k) W w' ∧ (∀ k, (Value.slice a' (x.lg.length + 1) c').ownBlock = some k → v.ownBlock = some k ∨ W.heap.size < k) ∧
      Mn w0 w D f { x with lg := x.lg ++ [d] } nb cb rb qb G0 G v0 (.slice a' (x.lg.length + 1) c') K A B z (w'.setCell ⟨nb, 8, none⟩ (.slice a' (x.lg.length + 1) c')) := by
  obtain ⟨i0, hi0, hz0, hz1, hz2⟩ := info_parts infoD
  have hb1 := al W (.cells (dcs d) 49)
  have hx : (W.alloc (.cells (dcs d) 49)).heap[W.heap.size]? = some (.cells (dcs d) 49 (0, 0)) := (MapKept.heap_alloc W _).1
  obtain ⟨v', w', hr, h3, h4, h5, h6⟩ := run_append_own_at (P := Try.prog) _ w0.heap.size 44 ty 49 i0 _ 7 56 Try.underlying44 hi0 hz0 hz1 hz2 rfl (by decide) v x.lg.length (flatD x.lg) (own_below h.kn.lg hb1) ⟨W.heap.size, 0, none⟩ 1 1 (flatD [d]) (flatD_len [d]) (fun j u hj => by
    rw [Addr.add_lit, Nat.zero_add]
    have e : flatD [d] = encD d := by simp [flatD]
    rw [e] at hj
    rw [cellN hx j]
    simpa [encD, dcs] using hj) (flatD_one _) (by unfold maxLen; omega) (by omega) (Nat.le_trans h.kn.bel.size hb1.size)
  have hro : w'.ownsRow w0.heap.size 49 7 v' (x.lg.length + 1) (flatD (x.lg ++ [d])) := by
    rw [flatD_append]
    exact h3
  obtain ⟨a', c', rfl⟩ := shape_of hro
  have hF : Fr (fun k => v.ownBlock = some k) W w' := (Fr.of_below hb1).then (Fr.grown (Fr.refl _ _) h4 (fun k hk _ => hk))
  have hcl : ∀ k, k < W.heap.size → v.ownBlock ≠ some k → w'.heap[k]? = W.heap[k]? := fun k hk hn => hF.block k hk hn
  have lnb := h.kn.lt nb (.inl rfl)
  have hblk' := (hcl nb lnb h.kn.a6).trans h.kn.blk
  have hnew : ∀ k, (Value.slice a' (x.lg.length + 1) c').ownBlock = some k → v.ownBlock = some k ∨ W.heap.size < k := fun k hk => by
    rcases h6 with e | e
    · rw [e] at hk; exact .inl hk
    · rw [e] at hk
      simp at hk
      exact .inr (by omega)
  have nn : ∀ k, k < W.heap.size → v.ownBlock ≠ some k → (Value.slice a' (x.lg.length + 1) c').ownBlock ≠ some k := fun k hk hn e => by
    rcases hnew k e with g | g
    · exact hn g
    · omega
  have lA' := (Array.getElem?_eq_some_iff.1 h.bA).1
  have lB' := (Array.getElem?_eq_some_iff.1 h.bB).1
  have hS := frN w' nb 8 (.slice a' (x.lg.length + 1) c')
  have lcb := h.kn.lt cb (.inr (.inl rfl))
  have lrb := h.kn.lt rb (.inr (.inr (.inl rfl)))
  have hbel : Below w0.heap.size w0 w' := h.kn.bel.trans (hF.below h.kn.bel.size (fun k g => h.kn.lo k (.inr (.inr (.inr (.inr (.inl g)))))))
  have hlo : ∀ k, FK nb cb rb G (.slice a' (x.lg.length + 1) c') K k → w0.heap.size ≤ k := by
    rintro k (e | e | e | g | g | g)
    · exact h.kn.lo k (.inl e)
    · exact h.kn.lo k (.inr (.inl e))
    · exact h.kn.lo k (.inr (.inr (.inl e)))
    · exact h.kn.lo k (.inr (.inr (.inr (.inl g))))
    · exact (own_lt hro g).2
    · exact h.kn.lo k (.inr (.inr (.inr (.inr (.inr g)))))
  have hnF : ∀ k, k < W.heap.size → ¬ FK nb cb rb G v K k → ¬ FK nb cb rb G (.slice a' (x.lg.length + 1) c') K k := fun k hk hn => by
    rintro (e | e | e | g | g | g)
    · exact hn (.inl e)
    · exact hn (.inr (.inl e))
    · exact hn (.inr (.inr (.inl e)))
    · exact hn (.inr (.inr (.inr (.inl g))))
    · exact nn k hk (fun e => hn (.inr (.inr (.inr (.inr (.inl e)))))) g
    · exact hn (.inr (.inr (.inr (.inr (.inr g)))))
  have lAv : v.ownBlock ≠ some A := fun e => h.nA (.inr (.inr (.inr (.inr (.inl e)))))
  have lBv : v.ownBlock ≠ some B := fun e => h.nB (.inr (.inr (.inr (.inr (.inl e)))))
  have nK : ∀ k, K k = true → v.ownBlock ≠ some k := fun k g e => by rw [h.kn.b5 k e] at g; cases g
  have nKn : ∀ k, K k = true → k ≠ nb := fun k g e => by rw [e, h.kn.b1] at g; cases g
  refine ⟨a', c', w', hr, ?_, ?_, hF, hnew, ?_⟩
  · exact cellN hblk' 8
  · simp [World.frozen?, hblk']
  refine ⟨⟨mask_on (mask_on h.kn.ww hF.size (fun k hl g => hF.block k hl (nK k g))) hS.size (fun k hl g => hS.block k hl (nKn k g)), hbel.trans (hS.below hbel.size (fun k e => by subst e; exact h.kn.lo _ (.inl rfl))), ?_, ?_, ?_, ?_, hlo, fun k g => Nat.lt_of_lt_of_le (h.kn.kl k g) (Nat.le_trans hF.size hS.size), h.kn.a1, h.kn.a2, h.kn.a3, h.kn.a4, h.kn.a5, nn nb lnb h.kn.a6, nn cb lcb h.kn.a7, nn rb lrb h.kn.a8, fun k g hg => ?_, h.kn.b1, h.kn.b2, h.kn.b3, h.kn.b4, fun k g => ?_, h.kn.hf, h.kn.s0, h.kn.s1⟩, ?_, ?_, ?_, hnF A lA' h.nA, hnF B lB' h.nB, h.lA, h.lB⟩
  · rw [heap_setCell_same w' nb 8 _ _ _ hblk']
    rfl
  · exact ((h.kn.ck.keep hF.toC h.kn.a7 h.kn.a8)).keep hS.toC (fun e => h.kn.a1 e.symm) (fun e => h.kn.a2 e.symm)
  · exact (h.kn.qu.keep hF.toQ (fun k g e => h.kn.a9 k e g)).keep hS.toQ (fun k g e => by subst e; exact h.kn.a3 g)
  · have e1 : (x.lg ++ [d]).length = x.lg.length + 1 := by simp
    show World.ownsRow _ _ _ _ _ (x.lg ++ [d]).length _
    rw [e1]
    exact own_keep hro hS (fun k g e => by subst e; exact nn k lnb h.kn.a6 g)
  · rcases hnew k g with e | e
    · exact h.kn.a9 k e hg
    · have := h.kn.qu.lt k hg; omega
  · rcases hnew k g with e | e
    · exact h.kn.b5 k e
    · cases hK : K k
      · rfl
      · have := h.kn.kl k hK; omega
  · refine ⟨(h.st.1.trans hF (fun k hk g => ?_)).trans hS (fun k hk e => ?_), ?_⟩
    · rcases h.st.2 k (.inr (.inr (.inr (.inr (.inl g))))) with e | e
      · exact e
      · omega
    · subst e
      rcases h.st.2 k (.inl rfl) with e | e
      · exact e
      · omega
    · rintro k (e | e | e | g | g | g)
      · exact h.st.2 k (.inl e)
      · exact h.st.2 k (.inr (.inl e))
      · exact h.st.2 k (.inr (.inr (.inl e)))
      · exact h.st.2 k (.inr (.inr (.inr (.inl g))))
      · rcases hnew k g with e | e
        · exact h.st.2 k (.inr (.inr (.inr (.inr (.inl e)))))
        · exact .inr (by have := h.st.1.size; omega)
      · exact h.st.2 k (.inr (.inr (.inr (.inr (.inr g)))))
  · exact (hS.block A (Nat.lt_of_lt_of_le lA' hF.size) (fun e => h.nA (.inl e))).trans ((hcl A lA' lAv).trans h.bA)
  · exact (hS.block B (Nat.lt_of_lt_of_le lB' hF.size) (fun e => h.nB (.inl e))).trans ((hcl B lB' lBv).trans h.bB)
/-- Safe, in the world behind the answer's block. -/
theorem knsafe0 {w0 : World} {D : Wd} {f : Nat} {x : Nd} {nb cb rb qb : Nat} {G : Nat → Prop} {v : Value} {K : Nat → Bool} {w : World} (h : KN w0 D f x nb cb rb qb G v K w) :
    Calls Try.prog 14 #[.pointer (some ⟨nb, 0, none⟩)] (w.alloc (.cells #[.int .i64 0, .int .i64 0, .int .i64 0, .int .i64 0, .int .i64 0, .int .i64 0, .int .i64 0] 49)) fun en w' => en = .returned (.bool (safe D f x)) ∧ w'.heap[w.heap.size]? = some (.cells (dcs zeroD) 49 (0, 0)) ∧ Below w.heap.size w w' ∧ w.heap.size < w'.heap.size := by
  have hb0 := al w (.cells (dcs zeroD) 49)
  have hx : (w.alloc (.cells (dcs zeroD) 49)).heap[w.heap.size]? = some (.cells (dcs zeroD) 49 (0, 0)) := (MapKept.heap_alloc w _).1
  have hsz : (w.alloc (.cells (dcs zeroD) 49)).heap.size = w.heap.size + 1 := by simp
  exact (knsafe (h.below hb0)).mono fun en w' ⟨he, hb⟩ => ⟨he, (hb.block _ (by omega)).trans hx, hb0.trans (hb.mono hb0.size), by have := hb.size; omega⟩
set_option maxHeartbeats 2000000 in
theorem knstep_idle {w0 : World} {D : Wd} {f : Nat} {x : Nd} {nb cb rb qb : Nat} {G : Nat → Prop} {v : Value} {K : Nat → Bool} {w : World} (h : KN w0 D f x nb cb rb qb G v K w) (hs : safe D f x = false) :
    Calls Try.prog 10 #[.pointer (some ⟨nb, 0, none⟩)] w fun en w' => en = .returned (.tuple #[dv zeroD, .slice none 0 0, .int .i64 150]) ∧ Below w.heap.size w w' := by
  have SF := knsafe0 h
  rw [hs] at SF
  clear h hs
  go_enter Try.func10, Try.ntmps10
  go_wp2_with (go_at_call 14; refine SF.mono ?_; rintro en w3 ⟨rfl, bx, hb, hlt⟩; obtain ⟨t0, t1, t2, t3, t4, t5, t6, tf⟩ := dn_cells bx; dsimp only [zeroD] at t0 t1 t2 t3 t4 t5 t6; have HB : Hid _ := hb; have BX : Hid _ := bx; clear bx hb SF)
  generalize hwf : World.setCell _ _ _ = WF
  have hWF : WF = set7 w3 w.heap.size zeroD := hwf.symm
  have hFF := set7_heap (W := w3) (z := zeroD) BX.out zeroD
  have hbl := set7_below HB.out (A := w.heap.size) (Nat.le_refl _) zeroD
  rw [← hWF] at hFF hbl
  obtain ⟨m0, m1, m2, m3, m4, m5, m6, _⟩ := dn_cells hFF
  dsimp only [zeroD] at m0 m1 m2 m3 m4 m5 m6
  exact bodyPost_ret (v := .tuple #[dv zeroD, .slice none 0 0, .int .i64 150]) (by simp [results, Try.results10, go_sem, m0, m1, m2, m3, m4, m5, m6, zeroD]) rfl ⟨rfl, hbl⟩
/-- Pop, in the middle of a step. -/
theorem knpop {w0 : World} {D : Wd} {f : Nat} {x : Nd} {nb cb rb qb : Nat} {G : Nat → Prop} {v : Value} {K : Nat → Bool} {w : World} (h : KN w0 D f x nb cb rb qb G v K w) {T b c d e g : Int} (hh : x.q.headD Q.zeroM = ((T, b, c), d, e, g)) (he : x.q.isEmpty = false) (W : World) (hb : Below w.heap.size w W) (hA : W.heap[w.heap.size]? = some (.cells (dcs zeroD) 49 (0, 0))) (hlt : w.heap.size < W.heap.size) :
    Calls Try.prog 22 #[.pointer (some ⟨qb, 0, none⟩)] W fun en w' => en = .returned (.tuple #[.agg (mc6 T b c d e g), .bool true]) ∧ ∃ G2, Mn w0 w D f { x with q := x.q.tail } nb cb rb qb G G2 v v K w.heap.size w'.heap.size (mc6 T b c d e g) (w'.alloc (.cells (mc6 T b c d e g) 36)) ∧ (∀ k, G2 k → k < w'.heap.size) ∧ w.heap.size < w'.heap.size := by
  have hr := h.below hb
  have C := Q.qpop_any hr.qu
  rw [hh, he] at C
  refine C.mono fun en w' ⟨hen, G2, hq, hs⟩ => ⟨hen, G2, ?_, fun k g => hq.lt k g, Nat.lt_of_lt_of_le hlt hs.1.size⟩
  obtain ⟨r1, r2, r3⟩ := hr.quw hq hs
  have hlt' := h.lt
  have nA0 : ¬ FK nb cb rb G v K w.heap.size := fun g => by have := hlt' _ g; omega
  have hbx := al w' (.cells (mc6 T b c d e g) 36)
  have hsz := hs.1.size
  have hszb := hb.size
  refine ⟨r1.below hbx, ⟨((Fr.of_below hb).then r2).then (Fr.of_below hbx), fun k g => ?_⟩, ?_, (MapKept.heap_alloc w' _).1, fun g => ?_, fun g => ?_, Nat.le_refl _, by omega⟩
  · rcases r3 k g with e | e
    · exact .inl e
    · exact .inr (by omega)
  · exact (hbx.block _ (by omega)).trans ((r2.block _ hlt nA0).trans hA)
  · rcases r3 _ g with e | e
    · exact nA0 e
    · omega
  · have := r1.lt _ g; omega
/-- The table's Step, in the middle of a step. -/
theorem mn_step {w0 w : World} {D : Wd} {f : Nat} {x : Nd} {nb cb rb qb : Nat} {G0 G : Nat → Prop} {v0 v : Value} {K : Nat → Bool} {A B : Nat} {z : Array Value} {W : World} (h : Mn w0 w D f x nb cb rb qb G0 G v0 v K A B z W) (s cl : Int) :
    Calls Try.prog 23 #[.slice (nthF D.fs f).ra (nthF D.fs f).rs.length (nthF D.fs f).rc, .int .i64 s, .int .i64 cl] W fun en w' => ∃ a' c', en = .returned (.tuple #[.int .i64 (stp (nthF D.fs f).rs s cl).1, .slice a' (stp (nthF D.fs f).rs s cl).2.length c']) ∧ w'.ownsRow W.heap.size 69 3 (.slice a' (stp (nthF D.fs f).rs s cl).2.length c') (stp (nthF D.fs f).rs s cl).2.length (flatO (stp (nthF D.fs f).rs s cl).2) ∧ Mn w0 w D f x nb cb rb qb G0 G v0 v K A B z w' ∧ W.heap.size ≤ w'.heap.size := by
  obtain ⟨h1, h2⟩ := stp_three h.kn.wd h.kn.hf
  exact (step_any W _ _ _ s cl h1 h2).mono fun en w' ⟨a', c', he, hr⟩ => ⟨a', c', he, hr.1, h.on hr.2, hr.2.size⟩
/-- Spread, in the middle of a step. -/
theorem mn_spread {w0 w : World} {D : Wd} {f : Nat} {x : Nd} {nb cb rb qb : Nat} {G0 G : Nat → Prop} {v0 v : Value} {K : Nat → Bool} {A B : Nat} {z : Array Value} {W : World} (h : Mn w0 w D f x nb cb rb qb G0 G v0 v K A B z W) (T g : Int) {a : Option Addr} {cp : Nat} {os : List O} (hs : RdO W a os) (hl : os.length ≤ 20) :
    Calls Try.prog 25 #[wv D, .int .i64 f, .int .i64 x.sn, .int .i64 T, .int .i64 g, .slice a os.length cp] W fun en w' => ∃ vm, en = .returned vm ∧ w'.ownsRow W.heap.size 36 6 vm (spr D f x.sn T g os).length (flatM (spr D f x.sn T g os)) ∧ Mn w0 w D f x nb cb rb qb G0 G v0 v K A B z w' ∧ W.heap.size ≤ w'.heap.size :=
  (spread_any W D f x.sn T g a cp os h.kn.wd hs hl h.kn.s0 (by have := h.kn.s1; omega)).mono fun en w' ⟨vm, he, hr⟩ => ⟨vm, he, hr.1, h.on hr.2, hr.2.size⟩
end Go.Proofs.Ytkodjioofkdepaa
