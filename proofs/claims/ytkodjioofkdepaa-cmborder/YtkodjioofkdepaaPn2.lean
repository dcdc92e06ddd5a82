/- Proved: contracts of the program's node: hearMessage, Hear, Tell. -/
import Derived.Test.YtkodjioofkdepaaPn1
namespace Go.Proofs.Ytkodjioofkdepaa
open Go.RowKit Go.Shelf
set_option linter.unusedVariables false
set_option maxRecDepth 100000

set_option maxHeartbeats 4000000 in
theorem knhearM {w0 : World} {D : Wd} {f : Nat} {x : Nd} {nb cb rb qb : Nat} {G : Nat → Prop} {v : Value} {K : Nat → Bool} {w : World} (h : KN w0 D f x nb cb rb qb G v K w) (fr T b c d e g : Int) (hfr : (Lit.int .i64 fr).wf = true) (hm : Q.mwf ((T, b, c), d, e, g)) :
    Calls Try.prog 21 #[.pointer (some ⟨nb, 0, none⟩), .int .i64 fr, .agg #[.int .i64 T, .int .i64 b, .int .i64 c, .int .i64 d, .int .i64 e, .int .i64 g]] w fun en w' => en = .returned (.int .i64 (heE D.fs.length f x fr 0 ((T, b, c), d, e, g))) ∧ ∃ G2, KN w0 D f (heN D.fs.length f x fr 0 ((T, b, c), d, e, g)) nb cb rb qb G2 v K w' ∧ StN (FK nb cb rb G v K) (FK nb cb rb G2 v K) w w' := by
  obtain ⟨W0, hW0⟩ : ∃ W0, W0 = w.alloc (.cells #[.int .i64 T, .int .i64 b, .int .i64 c, .int .i64 d, .int .i64 e, .int .i64 g] 36) := ⟨_, rfl⟩
  have hb0 : Below w.heap.size w W0 := by rw [hW0]; exact al w _
  have h0 := h.below hb0
  have hlt := h.lt
  have bx : W0.heap[w.heap.size]? = some (.cells #[.int .i64 T, .int .i64 b, .int .i64 c, .int .i64 d, .int .i64 e, .int .i64 g] 36 (0, 0)) := by rw [hW0]; exact (MapKept.heap_alloc w _).1
  have nF : ¬ FK nb cb rb G v K w.heap.size := fun g => by have := hlt _ g; omega
  have HS : Hid (∀ G2 W, StN (FK nb cb rb G v K) (FK nb cb rb G2 v K) W0 W → StN (FK nb cb rb G v K) (FK nb cb rb G2 v K) w W) := fun G2 W hs => StN.after hb0 hlt hs
  obtain ⟨n0, n1, n2, n3, n4, n5, n6, n7, n8⟩ := h0.cells
  have k0 : W0.cell? ⟨w.heap.size, 0, none⟩ = some (.int .i64 T) := cellN bx 0
  have k1 : W0.cell? ⟨w.heap.size, 1, none⟩ = some (.int .i64 b) := cellN bx 1
  have k2 : W0.cell? ⟨w.heap.size, 2, none⟩ = some (.int .i64 c) := cellN bx 2
  have k3 : W0.cell? ⟨w.heap.size, 3, none⟩ = some (.int .i64 d) := cellN bx 3
  have k4 : W0.cell? ⟨w.heap.size, 4, none⟩ = some (.int .i64 e) := cellN bx 4
  have k5 : W0.cell? ⟨w.heap.size, 5, none⟩ = some (.int .i64 g) := cellN bx 5
  have HX : Hid (∀ W, Fr (FK nb cb rb G v K) W0 W → W.heap[w.heap.size]? = some (.cells #[.int .i64 T, .int .i64 b, .int .i64 c, .int .i64 d, .int .i64 e, .int .i64 g] 36 (0, 0))) := fun W hf => (hf.block _ (Array.getElem?_eq_some_iff.1 bx).1 nF).trans bx
  have H0 : Hid (KN w0 D f x nb cb rb qb G v K W0) := h0
  have hAt := C.at_any h0.ck fr hfr
  clear h bx nF h0
  obtain ⟨A, hA⟩ : ∃ A, C.atC D.fs.length f x.c fr = A := ⟨_, rfl⟩
  rw [hA] at hAt
  have eE : heE D.fs.length f x fr 0 ((T, b, c), d, e, g) = (if A < 0 then 1 else if T < A then 110 else if Q.hasK x.q (T, b, c) = true then 3 else if 64 ≤ x.q.length then 2 else 0) := by unfold heE; rw [if_neg (by decide), if_pos rfl, hA]
  by_cases a0 : A < 0
  · have eN : heN D.fs.length f x fr 0 ((T, b, c), d, e, g) = x := by unfold heN; rw [if_neg (by decide), if_neg (fun g => by have := g.2; rw [eE, if_pos a0] at this; cases this)]
    rw [eE, eN, if_pos a0]
    clear eE eN hA
    rw [hW0] at hAt n0
    go_enter Try.func21, Try.ntmps21
    go_wp2_with (go_at_call 39; refine hAt.mono ?_; rintro en w3 ⟨rfl, rfl⟩)
    go_ret
    rw [← hW0]
    exact ⟨rfl, G, H0.out, HS.out G _ (StN.below (Below.refl _ _))⟩
  · by_cases aT : T < A
    · have eN : heN D.fs.length f x fr 0 ((T, b, c), d, e, g) = x := by unfold heN; rw [if_neg (by decide), if_neg (fun g => by have := g.2; rw [eE, if_neg a0, if_pos aT] at this; cases this)]
      rw [eE, eN, if_neg a0, if_pos aT]
      clear eE eN hA
      rw [hW0] at hAt n0 k0
      go_enter Try.func21, Try.ntmps21
      go_wp2_with (go_at_call 39; refine hAt.mono ?_; rintro en w3 ⟨rfl, rfl⟩)
      go_ret
      rw [← hW0]
      exact ⟨rfl, G, H0.out, HS.out G _ (StN.below (Below.refl _ _))⟩
    · rw [if_neg a0, if_neg aT] at eE
      obtain ⟨E, hE⟩ : ∃ E : Int, (if Q.hasK x.q (T, b, c) = true then (3 : Int) else if 64 ≤ x.q.length then 2 else 0) = E := ⟨_, rfl⟩
      rw [hE] at eE
      have eN : heN D.fs.length f x fr 0 ((T, b, c), d, e, g) = { x with q := if Q.hasK x.q (T, b, c) = true then x.q else if 64 ≤ x.q.length then x.q else Q.ins x.q ((T, b, c), d, e, g) } := by
        unfold heN
        rw [if_neg (by decide), eE, ← hE]
        by_cases g1 : Q.hasK x.q (T, b, c) = true
        · rw [if_pos g1, if_pos g1, if_neg (fun g => by have := g.2; cases this)]
        · rw [if_neg g1, if_neg g1]
          by_cases g2 : 64 ≤ x.q.length
          · rw [if_pos g2, if_pos g2, if_neg (fun g => by have := g.2; cases this)]
          · rw [if_neg g2, if_neg g2, if_pos ⟨rfl, rfl⟩]
      rw [eE, eN]
      obtain ⟨Y, hY⟩ : ∃ Y, ({ x with q := if Q.hasK x.q (T, b, c) = true then x.q else if 64 ≤ x.q.length then x.q else Q.ins x.q ((T, b, c), d, e, g) } : Nd) = Y := ⟨_, rfl⟩
      have HP : Hid (∀ W, Below W0.heap.size W0 W → Calls Try.prog 40 #[.pointer (some ⟨qb, 0, none⟩), .agg #[.int .i64 T, .int .i64 b, .int .i64 c, .int .i64 d, .int .i64 e, .int .i64 g]] W fun en w' => en = .returned (.int .i64 E) ∧ ∃ G2, KN w0 D f Y nb cb rb qb G2 v K w' ∧ StN (FK nb cb rb G v K) (FK nb cb rb G2 v K) W0 w') := fun W hb => by
        have hd := H0.out.below hb
        have := Q.qpush_any hd.qu ((T, b, c), d, e, g) hm
        rw [hE] at this
        refine this.mono fun en w' ⟨he, G2, hq, hs⟩ => ?_
        obtain ⟨r1, r2, r3⟩ := hd.quw hq hs
        rw [hY] at r1
        exact ⟨he, G2, r1, StN.after hb H0.out.lt ⟨r2, r3⟩⟩
      rw [hY]
      have HKX : Hid (∀ G2 W, KN w0 D f Y nb cb rb qb G2 v K W → StN (FK nb cb rb G v K) (FK nb cb rb G2 v K) W0 W → W.cell? ⟨nb, 1, none⟩ = some (.pointer (some ⟨qb, 0, none⟩)) ∧ W.cell? ⟨w.heap.size, 0, none⟩ = some (.int .i64 T) ∧ W.cell? ⟨w.heap.size, 1, none⟩ = some (.int .i64 b) ∧ W.cell? ⟨w.heap.size, 2, none⟩ = some (.int .i64 c) ∧ W.cell? ⟨w.heap.size, 3, none⟩ = some (.int .i64 d) ∧ W.cell? ⟨w.heap.size, 4, none⟩ = some (.int .i64 e) ∧ W.cell? ⟨w.heap.size, 5, none⟩ = some (.int .i64 g)) := fun G2 W hr hs => by
        have hx := HX.out W hs.1
        exact ⟨hr.cells.2.1, cellN hx 0, cellN hx 1, cellN hx 2, cellN hx 3, cellN hx 4, cellN hx 5⟩
      clear eE eN hA hE hY HX
      rw [hW0] at hAt n0 k0
      go_enter Try.func21, Try.ntmps21
      go_wp2_with (go_at_call 39; refine hAt.mono ?_; rintro en w3 ⟨rfl, rfl⟩)
      rw [← hW0] at n0 k0 ⊢
      clear hW0 hAt
      go_region_held3 (fun w' => w'.cell? ⟨nb, 1, none⟩ = some (.pointer (some ⟨qb, 0, none⟩)) ∧ w'.cell? ⟨w.heap.size, 0, none⟩ = some (.int .i64 T) ∧ w'.cell? ⟨w.heap.size, 1, none⟩ = some (.int .i64 b) ∧ w'.cell? ⟨w.heap.size, 2, none⟩ = some (.int .i64 c) ∧ w'.cell? ⟨w.heap.size, 3, none⟩ = some (.int .i64 d) ∧ w'.cell? ⟨w.heap.size, 4, none⟩ = some (.int .i64 e) ∧ w'.cell? ⟨w.heap.size, 5, none⟩ = some (.int .i64 g)) (first | (go_keep; done) | exact Hid.out KEEP) (first
        | (go_at_call 40; refine (Hid.out HP W0.drew ⟨rfl, rfl, rfl, Nat.le_refl _, fun _ _ => rfl⟩).mono ?_; rintro en w3 ⟨rfl, G2, h3, s3⟩; have H3 : Hid _ := And.intro h3 s3; have KEEP : Hid _ := Hid.out HKX G2 w3 h3 s3; clear h3 s3 HP))
      go_wp2
      go_ret
      exact ⟨rfl, G2, H3.out.1, HS.out G2 _ H3.out.2⟩

set_option maxHeartbeats 4000000 in
theorem knhear {w0 : World} {D : Wd} {f : Nat} {x : Nd} {nb cb rb qb : Nat} {G : Nat → Prop} {v : Value} {K : Nat → Bool} {w : World} (h : KN w0 D f x nb cb rb qb G v K w) (fr k co T b c d e g : Int) (hfr : (Lit.int .i64 fr).wf = true) (hm : Q.mwf ((T, b, c), d, e, g)) :
    Calls Try.prog 9 #[.pointer (some ⟨nb, 0, none⟩), .int .i64 fr, .agg (icv k T b c d e g co)] w fun en w' => en = .returned (.int .i64 (heE D.fs.length f x fr k ((T, b, c), d, e, g))) ∧ ∃ G2, KN w0 D f (heN D.fs.length f x fr k ((T, b, c), d, e, g)) nb cb rb qb G2 v K w' ∧ StN (FK nb cb rb G v K) (FK nb cb rb G2 v K) w w' := by
  obtain ⟨W0, hW0⟩ : ∃ W0, W0 = w.alloc (.cells (icv k T b c d e g co) 38) := ⟨_, rfl⟩
  have hb0 : Below w.heap.size w W0 := by rw [hW0]; exact al w _
  have h0 := h.below hb0
  have hlt := h.lt
  have bx : W0.heap[w.heap.size]? = some (.cells (icv k T b c d e g co) 38 (0, 0)) := by rw [hW0]; exact (MapKept.heap_alloc w _).1
  have nF : ¬ FK nb cb rb G v K w.heap.size := fun g => by have := hlt _ g; omega
  have HS : Hid (∀ G2 W, StN (FK nb cb rb G v K) (FK nb cb rb G2 v K) W0 W → StN (FK nb cb rb G v K) (FK nb cb rb G2 v K) w W) := fun G2 W hs => StN.after hb0 hlt hs
  obtain ⟨n0, n1, n2, n3, n4, n5, n6, n7, n8⟩ := h0.cells
  have k0 : W0.cell? ⟨w.heap.size, 0, none⟩ = some (.int .i64 k) := cellN bx 0
  have k1 : W0.cell? ⟨w.heap.size, 1, none⟩ = some (.int .i64 T) := cellN bx 1
  have k2 : W0.cell? ⟨w.heap.size, 2, none⟩ = some (.int .i64 b) := cellN bx 2
  have k3 : W0.cell? ⟨w.heap.size, 3, none⟩ = some (.int .i64 c) := cellN bx 3
  have k4 : W0.cell? ⟨w.heap.size, 4, none⟩ = some (.int .i64 d) := cellN bx 4
  have k5 : W0.cell? ⟨w.heap.size, 5, none⟩ = some (.int .i64 e) := cellN bx 5
  have k6 : W0.cell? ⟨w.heap.size, 6, none⟩ = some (.int .i64 g) := cellN bx 6
  have HX : Hid (∀ W, Fr (FK nb cb rb G v K) W0 W → W.heap[w.heap.size]? = some (.cells (icv k T b c d e g co) 38 (0, 0))) := fun W hf => (hf.block _ (Array.getElem?_eq_some_iff.1 bx).1 nF).trans bx
  have H0 : Hid (KN w0 D f x nb cb rb qb G v K W0) := h0
  simp only [icv] at hW0
  clear h bx nF h0
  by_cases e2 : k = 2
  · have d2 : (k == 2) = true := by simpa using e2
    have eE : heE D.fs.length f x fr k ((T, b, c), d, e, g) = C.hrE D.fs.length f x.c fr T := by unfold heE; rw [if_pos e2]
    have eN : heN D.fs.length f x fr k ((T, b, c), d, e, g) = { x with c := C.hrC D.fs.length f x.c fr T } := by unfold heN; rw [if_pos e2]
    rw [eE, eN]
    clear eE eN e2
    have HC : Hid (Calls Try.prog 20 #[.pointer (some ⟨cb, 0, none⟩), .int .i64 fr, .int .i64 T] W0.drew fun en w' => en = .returned (.int .i64 (C.hrE D.fs.length f x.c fr T)) ∧ KN w0 D f { x with c := C.hrC D.fs.length f x.c fr T } nb cb rb qb G v K w' ∧ Fr (FK nb cb rb G v K) W0 w') := by
      have hd : KN w0 D f x nb cb rb qb G v K W0.drew := H0.out.below ((Below.refl _ _).drew)
      exact (C.hear_any hd.ck fr T hfr).mono fun en w' ⟨he, hc, hf⟩ => by
        obtain ⟨r1, r2⟩ := hd.ckw hc hf (fun k e => .inr e)
        exact ⟨he, r1, ⟨r2.os, r2.tape, r2.output, r2.size, r2.block⟩⟩
    obtain ⟨E, hE⟩ : ∃ E, C.hrE D.fs.length f x.c fr T = E := ⟨_, rfl⟩
    rw [hE] at HC ⊢
    clear hE
    go_enter Try.func9, Try.ntmps9
    go_wp2
    rw [← hW0]
    clear hW0
    go_region_held3 (fun w' => w'.cell? ⟨nb, 0, none⟩ = some (.pointer (some ⟨cb, 0, none⟩)) ∧ w'.cell? ⟨w.heap.size, 1, none⟩ = some (.int .i64 T)) (first | (go_keep; done) | exact Hid.out KEEP) (first
      | (go_at_call 20; refine (Hid.out HC).mono ?_; rintro en w3 ⟨rfl, h3, f3⟩; have H3 : Hid _ := h3; have F3 : Hid _ := f3; have KEEP : Hid _ := And.intro h3.cells.1 (cellN (Hid.out HX _ f3) 1); clear h3 f3 HC))
    go_wp2
    go_ret
    exact ⟨rfl, G, H3.out, HS.out G _ ⟨F3.out, fun k g => .inl g⟩⟩
  · have d2 : (k == 2) = false := by simpa using e2
    by_cases e0 : k = 0
    · have d0 : (k == 0) = true := by simpa using e0
      have HM := knhearM H0.out fr T b c d e g hfr hm
      rw [← e0] at HM
      obtain ⟨E, hE⟩ : ∃ E, heE D.fs.length f x fr k ((T, b, c), d, e, g) = E := ⟨_, rfl⟩
      rw [hE] at HM ⊢
      clear hE e2 e0
      rw [hW0] at HM k0 k1 k2 k3 k4 k5 k6
      go_enter Try.func9, Try.ntmps9
      go_wp2_with (go_at_call 21; refine HM.mono ?_; rintro en w3 ⟨rfl, G2, h3, s3⟩; have H3 : Hid _ := And.intro h3 s3; clear h3 s3 HM)
      go_ret
      rw [← hW0] at H3
      exact ⟨rfl, G2, H3.out.1, HS.out G2 _ H3.out.2⟩
    · have d0 : (k == 0) = false := by simpa using e0
      have eE : heE D.fs.length f x fr k ((T, b, c), d, e, g) = 130 := by unfold heE; rw [if_neg e2, if_neg e0]
      have eN : heN D.fs.length f x fr k ((T, b, c), d, e, g) = x := by unfold heN; rw [if_neg e2, if_neg (fun g => e0 g.1)]
      rw [eE, eN]
      clear eE eN e2 e0
      go_enter Try.func9, Try.ntmps9
      go_wp2
      go_ret
      rw [← hW0]
      exact ⟨rfl, G, H0.out, HS.out G _ (StN.below (Below.refl _ _))⟩

set_option maxHeartbeats 4000000 in
theorem kntell {w0 : World} {D : Wd} {f : Nat} {x : Nd} {nb cb rb qb : Nat} {G : Nat → Prop} {v : Value} {K : Nat → Bool} {w : World} (h : KN w0 D f x nb cb rb qb G v K w) :
    Calls Try.prog 13 #[.pointer (some ⟨nb, 0, none⟩)] w fun en w' => en = .returned (.tuple #[.int .i64 (teT D f x), .bool (teB D f x)]) ∧ KN w0 D f (teN D f x) nb cb rb qb G v K w' ∧ StN (FK nb cb rb G v K) (FK nb cb rb G v K) w w' := by
  obtain ⟨n0, n1, n2, n3, n4, n5, n6, n7, n8⟩ := h.cells
  have F := Q.first_any h.qu
  obtain ⟨m, hm⟩ : ∃ m, x.q.headD Q.zeroM = m := ⟨_, rfl⟩
  obtain ⟨E, hE⟩ : ∃ E, (!x.q.isEmpty) = E := ⟨_, rfl⟩
  have hft : ft x = if E = false then 1125899906842624 else m.1.1 := by unfold ft hd; rw [hm, ← hE]; cases x.q.isEmpty <;> rfl
  rw [hm, hE] at F
  obtain ⟨⟨T, m2, m3⟩, m4, m5, m6⟩ := m
  dsimp only [Q.mv] at F hft
  obtain ⟨FF, hFF⟩ : ∃ FF, nthF D.fs f = FF := ⟨_, rfl⟩
  obtain ⟨A, hA⟩ : ∃ A, ft x = A := ⟨_, rfl⟩
  obtain ⟨t1, ht1⟩ : ∃ t1, teT D f x = t1 := ⟨_, rfl⟩
  obtain ⟨b1, hb1⟩ : ∃ b1, teB D f x = b1 := ⟨_, rfl⟩
  have HTL : Hid (∀ W, Below w.heap.size w W → Calls Try.prog 28 #[.pointer (some ⟨cb, 0, none⟩), .int .i64 A, .int .i64 FF.lk] W fun en w' => en = .returned (.tuple #[.int .i64 t1, .bool b1]) ∧ KN w0 D f (teN D f x) nb cb rb qb G v K w' ∧ Fr (FK nb cb rb G v K) w w') := fun W hb => by
    have hd := h.below hb
    have := C.tell_any hd.ck A FF.lk
    rw [← hA, ← hFF] at this
    change Calls _ _ _ _ (fun e w' => e = .returned (.tuple #[.int .i64 (teT D f x), .bool (teB D f x)]) ∧ C.PC D.fs.length f x.c (teT D f x) cb rb w' ∧ C.Fr (fun k => k = cb) W w') at this
    rw [ht1, hb1, hA, hFF] at this
    refine this.mono fun en w' ⟨he, hc, hf⟩ => ?_
    obtain ⟨r1, r2⟩ := hd.ckw hc hf (fun k e => .inl e)
    refine ⟨he, ?_, (Fr.of_below hb).then r2⟩
    have e : teN D f x = { x with c := x.c, t := t1 } := by unfold teN; rw [ht1]
    rw [e]
    exact r1
  have HP : Hid (∀ W, Below w.heap.size w W → KN w0 D f x nb cb rb qb G v K W) := fun W hb => h.below hb
  have HFE : Hid (∀ W, Below w.heap.size w W → Calls Try.prog 24 #[.pointer (some ⟨nb, 0, none⟩)] W fun e w' => e = .returned (.agg #[.int .i64 FF.kd, .int .i64 FF.lk, .int .i64 FF.st, .slice FF.ra FF.rs.length FF.rc, .slice FF.pa FF.ps.length FF.pc, .slice FF.sa FF.ss.length FF.sc, .slice FF.ia FF.is.length FF.ic]) ∧ Below W.heap.size W w') := fun W hb => by
    have := knfed (HP.out W hb)
    rw [hFF] at this
    exact this
  have hfd : ∀ w : World, (Instr.field 65 (.agg #[.int .i64 FF.kd, .int .i64 FF.lk, .int .i64 FF.st, .slice FF.ra FF.rs.length FF.rc, .slice FF.pa FF.ps.length FF.pc, .slice FF.sa FF.ss.length FF.sc, .slice FF.ia FF.is.length FF.ic]) 1).run Try.prog w = .ok (.int .i64 FF.lk) w := fun _ => by kernel_rfl
  rw [ht1, hb1]
  have HB0 : Hid (∀ w1, Below w.heap.size w w1 → Below w.heap.size w (w1.alloc (.cells #[.int .i64 T, .int .i64 m2, .int .i64 m3, .int .i64 m4, .int .i64 m5, .int .i64 m6] 36)) ∧ (w1.alloc (.cells #[.int .i64 T, .int .i64 m2, .int .i64 m3, .int .i64 m4, .int .i64 m5, .int .i64 m6] 36)).cell? ⟨w1.heap.size, 0, none⟩ = some (.int .i64 T)) := fun w1 b1 => ⟨b1.trans ((al w1 _).mono b1.size), cellN (MapKept.heap_alloc w1 _).1 0⟩
  clear hm hE h ht1 hb1 hFF
  cases E
  · rw [if_pos rfl] at hft
    rw [hft] at hA
    subst hA
    clear hft
    go_enter Try.func13, Try.ntmps13
    go_wp2_with (go_at_call 27; refine F.mono ?_; rintro e w1 ⟨rfl, b1⟩; obtain ⟨hb, k0⟩ := Hid.out HB0 _ b1; have HB : Hid _ := hb; obtain ⟨y0, y1, y2, y3, y4, y5, y6, y7, y8⟩ := (Hid.out HP _ hb).cells; clear b1 F hb)
    go_region_held3 (fun w' => w'.cell? ⟨nb, 0, none⟩ = some (.pointer (some ⟨cb, 0, none⟩))) (first | (go_keep; done) | exact Hid.out KEEP2 | exact Hid.out KEEP) (first
      | (go_at_call 24; refine (Hid.out HFE _ ((Hid.out HB).drew)).mono ?_; rintro en w2 ⟨rfl, b2⟩; have hb2 := ((Hid.out HB).drew).trans (b2.mono (Hid.out HB).size); have HB2 : Hid _ := hb2; have KEEP : Hid _ := (Hid.out HP _ hb2).cells.1; clear b2 hb2)
      | (go_at_call 28; refine (Hid.out HTL _ (Hid.out HB2)).mono ?_; rintro en w3 ⟨rfl, h3, f3⟩; have H3 : Hid _ := And.intro h3 f3; have KEEP2 : Hid _ := h3.cells.1; clear h3 f3 HTL))
    go_wp2
    go_ret2
    exact ⟨rfl, H3.out.1, H3.out.2, fun k g => .inl g⟩
  · rw [if_neg (by decide)] at hft
    rw [hft] at hA
    subst hA
    clear hft
    go_enter Try.func13, Try.ntmps13
    go_wp2_with (go_at_call 27; refine F.mono ?_; rintro e w1 ⟨rfl, b1⟩; obtain ⟨hb, k0⟩ := Hid.out HB0 _ b1; have HB : Hid _ := hb; obtain ⟨y0, y1, y2, y3, y4, y5, y6, y7, y8⟩ := (Hid.out HP _ hb).cells; clear b1 F hb)
    go_region_held3 (fun w' => w'.cell? ⟨nb, 0, none⟩ = some (.pointer (some ⟨cb, 0, none⟩))) (first | (go_keep; done) | exact Hid.out KEEP2 | exact Hid.out KEEP) (first
      | (go_at_call 24; refine (Hid.out HFE _ ((Hid.out HB).drew)).mono ?_; rintro en w2 ⟨rfl, b2⟩; have hb2 := ((Hid.out HB).drew).trans (b2.mono (Hid.out HB).size); have HB2 : Hid _ := hb2; have KEEP : Hid _ := (Hid.out HP _ hb2).cells.1; clear b2 hb2)
      | (go_at_call 28; refine (Hid.out HTL _ (Hid.out HB2)).mono ?_; rintro en w3 ⟨rfl, h3, f3⟩; have H3 : Hid _ := And.intro h3 f3; have KEEP2 : Hid _ := h3.cells.1; clear h3 f3 HTL))
    go_wp2
    go_ret2
    exact ⟨rfl, H3.out.1, H3.out.2, fun k g => .inl g⟩
end Go.Proofs.Ytkodjioofkdepaa
