/- Joined: the texts that follow, each with its own sentence. -/
import Derived.Test.YtadmojehemdoaaaGreatShw
import Derived.Test.YtadmojehemdoaaaGreatMsk
import Derived.Test.YtadmojehemdoaaaGreatJRn
import Derived.Test.YtadmojehemdoaaaGreatJSs
/- Proved: the program's node and the document's beside each other. -/
namespace Go.Proofs.YtadmojehemdoaaaGreat
open Go.RowKit Go.Shelf
set_option linter.unusedVariables false
set_option maxRecDepth 100000

theorem dB_no {F : Nat → Prop} {k : Nat} : @decide (F k) (Classical.propDecidable (F k)) = false ↔ ¬ F k := by simp
/-- The first n blocks of a world. -/
def cutW (n : Nat) (W : World) : World := { W with heap := W.heap.extract 0 n }
theorem cutW_size {n : Nat} {W : World} (h : n ≤ W.heap.size) : (cutW n W).heap.size = n := by simp [cutW]; omega
theorem cutW_get {n : Nat} {W : World} {k : Nat} (hk : k < n) : (cutW n W).heap[k]? = W.heap[k]? := by
  simp only [cutW, Array.getElem?_extract]
  simp
  intro h
  omega
theorem cutW_below {n : Nat} {W : World} (h : n ≤ W.heap.size) : Below (cutW n W).heap.size (cutW n W) W := by
  refine ⟨rfl, rfl, rfl, by rw [cutW_size h]; exact h, fun k hk => ?_⟩
  rw [cutW_size h] at hk
  exact (cutW_get hk).symm
/-- Another object beside the document's node is written. -/
theorem RN.other {S S2 : Nat → Prop} {w0 : World} {D : Wd} {f : Nat} {x : Nd} {nb cb rb qb : Nat} {G : Nat → Prop} {v : Value} {W W2 : World} (h : RN w0 D f x nb cb rb qb G v W) (hm : Ww (mask (fun k => @decide (S k) (Classical.propDecidable (S k))) w0) D) (hf : Fr S W W2) (hs : ∀ k, FN nb cb rb G v k → ¬ S k) (h2 : ∀ k, S2 k → S k ∨ W.heap.size ≤ k) :
    ∃ w1, RN w1 D f x nb cb rb qb G v W2 ∧ Ww (mask (fun k => @decide (S2 k) (Classical.propDecidable (S2 k))) w1) D ∧ w1.heap.size = w0.heap.size := by
  have hn : w0.heap.size ≤ W.heap.size := h.bel.size
  have hn2 : w0.heap.size ≤ W2.heap.size := Nat.le_trans hn hf.size
  have hsz := cutW_size (n := w0.heap.size) (W := W2) hn2
  have hblk : ∀ k, k < w0.heap.size → ¬ S k → (cutW w0.heap.size W2).heap[k]? = w0.heap[k]? := fun k hk hS => (cutW_get hk).trans ((hf.block k (by omega) hS).trans (h.bel.block k hk))
  have s1 : Sub (mask (fun k => @decide (S k) (Classical.propDecidable (S k))) w0) (cutW w0.heap.size W2) := sub_of_mask (by rw [hsz]; exact Nat.le_refl _) (fun k hk hS => hblk k hk (dB_no.1 hS))
  have s2 : Sub (mask (fun k => @decide (S k) (Classical.propDecidable (S k))) w0) (mask (fun k => @decide (S2 k) (Classical.propDecidable (S2 k))) (cutW w0.heap.size W2)) := sub_mask (by rw [hsz]; exact Nat.le_refl _) (fun k hk hS => ⟨dB_no.2 (fun g => by rcases h2 k g with e | e; exact dB_no.1 hS e; omega), hblk k hk (dB_no.1 hS)⟩)
  refine ⟨cutW w0.heap.size W2, ?_, hm.sub s2, hsz⟩
  refine ⟨hm.sub s1, cutW_below hn2, (hf.block nb (h.lt nb (.inl rfl)) (hs nb (.inl rfl))).trans h.blk, h.ck.keep hf.toC (hs cb (.inr (.inl rfl))) (hs rb (.inr (.inr (.inl rfl)))), h.qu.keep hf.toQ (fun k g => hs k (.inr (.inr (.inr (.inl g))))), ?_, ?_, h.a1, h.a2, h.a3, h.a4, h.a5, h.a6, h.a7, h.a8, h.a9, h.hf, h.ok, h.s0, h.s1⟩
  · rw [hsz]; exact own_keep h.lg hf (fun k g => hs k (.inr (.inr (.inr (.inr g)))))
  · rw [hsz]; exact h.lo
structure Tw (PN : World → Wd → Nat → Nd → Nat → (Nat → Prop) → World → Prop) (w wp : World) (D1 D2 : Wd) (f : Nat) (x y : Nd) (nb mb : Nat) (F H : Nat → Prop) (W : World) : Prop where
  pn : PN wp D1 f x nb F W
  bp : Below w.heap.size w wp
  rn : ∃ wr cb rb qb G v, RN wr D2 f y mb cb rb qb G v W ∧ H = FN mb cb rb G v ∧ Ww (mask (fun k => @decide (F k) (Classical.propDecidable (F k))) wr) D2 ∧ wp.heap.size ≤ wr.heap.size
  sep : ∀ k, F k → ¬ H k
theorem Tw.bel {PN : World → Wd → Nat → Nd → Nat → (Nat → Prop) → World → Prop} (face : Face PN) {w wp : World} {D1 D2 : Wd} {f : Nat} {x y : Nd} {nb mb : Nat} {F H : Nat → Prop} {W : World} (h : Tw PN w wp D1 D2 f x y nb mb F H W) : Below w.heap.size w W := h.bp.trans ((face.bel h.pn).mono h.bp.size)
theorem Tw.lt {PN : World → Wd → Nat → Nd → Nat → (Nat → Prop) → World → Prop} (face : Face PN) {w wp : World} {D1 D2 : Wd} {f : Nat} {x y : Nd} {nb mb : Nat} {F H : Nat → Prop} {W : World} (h : Tw PN w wp D1 D2 f x y nb mb F H W) : ∀ k, F k ∨ H k → k < W.heap.size := by
  obtain ⟨wr, cb, rb, qb, G, v, hr, e, _⟩ := h.rn
  rintro k (g | g)
  · exact face.lt h.pn k g
  · rw [e] at g; exact hr.lt k g
theorem Tw.on {PN : World → Wd → Nat → Nd → Nat → (Nat → Prop) → World → Prop} (face : Face PN) {w wp : World} {D1 D2 : Wd} {f : Nat} {x y : Nd} {nb mb : Nat} {F H : Nat → Prop} {W W2 : World} (h : Tw PN w wp D1 D2 f x y nb mb F H W) (hb : Below W.heap.size W W2) : Tw PN w wp D1 D2 f x y nb mb F H W2 := by
  obtain ⟨wr, cb, rb, qb, G, v, hr, e, hm, hs⟩ := h.rn
  exact ⟨face.below h.pn hb, h.bp, ⟨wr, cb, rb, qb, G, v, hr.below hb, e, hm, hs⟩, h.sep⟩
theorem Tw.pstep {PN : World → Wd → Nat → Nd → Nat → (Nat → Prop) → World → Prop} (face : Face PN) {w wp : World} {D1 D2 : Wd} {f : Nat} {x x2 y : Nd} {nb mb : Nat} {F F2 H : Nat → Prop} {W W2 : World} (h : Tw PN w wp D1 D2 f x y nb mb F H W) (hp : PN wp D1 f x2 nb F2 W2) (hs : StN F F2 W W2) : Tw PN w wp D1 D2 f x2 y nb mb F2 H W2 := by
  have hlt := h.lt face
  obtain ⟨wr, cb, rb, qb, G, v, hr, rfl, hm, hsz⟩ := h.rn
  obtain ⟨w1, r1, r2, r3⟩ := hr.other hm hs.1 (fun k g e => h.sep k e g) hs.2
  refine ⟨hp, h.bp, ⟨w1, cb, rb, qb, G, v, r1, rfl, r2, by omega⟩, fun k g e => ?_⟩
  rcases hs.2 k g with q | q
  · exact h.sep k q e
  · have := hlt k (.inr e); omega
theorem Tw.rstep {PN : World → Wd → Nat → Nd → Nat → (Nat → Prop) → World → Prop} (face : Face PN) {w wp : World} {D1 D2 : Wd} {f : Nat} {x y y2 : Nd} {nb mb : Nat} {F H : Nat → Prop} {W W2 : World} (h : Tw PN w wp D1 D2 f x y nb mb F H W) {wr : World} {cb rb qb : Nat} {G : Nat → Prop} {v : Value} (hr : RN wr D2 f y2 mb cb rb qb G v W2) (hlo : ∀ k, H k → wp.heap.size ≤ k) (hm : Ww (mask (fun k => @decide (F k) (Classical.propDecidable (F k))) wr) D2) (hsz : wp.heap.size ≤ wr.heap.size) (hs : StN H (FN mb cb rb G v) W W2) : Tw PN w wp D1 D2 f x y2 nb mb F (FN mb cb rb G v) W2 := by
  have hlt := h.lt face
  refine ⟨face.keep h.pn hs.1 h.sep hlo, h.bp, ⟨wr, cb, rb, qb, G, v, hr, rfl, hm, hsz⟩, fun k g e => ?_⟩
  rcases hs.2 k e with q | q
  · exact h.sep k g q
  · have := hlt k (.inl g); omega
/-! ### The calls -/
theorem Tw.phear {PN : World → Wd → Nat → Nd → Nat → (Nat → Prop) → World → Prop} (face : Face PN) {w wp : World} {D1 D2 : Wd} {f : Nat} {x y : Nd} {nb mb : Nat} {F H : Nat → Prop} {W : World} (h : Tw PN w wp D1 D2 f x y nb mb F H W) (fr k co T b c d e g : Int) (h1 : wfI fr) (h2 : Q.mwf ((T, b, c), d, e, g)) :
    Calls Tryz.prog 11 #[.pointer (some ⟨nb, 0, none⟩), .int .i64 fr, .agg (icv k T b c d e g co)] W fun en w' => ∃ F2, en = .returned (.int .i64 (heE D1.fs.length f x fr k ((T, b, c), d, e, g))) ∧ Tw PN w wp D1 D2 f (heN D1.fs.length f x fr k ((T, b, c), d, e, g)) y nb mb F2 H w' ∧ Fr F W w' :=
  (face.hear h.pn fr k co T b c d e g h1 h2).mono fun en w' ⟨F2, he, hp, hs⟩ => ⟨F2, he, h.pstep face hp hs, hs.1⟩
theorem Tw.rhear {PN : World → Wd → Nat → Nd → Nat → (Nat → Prop) → World → Prop} (face : Face PN) {w wp : World} {D1 D2 : Wd} {f : Nat} {x y : Nd} {nb mb : Nat} {F H : Nat → Prop} {W : World} (h : Tw PN w wp D1 D2 f x y nb mb F H W) (fr k co T b c d e g : Int) :
    Calls Tryz.prog 12 #[.pointer (some ⟨mb, 0, none⟩), .int .i64 fr, .agg (icv k T b c d e g co)] W fun en w' => ∃ H2, en = .returned (.int .i64 (heE D2.fs.length f y fr k ((T, b, c), d, e, g))) ∧ Tw PN w wp D1 D2 f x (heN D2.fs.length f y fr k ((T, b, c), d, e, g)) nb mb F H2 w' ∧ Fr H W w' := by
  obtain ⟨wr, cb, rb, qb, G, v, hr, rfl, hm, hsz⟩ := h.rn
  exact (rnhear hr fr k co T b c d e g).mono fun en w' ⟨he, G2, hp, hs⟩ => ⟨_, he, h.rstep face hp (fun k g => Nat.le_trans hsz (hr.lo k g)) hm hsz hs, hs.1⟩
theorem Tw.psafe {PN : World → Wd → Nat → Nd → Nat → (Nat → Prop) → World → Prop} (face : Face PN) {w wp : World} {D1 D2 : Wd} {f : Nat} {x y : Nd} {nb mb : Nat} {F H : Nat → Prop} {W : World} (h : Tw PN w wp D1 D2 f x y nb mb F H W) :
    Calls Tryz.prog 18 #[.pointer (some ⟨nb, 0, none⟩)] W fun en w' => en = .returned (.bool (safe D1 f x)) ∧ Tw PN w wp D1 D2 f x y nb mb F H w' ∧ Below W.heap.size W w' := (face.safe h.pn).mono fun en w' ⟨he, hb⟩ => ⟨he, h.on face hb, hb⟩
theorem Tw.rsafe {PN : World → Wd → Nat → Nd → Nat → (Nat → Prop) → World → Prop} (face : Face PN) {w wp : World} {D1 D2 : Wd} {f : Nat} {x y : Nd} {nb mb : Nat} {F H : Nat → Prop} {W : World} (h : Tw PN w wp D1 D2 f x y nb mb F H W) :
    Calls Tryz.prog 19 #[.pointer (some ⟨mb, 0, none⟩)] W fun en w' => en = .returned (.bool (safe D2 f y)) ∧ Tw PN w wp D1 D2 f x y nb mb F H w' ∧ Below W.heap.size W w' := by
  obtain ⟨wr, cb, rb, qb, G, v, hr, rfl, hm, hsz⟩ := h.rn
  exact (rnsafe hr).mono fun en w' ⟨he, hb⟩ => ⟨he, h.on face hb, hb⟩
theorem Tw.pbound {PN : World → Wd → Nat → Nd → Nat → (Nat → Prop) → World → Prop} (face : Face PN) {w wp : World} {D1 D2 : Wd} {f : Nat} {x y : Nd} {nb mb : Nat} {F H : Nat → Prop} {W : World} (h : Tw PN w wp D1 D2 f x y nb mb F H W) : ∃ cb, W.cell? ⟨nb, 0, none⟩ = some (.pointer (some ⟨cb, 0, none⟩)) ∧
    Calls Tryz.prog 22 #[.pointer (some ⟨cb, 0, none⟩)] W fun en w' => en = .returned (.int .i64 (C.bnd D1.fs.length f x.c)) ∧ Tw PN w wp D1 D2 f x y nb mb F H w' ∧ Below W.heap.size W w' := by
  obtain ⟨cb, h1, h2⟩ := face.bound h.pn
  exact ⟨cb, h1, h2.mono fun en w' ⟨he, hb⟩ => ⟨he, h.on face hb, hb⟩⟩
theorem Tw.rbound {PN : World → Wd → Nat → Nd → Nat → (Nat → Prop) → World → Prop} (face : Face PN) {w wp : World} {D1 D2 : Wd} {f : Nat} {x y : Nd} {nb mb : Nat} {F H : Nat → Prop} {W : World} (h : Tw PN w wp D1 D2 f x y nb mb F H W) :
    Calls Tryz.prog 23 #[.pointer (some ⟨mb, 0, none⟩)] W fun en w' => en = .returned (.int .i64 (C.bnd D2.fs.length f y.c)) ∧ W = w' := by
  obtain ⟨wr, cb, rb, qb, G, v, hr, rfl, hm, hsz⟩ := h.rn
  exact rnbound hr
theorem Tw.rstate {PN : World → Wd → Nat → Nd → Nat → (Nat → Prop) → World → Prop} {w wp : World} {D1 D2 : Wd} {f : Nat} {x y : Nd} {nb mb : Nat} {F H : Nat → Prop} {W : World} (h : Tw PN w wp D1 D2 f x y nb mb F H W) :
    Calls Tryz.prog 21 #[.pointer (some ⟨mb, 0, none⟩)] W fun en w' => en = .returned (.int .i64 y.st) ∧ W = w' := by
  obtain ⟨wr, cb, rb, qb, G, v, hr, rfl, hm, hsz⟩ := h.rn
  exact rnstate hr
theorem Tw.pwaiting {PN : World → Wd → Nat → Nd → Nat → (Nat → Prop) → World → Prop} (face : FaceW PN) {w wp : World} {D1 D2 : Wd} {f : Nat} {x y : Nd} {nb mb : Nat} {F H : Nat → Prop} {W : World} (h : Tw PN w wp D1 D2 f x y nb mb F H W) :
    Calls Tryz.prog 24 #[.pointer (some ⟨nb, 0, none⟩)] W fun en w' => ∃ a c, en = .returned (.slice a x.q.length c) ∧ Q.Own w' (.slice a x.q.length c) x.q ∧ (∀ k, (Value.slice a x.q.length c).ownBlock = some k → W.heap.size ≤ k) ∧ Tw PN w wp D1 D2 f x y nb mb F H w' ∧ Below W.heap.size W w' :=
  (face.waiting h.pn).mono fun en w' ⟨a, c, he, ho, hk, hb⟩ => ⟨a, c, he, ho, hk, h.on face.toFace hb, hb⟩
theorem Tw.rwaiting {PN : World → Wd → Nat → Nd → Nat → (Nat → Prop) → World → Prop} (face : Face PN) {w wp : World} {D1 D2 : Wd} {f : Nat} {x y : Nd} {nb mb : Nat} {F H : Nat → Prop} {W : World} (h : Tw PN w wp D1 D2 f x y nb mb F H W) :
    Calls Tryz.prog 25 #[.pointer (some ⟨mb, 0, none⟩)] W fun en w' => ∃ u, en = .returned u ∧ Q.Own w' u y.q ∧ Tw PN w wp D1 D2 f x y nb mb F H w' ∧ Below W.heap.size W w' := by
  obtain ⟨wr, cb, rb, qb, G, v, hr, rfl, hm, hsz⟩ := h.rn
  exact (rnwaiting hr).mono fun en w' ⟨u, he, ho, _, hb⟩ => ⟨u, he, ho, h.on face hb, hb⟩
theorem Tw.ptell {PN : World → Wd → Nat → Nd → Nat → (Nat → Prop) → World → Prop} (face : Face PN) {w wp : World} {D1 D2 : Wd} {f : Nat} {x y : Nd} {nb mb : Nat} {F H : Nat → Prop} {W : World} (h : Tw PN w wp D1 D2 f x y nb mb F H W) :
    Calls Tryz.prog 16 #[.pointer (some ⟨nb, 0, none⟩)] W fun en w' => ∃ F2, en = .returned (.tuple #[.int .i64 (teT D1 f x), .bool (teB D1 f x)]) ∧ Tw PN w wp D1 D2 f (teN D1 f x) y nb mb F2 H w' :=
  (face.tell h.pn).mono fun en w' ⟨F2, he, hp, hs⟩ => ⟨F2, he, h.pstep face hp hs⟩
theorem Tw.rtell {PN : World → Wd → Nat → Nd → Nat → (Nat → Prop) → World → Prop} (face : Face PN) {w wp : World} {D1 D2 : Wd} {f : Nat} {x y : Nd} {nb mb : Nat} {F H : Nat → Prop} {W : World} (h : Tw PN w wp D1 D2 f x y nb mb F H W) :
    Calls Tryz.prog 17 #[.pointer (some ⟨mb, 0, none⟩)] W fun en w' => ∃ H2, en = .returned (.tuple #[.int .i64 (teT D2 f y), .bool (teB D2 f y)]) ∧ Tw PN w wp D1 D2 f x (teN D2 f y) nb mb F H2 w' := by
  obtain ⟨wr, cb, rb, qb, G, v, hr, rfl, hm, hsz⟩ := h.rn
  exact (rntell hr).mono fun en w' ⟨he, hp, hs⟩ => ⟨_, he, h.rstep face hp (fun k g => Nat.le_trans hsz (hr.lo k g)) hm hsz hs⟩
theorem Tw.pidle {PN : World → Wd → Nat → Nd → Nat → (Nat → Prop) → World → Prop} (face : Face PN) {w wp : World} {D1 D2 : Wd} {f : Nat} {x y : Nd} {nb mb : Nat} {F H : Nat → Prop} {W : World} (h : Tw PN w wp D1 D2 f x y nb mb F H W) (hs : safe D1 f x = false) :
    Calls Tryz.prog 13 #[.pointer (some ⟨nb, 0, none⟩)] W fun en w' => en = .returned (.tuple #[dv zeroD, .slice none 0 0, .int .i64 150]) ∧ Tw PN w wp D1 D2 f x y nb mb F H w' :=
  (face.idle h.pn hs).mono fun en w' ⟨he, hb⟩ => ⟨he, h.on face hb⟩
theorem Tw.ridle {PN : World → Wd → Nat → Nd → Nat → (Nat → Prop) → World → Prop} (face : Face PN) {w wp : World} {D1 D2 : Wd} {f : Nat} {x y : Nd} {nb mb : Nat} {F H : Nat → Prop} {W : World} (h : Tw PN w wp D1 D2 f x y nb mb F H W) (hs : safe D2 f y = false) :
    Calls Tryz.prog 14 #[.pointer (some ⟨mb, 0, none⟩)] W fun en w' => en = .returned (.tuple #[dv zeroD, .slice none 0 0, .int .i64 150]) ∧ Tw PN w wp D1 D2 f x y nb mb F H w' := by
  obtain ⟨wr, cb, rb, qb, G, v, hr, rfl, hm, hsz⟩ := h.rn
  exact (rnstep_idle hr hs).mono fun en w' ⟨he, hb⟩ => ⟨he, h.on face hb⟩
theorem Tw.pgo {PN : World → Wd → Nat → Nd → Nat → (Nat → Prop) → World → Prop} (face : Face PN) {w wp : World} {D1 D2 : Wd} {f : Nat} {x y : Nd} {nb mb : Nat} {F H : Nat → Prop} {W : World} (h : Tw PN w wp D1 D2 f x y nb mb F H W) (hs : safe D1 f x = true) (h1 : x.sn ≤ 900000) (h2 : x.lg.length ≤ 10000) :
    Calls Tryz.prog 13 #[.pointer (some ⟨nb, 0, none⟩)] W fun en w' => ∃ va vc F2, en = .returned (.tuple #[dv (spD D1 f x), .slice va (spM D1 f x).length vc, .int .i64 0]) ∧ w'.ownsRow W.heap.size 39 6 (.slice va (spM D1 f x).length vc) (spM D1 f x).length (flatM (spM D1 f x)) ∧ Tw PN w wp D1 D2 f (spN D1 f x) y nb mb F2 H w' ∧ W.heap.size ≤ w'.heap.size :=
  (face.step h.pn hs h1 h2).mono fun en w' ⟨va, vc, F2, he, ho, _, hp, hst⟩ => ⟨va, vc, F2, he, ho, h.pstep face hp hst, hst.1.size⟩
theorem Tw.rgo {PN : World → Wd → Nat → Nd → Nat → (Nat → Prop) → World → Prop} (face : Face PN) {w wp : World} {D1 D2 : Wd} {f : Nat} {x y : Nd} {nb mb : Nat} {F H : Nat → Prop} {W : World} (h : Tw PN w wp D1 D2 f x y nb mb F H W) (hs : safe D2 f y = true) (h1 : y.sn ≤ 900000) (h2 : y.lg.length ≤ 10000) :
    Calls Tryz.prog 14 #[.pointer (some ⟨mb, 0, none⟩)] W fun en w' => ∃ vm H2, en = .returned (.tuple #[dv (spD D2 f y), vm, .int .i64 0]) ∧ w'.ownsRow W.heap.size 39 6 vm (spM D2 f y).length (flatM (spM D2 f y)) ∧ Tw PN w wp D1 D2 f x (spN D2 f y) nb mb F H2 w' ∧ Fr H W w' := by
  obtain ⟨wr, cb, rb, qb, G, v, hr, rfl, hm, hsz⟩ := h.rn
  exact (rnstep_go hr hs h1 h2).mono fun en w' ⟨vm, G2, v2, he, ho, _, hp, hst⟩ => ⟨vm, _, he, ho, h.rstep face hp (fun k g => Nat.le_trans hsz (hr.lo k g)) hm hsz hst, hst.1⟩
theorem Tw.plog {PN : World → Wd → Nat → Nd → Nat → (Nat → Prop) → World → Prop} (face : Face PN) {w wp : World} {D1 D2 : Wd} {f : Nat} {x y : Nd} {nb mb : Nat} {F H : Nat → Prop} {W : World} (h : Tw PN w wp D1 D2 f x y nb mb F H W) (hl : x.lg.length ≤ 10000) :
    Calls Tryz.prog 27 #[.pointer (some ⟨nb, 0, none⟩)] W fun en w' => ∃ a c, en = .returned (.slice a x.lg.length c) ∧ RdD w' a x.lg ∧ Tw PN w wp D1 D2 f x y nb mb F H w' ∧ Below W.heap.size W w' :=
  (face.log h.pn hl).mono fun en w' ⟨a, c, he, hr, hb⟩ => ⟨a, c, he, rdD_row hr, h.on face hb, hb⟩
theorem Tw.rlog {PN : World → Wd → Nat → Nd → Nat → (Nat → Prop) → World → Prop} (face : Face PN) {w wp : World} {D1 D2 : Wd} {f : Nat} {x y : Nd} {nb mb : Nat} {F H : Nat → Prop} {W : World} (h : Tw PN w wp D1 D2 f x y nb mb F H W) (hl : y.lg.length ≤ 10000) :
    Calls Tryz.prog 28 #[.pointer (some ⟨mb, 0, none⟩)] W fun en w' => ∃ a c, en = .returned (.slice a y.lg.length c) ∧ RdD w' a y.lg ∧ Tw PN w wp D1 D2 f x y nb mb F H w' ∧ Below W.heap.size W w' := by
  obtain ⟨wr, cb, rb, qb, G, v, hr, rfl, hm, hsz⟩ := h.rn
  exact (rnlog hr hl).mono fun en w' ⟨a, c, he, hro, hb⟩ => ⟨a, c, he, rdD_row hro, h.on face hb, hb⟩
/-- The document's node is made behind the program's. -/
theorem Tw.new {PN : World → Wd → Nat → Nd → Nat → (Nat → Prop) → World → Prop} (face : Face PN) {w wp W : World} {D1 D2 : Wd} {f : Nat} {x : Nd} {nb : Nat} {F : Nat → Prop} (hp : PN wp D1 f x nb F W) (hb : Below w.heap.size w wp) (hm : Ww (mask (fun k => @decide (F k) (Classical.propDecidable (F k))) W) D2) (hw : wldE D2 = (-1, 0)) (hf : f < D2.fs.length) (hk : (nthF D2.fs f).kd = 0) :
    Calls Tryz.prog 10 #[wv D2, .int .i64 (f : Int)] W fun en w' => ∃ mb H, en = .returned (.tuple #[.pointer (some ⟨mb, 0, none⟩), .int .i64 0]) ∧ Tw PN w wp D1 D2 f x (nd0 D2 f) nb mb F H w' := by
  have hW : Ww W D2 := hm.sub (sub_of_mask (Nat.le_refl _) (fun k _ _ => rfl))
  refine (rnnew_ok W D2 f hW hw hf hk).mono fun en w' ⟨mb, cb, rb, qb, G, he, hr⟩ => ⟨mb, _, he, face.below hp hr.bel, hb, ⟨W, cb, rb, qb, G, _, hr, rfl, hm, (face.bel hp).size⟩, fun k g e => ?_⟩
  have h1 := face.lt hp k g
  have h2 := hr.lo k e
  omega
end Go.Proofs.YtadmojehemdoaaaGreat
/- Proved: the contract of the statements' echo, with where its federation lies. -/
namespace Go.Proofs.YtadmojehemdoaaaGreat
open Go.RowKit Go.Shelf
set_option linter.unusedVariables false
set_option maxRecDepth 100000

theorem ec_made2 (w : World) (S : Nat → Bool) (hS : ∀ k, w.heap.size < k → S k = false) : Ww (mask S (((((((((w.alloc (.cells #[.slice (some ⟨w.heap.size + 1 + 1 + 1, 0, none⟩) 1 1, .slice (some ⟨w.heap.size + 1 + 1 + 1 + 1 + 1 + 1 + 1 + 1, 0, none⟩) 3 3, .int .i64 100] 25)).alloc (.cells #[.int .i64 0, .int .i64 2, .int .i64 1] 104)).alloc (.cells #[.int .i64 0, .int .i64 0, .int .i64 0, .slice (some ⟨w.heap.size + 1, 0, none⟩) 1 1] 73)).alloc (.cells #[.int .i64 (-1)] 3)).alloc (.cells #[.int .i64 0] 3)).alloc (.cells #[.int .i64 0] 3)).alloc (.cells #[.int .i64 0] 3)).alloc (.cells #[.int .i64 0] 3)).alloc (.cells #[.int .i64 0, .int .i64 2, .int .i64 0, .slice (some ⟨w.heap.size + 1 + 1, 0, none⟩) 1 1, .slice (some ⟨w.heap.size + 1 + 1 + 1 + 1, 0, none⟩) 1 1, .slice (some ⟨w.heap.size + 1 + 1 + 1 + 1 + 1, 0, none⟩) 1 1, .slice none 0 0, .int .i64 0, .int .i64 1, .int .i64 0, .slice none 0 0, .slice (some ⟨w.heap.size + 1 + 1 + 1 + 1 + 1 + 1, 0, none⟩) 1 1, .slice (some ⟨w.heap.size + 1 + 1 + 1 + 1 + 1 + 1 + 1, 0, none⟩) 1 1, .slice none 0 0, .int .i64 0, .int .i64 1, .int .i64 0, .slice none 0 0, .slice none 0 0, .slice none 0 0, .slice none 0 0] 71))) (ecD w.heap.size) ∧ Below w.heap.size w (((((((((w.alloc (.cells #[.slice (some ⟨w.heap.size + 1 + 1 + 1, 0, none⟩) 1 1, .slice (some ⟨w.heap.size + 1 + 1 + 1 + 1 + 1 + 1 + 1 + 1, 0, none⟩) 3 3, .int .i64 100] 25)).alloc (.cells #[.int .i64 0, .int .i64 2, .int .i64 1] 104)).alloc (.cells #[.int .i64 0, .int .i64 0, .int .i64 0, .slice (some ⟨w.heap.size + 1, 0, none⟩) 1 1] 73)).alloc (.cells #[.int .i64 (-1)] 3)).alloc (.cells #[.int .i64 0] 3)).alloc (.cells #[.int .i64 0] 3)).alloc (.cells #[.int .i64 0] 3)).alloc (.cells #[.int .i64 0] 3)).alloc (.cells #[.int .i64 0, .int .i64 2, .int .i64 0, .slice (some ⟨w.heap.size + 1 + 1, 0, none⟩) 1 1, .slice (some ⟨w.heap.size + 1 + 1 + 1 + 1, 0, none⟩) 1 1, .slice (some ⟨w.heap.size + 1 + 1 + 1 + 1 + 1, 0, none⟩) 1 1, .slice none 0 0, .int .i64 0, .int .i64 1, .int .i64 0, .slice none 0 0, .slice (some ⟨w.heap.size + 1 + 1 + 1 + 1 + 1 + 1, 0, none⟩) 1 1, .slice (some ⟨w.heap.size + 1 + 1 + 1 + 1 + 1 + 1 + 1, 0, none⟩) 1 1, .slice none 0 0, .int .i64 0, .int .i64 1, .int .i64 0, .slice none 0 0, .slice none 0 0, .slice none 0 0, .slice none 0 0] 71)) ∧ (((((((((w.alloc (.cells #[.slice (some ⟨w.heap.size + 1 + 1 + 1, 0, none⟩) 1 1, .slice (some ⟨w.heap.size + 1 + 1 + 1 + 1 + 1 + 1 + 1 + 1, 0, none⟩) 3 3, .int .i64 100] 25)).alloc (.cells #[.int .i64 0, .int .i64 2, .int .i64 1] 104)).alloc (.cells #[.int .i64 0, .int .i64 0, .int .i64 0, .slice (some ⟨w.heap.size + 1, 0, none⟩) 1 1] 73)).alloc (.cells #[.int .i64 (-1)] 3)).alloc (.cells #[.int .i64 0] 3)).alloc (.cells #[.int .i64 0] 3)).alloc (.cells #[.int .i64 0] 3)).alloc (.cells #[.int .i64 0] 3)).alloc (.cells #[.int .i64 0, .int .i64 2, .int .i64 0, .slice (some ⟨w.heap.size + 1 + 1, 0, none⟩) 1 1, .slice (some ⟨w.heap.size + 1 + 1 + 1 + 1, 0, none⟩) 1 1, .slice (some ⟨w.heap.size + 1 + 1 + 1 + 1 + 1, 0, none⟩) 1 1, .slice none 0 0, .int .i64 0, .int .i64 1, .int .i64 0, .slice none 0 0, .slice (some ⟨w.heap.size + 1 + 1 + 1 + 1 + 1 + 1, 0, none⟩) 1 1, .slice (some ⟨w.heap.size + 1 + 1 + 1 + 1 + 1 + 1 + 1, 0, none⟩) 1 1, .slice none 0 0, .int .i64 0, .int .i64 1, .int .i64 0, .slice none 0 0, .slice none 0 0, .slice none 0 0, .slice none 0 0] 71)).heap[w.heap.size]? = some (.cells #[.slice (some ⟨w.heap.size + 1 + 1 + 1, 0, none⟩) 1 1, .slice (some ⟨w.heap.size + 1 + 1 + 1 + 1 + 1 + 1 + 1 + 1, 0, none⟩) 3 3, .int .i64 100] 25 (0, 0)) := by
  obtain ⟨w1, e1⟩ : ∃ w1, w1 = w.alloc (.cells #[.slice (some ⟨w.heap.size + 1 + 1 + 1, 0, none⟩) 1 1, .slice (some ⟨w.heap.size + 1 + 1 + 1 + 1 + 1 + 1 + 1 + 1, 0, none⟩) 3 3, .int .i64 100] 25) := ⟨_, rfl⟩
  have s1 : w1.heap.size = w.heap.size + 1 := by rw [e1]; simp
  have b1 : Below w.heap.size w w1 := by rw [e1]; exact al _ _
  have n1 : w1.heap[w.heap.size]? = some (.cells #[.slice (some ⟨w.heap.size + 1 + 1 + 1, 0, none⟩) 1 1, .slice (some ⟨w.heap.size + 1 + 1 + 1 + 1 + 1 + 1 + 1 + 1, 0, none⟩) 3 3, .int .i64 100] 25 (0, 0)) := by rw [e1]; exact (MapKept.heap_alloc _ _).1
  obtain ⟨w2, e2⟩ : ∃ w2, w2 = w1.alloc (.cells #[.int .i64 0, .int .i64 2, .int .i64 1] 104) := ⟨_, rfl⟩
  have s2 : w2.heap.size = w.heap.size + 1 + 1 := by rw [e2]; simp [s1]
  have b2 : Below w1.heap.size w1 w2 := by rw [e2]; exact al _ _
  have n2 : w2.heap[w.heap.size + 1]? = some (.cells #[.int .i64 0, .int .i64 2, .int .i64 1] 104 (0, 0)) := by rw [e2, ← s1]; exact (MapKept.heap_alloc _ _).1
  obtain ⟨w3, e3⟩ : ∃ w3, w3 = w2.alloc (.cells #[.int .i64 0, .int .i64 0, .int .i64 0, .slice (some ⟨w.heap.size + 1, 0, none⟩) 1 1] 73) := ⟨_, rfl⟩
  have s3 : w3.heap.size = w.heap.size + 1 + 1 + 1 := by rw [e3]; simp [s2]
  have b3 : Below w2.heap.size w2 w3 := by rw [e3]; exact al _ _
  have n3 : w3.heap[w.heap.size + 1 + 1]? = some (.cells #[.int .i64 0, .int .i64 0, .int .i64 0, .slice (some ⟨w.heap.size + 1, 0, none⟩) 1 1] 73 (0, 0)) := by rw [e3, ← s2]; exact (MapKept.heap_alloc _ _).1
  obtain ⟨w4, e4⟩ : ∃ w4, w4 = w3.alloc (.cells #[.int .i64 (-1)] 3) := ⟨_, rfl⟩
  have s4 : w4.heap.size = w.heap.size + 1 + 1 + 1 + 1 := by rw [e4]; simp [s3]
  have b4 : Below w3.heap.size w3 w4 := by rw [e4]; exact al _ _
  have n4 : w4.heap[w.heap.size + 1 + 1 + 1]? = some (.cells #[.int .i64 (-1)] 3 (0, 0)) := by rw [e4, ← s3]; exact (MapKept.heap_alloc _ _).1
  obtain ⟨w5, e5⟩ : ∃ w5, w5 = w4.alloc (.cells #[.int .i64 0] 3) := ⟨_, rfl⟩
  have s5 : w5.heap.size = w.heap.size + 1 + 1 + 1 + 1 + 1 := by rw [e5]; simp [s4]
  have b5 : Below w4.heap.size w4 w5 := by rw [e5]; exact al _ _
  have n5 : w5.heap[w.heap.size + 1 + 1 + 1 + 1]? = some (.cells #[.int .i64 0] 3 (0, 0)) := by rw [e5, ← s4]; exact (MapKept.heap_alloc _ _).1
  obtain ⟨w6, e6⟩ : ∃ w6, w6 = w5.alloc (.cells #[.int .i64 0] 3) := ⟨_, rfl⟩
  have s6 : w6.heap.size = w.heap.size + 1 + 1 + 1 + 1 + 1 + 1 := by rw [e6]; simp [s5]
  have b6 : Below w5.heap.size w5 w6 := by rw [e6]; exact al _ _
  have n6 : w6.heap[w.heap.size + 1 + 1 + 1 + 1 + 1]? = some (.cells #[.int .i64 0] 3 (0, 0)) := by rw [e6, ← s5]; exact (MapKept.heap_alloc _ _).1
  obtain ⟨w7, e7⟩ : ∃ w7, w7 = w6.alloc (.cells #[.int .i64 0] 3) := ⟨_, rfl⟩
  have s7 : w7.heap.size = w.heap.size + 1 + 1 + 1 + 1 + 1 + 1 + 1 := by rw [e7]; simp [s6]
  have b7 : Below w6.heap.size w6 w7 := by rw [e7]; exact al _ _
  have n7 : w7.heap[w.heap.size + 1 + 1 + 1 + 1 + 1 + 1]? = some (.cells #[.int .i64 0] 3 (0, 0)) := by rw [e7, ← s6]; exact (MapKept.heap_alloc _ _).1
  obtain ⟨w8, e8⟩ : ∃ w8, w8 = w7.alloc (.cells #[.int .i64 0] 3) := ⟨_, rfl⟩
  have s8 : w8.heap.size = w.heap.size + 1 + 1 + 1 + 1 + 1 + 1 + 1 + 1 := by rw [e8]; simp [s7]
  have b8 : Below w7.heap.size w7 w8 := by rw [e8]; exact al _ _
  have n8 : w8.heap[w.heap.size + 1 + 1 + 1 + 1 + 1 + 1 + 1]? = some (.cells #[.int .i64 0] 3 (0, 0)) := by rw [e8, ← s7]; exact (MapKept.heap_alloc _ _).1
  obtain ⟨w9, e9⟩ : ∃ w9, w9 = w8.alloc (.cells #[.int .i64 0, .int .i64 2, .int .i64 0, .slice (some ⟨w.heap.size + 1 + 1, 0, none⟩) 1 1, .slice (some ⟨w.heap.size + 1 + 1 + 1 + 1, 0, none⟩) 1 1, .slice (some ⟨w.heap.size + 1 + 1 + 1 + 1 + 1, 0, none⟩) 1 1, .slice none 0 0, .int .i64 0, .int .i64 1, .int .i64 0, .slice none 0 0, .slice (some ⟨w.heap.size + 1 + 1 + 1 + 1 + 1 + 1, 0, none⟩) 1 1, .slice (some ⟨w.heap.size + 1 + 1 + 1 + 1 + 1 + 1 + 1, 0, none⟩) 1 1, .slice none 0 0, .int .i64 0, .int .i64 1, .int .i64 0, .slice none 0 0, .slice none 0 0, .slice none 0 0, .slice none 0 0] 71) := ⟨_, rfl⟩
  have s9 : w9.heap.size = w.heap.size + 1 + 1 + 1 + 1 + 1 + 1 + 1 + 1 + 1 := by rw [e9]; simp [s8]
  have b9 : Below w8.heap.size w8 w9 := by rw [e9]; exact al _ _
  have n9 : w9.heap[w.heap.size + 1 + 1 + 1 + 1 + 1 + 1 + 1 + 1]? = some (.cells #[.int .i64 0, .int .i64 2, .int .i64 0, .slice (some ⟨w.heap.size + 1 + 1, 0, none⟩) 1 1, .slice (some ⟨w.heap.size + 1 + 1 + 1 + 1, 0, none⟩) 1 1, .slice (some ⟨w.heap.size + 1 + 1 + 1 + 1 + 1, 0, none⟩) 1 1, .slice none 0 0, .int .i64 0, .int .i64 1, .int .i64 0, .slice none 0 0, .slice (some ⟨w.heap.size + 1 + 1 + 1 + 1 + 1 + 1, 0, none⟩) 1 1, .slice (some ⟨w.heap.size + 1 + 1 + 1 + 1 + 1 + 1 + 1, 0, none⟩) 1 1, .slice none 0 0, .int .i64 0, .int .i64 1, .int .i64 0, .slice none 0 0, .slice none 0 0, .slice none 0 0, .slice none 0 0] 71 (0, 0)) := by rw [e9, ← s8]; exact (MapKept.heap_alloc _ _).1
  rw [← e1]
  rw [← e2]
  rw [← e3]
  rw [← e4]
  rw [← e5]
  rw [← e6]
  rw [← e7]
  rw [← e8]
  rw [← e9]
  exact ⟨ec_ww ((mask_get (hS _ (by omega))).trans ((b9.block _ (by omega)).trans ((b8.block _ (by omega)).trans ((b7.block _ (by omega)).trans ((b6.block _ (by omega)).trans ((b5.block _ (by omega)).trans ((b4.block _ (by omega)).trans ((b3.block _ (by omega)).trans n2)))))))) ((mask_get (hS _ (by omega))).trans ((b9.block _ (by omega)).trans ((b8.block _ (by omega)).trans ((b7.block _ (by omega)).trans ((b6.block _ (by omega)).trans ((b5.block _ (by omega)).trans ((b4.block _ (by omega)).trans n3))))))) ((mask_get (hS _ (by omega))).trans ((b9.block _ (by omega)).trans ((b8.block _ (by omega)).trans ((b7.block _ (by omega)).trans ((b6.block _ (by omega)).trans ((b5.block _ (by omega)).trans n4)))))) ((mask_get (hS _ (by omega))).trans ((b9.block _ (by omega)).trans ((b8.block _ (by omega)).trans ((b7.block _ (by omega)).trans ((b6.block _ (by omega)).trans n5))))) ((mask_get (hS _ (by omega))).trans ((b9.block _ (by omega)).trans ((b8.block _ (by omega)).trans ((b7.block _ (by omega)).trans n6)))) ((mask_get (hS _ (by omega))).trans ((b9.block _ (by omega)).trans ((b8.block _ (by omega)).trans n7))) ((mask_get (hS _ (by omega))).trans ((b9.block _ (by omega)).trans n8)) ((mask_get (hS _ (by omega))).trans n9), ((((((((b1.trans (b2.mono (by omega))).trans (b3.mono (by omega))).trans (b4.mono (by omega))).trans (b5.mono (by omega))).trans (b6.mono (by omega))).trans (b7.mono (by omega))).trans (b8.mono (by omega))).trans (b9.mono (by omega))), ((b9.block _ (by omega)).trans ((b8.block _ (by omega)).trans ((b7.block _ (by omega)).trans ((b6.block _ (by omega)).trans ((b5.block _ (by omega)).trans ((b4.block _ (by omega)).trans ((b3.block _ (by omega)).trans ((b2.block _ (by omega)).trans n1))))))))⟩
set_option maxHeartbeats 1000000 in
theorem echo2 (w : World) :
    Calls Tryz.prog 29 #[] w fun e w' => e = .returned (wv (ecD w.heap.size)) ∧ (∀ F : Nat → Prop, (∀ k, F k → k < w.heap.size) → Ww (mask (fun k => @decide (F k) (Classical.propDecidable (F k))) w') (ecD w.heap.size)) ∧ Below w.heap.size w w' := by
  obtain ⟨h1, h2, h3⟩ := ec_made w
  have hM := fun S hS => (ec_made2 w S hS).1
  go_enter Tryz.func29, Tryz.ntmps29
  go_wp2
  generalize hwf : World.alloc _ _ = WF
  rw [hwf] at h1 h2 h3
  simp only [hwf] at hM
  have m0 := cellN h3 0
  have m1 := cellN h3 1
  have m2 := cellN h3 2
  exact bodyPost_ret (v := wv (ecD w.heap.size)) (by simp [results, Tryz.results29, go_sem, m0, m1, m2, ecD]) rfl ⟨rfl, fun F hF => hM _ (fun k hk => dB_no.2 (fun g => by have := hF k g; omega)), h2⟩
end Go.Proofs.YtadmojehemdoaaaGreat
