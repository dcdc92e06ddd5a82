/- What the statements' walks ask of the program's node: a record of contracts, to be given by the landed code's own. -/
import Derived.Test.YtkodjioofkdepaaNpd



import Derived.Test.YtkodjioofkdepaaOpc
namespace Go.Proofs.Ytkodjioofkdepaa
open Go.RowKit Go.Shelf
set_option linter.unusedVariables false
set_option maxRecDepth 100000

/-- PN w0 D f x nb F W: in W the program's node lies at block nb, in the blocks F, behind w0; x is its plain data. -/
structure Face (PN : World → Wd → Nat → Nd → Nat → (Nat → Prop) → World → Prop) : Prop where
  lt : ∀ {w0 : World} {D : Wd} {f : Nat} {x : Nd} {nb : Nat} {F : Nat → Prop} {W : World}, PN w0 D f x nb F W → ∀ k, F k → k < W.heap.size
  lo : ∀ {w0 : World} {D : Wd} {f : Nat} {x : Nd} {nb : Nat} {F : Nat → Prop} {W : World}, PN w0 D f x nb F W → ∀ k, F k → w0.heap.size ≤ k
  bel : ∀ {w0 : World} {D : Wd} {f : Nat} {x : Nd} {nb : Nat} {F : Nat → Prop} {W : World}, PN w0 D f x nb F W → Below w0.heap.size w0 W
  keep : ∀ {S : Nat → Prop} {w0 : World} {D : Wd} {f : Nat} {x : Nd} {nb : Nat} {F : Nat → Prop} {W W2 : World}, PN w0 D f x nb F W → Fr S W W2 → (∀ k, F k → ¬ S k) → (∀ k, S k → w0.heap.size ≤ k) → PN w0 D f x nb F W2
  new : ∀ (w : World) (D : Wd) (f : Nat), Ww w D → wldE D = (-1, 0) → f < D.fs.length → (nthF D.fs f).kd = 0 →
    Calls Try.prog 6 #[wv D, .int .i64 (f : Int)] w fun en w' => ∃ nb F, en = .returned (.tuple #[.pointer (some ⟨nb, 0, none⟩), .int .i64 0]) ∧ PN w D f (nd0 D f) nb F w'
  hear : ∀ {w0 : World} {D : Wd} {f : Nat} {x : Nd} {nb : Nat} {F : Nat → Prop} {w : World}, PN w0 D f x nb F w → ∀ (fr k co T b c d e g : Int), wfI fr → Q.mwf ((T, b, c), d, e, g) →
    Calls Try.prog 9 #[.pointer (some ⟨nb, 0, none⟩), .int .i64 fr, .agg (icv k T b c d e g co)] w fun en w' => ∃ F2, en = .returned (.int .i64 (heE D.fs.length f x fr k ((T, b, c), d, e, g))) ∧ PN w0 D f (heN D.fs.length f x fr k ((T, b, c), d, e, g)) nb F2 w' ∧ StN F F2 w w'
  safe : ∀ {w0 : World} {D : Wd} {f : Nat} {x : Nd} {nb : Nat} {F : Nat → Prop} {w : World}, PN w0 D f x nb F w →
    Calls Try.prog 14 #[.pointer (some ⟨nb, 0, none⟩)] w fun en w' => en = .returned (.bool (safe D f x)) ∧ Below w.heap.size w w'
  idle : ∀ {w0 : World} {D : Wd} {f : Nat} {x : Nd} {nb : Nat} {F : Nat → Prop} {w : World}, PN w0 D f x nb F w → Go.Proofs.Ytkodjioofkdepaa.safe D f x = false →
    Calls Try.prog 10 #[.pointer (some ⟨nb, 0, none⟩)] w fun en w' => en = .returned (.tuple #[dv zeroD, .slice none 0 0, .int .i64 150]) ∧ Below w.heap.size w w'
  step : ∀ {w0 : World} {D : Wd} {f : Nat} {x : Nd} {nb : Nat} {F : Nat → Prop} {w : World}, PN w0 D f x nb F w → Go.Proofs.Ytkodjioofkdepaa.safe D f x = true → x.sn ≤ 900000 → x.lg.length ≤ 10000 →
    Calls Try.prog 10 #[.pointer (some ⟨nb, 0, none⟩)] w fun en w' => ∃ va vc F2, en = .returned (.tuple #[dv (spD D f x), .slice va (spM D f x).length vc, .int .i64 0]) ∧ w'.ownsRow w.heap.size 36 6 (.slice va (spM D f x).length vc) (spM D f x).length (flatM (spM D f x)) ∧ (∀ k, (Value.slice va (spM D f x).length vc).ownBlock = some k → ¬ F2 k) ∧ PN w0 D f (spN D f x) nb F2 w' ∧ StN F F2 w w'
  tell : ∀ {w0 : World} {D : Wd} {f : Nat} {x : Nd} {nb : Nat} {F : Nat → Prop} {w : World}, PN w0 D f x nb F w →
    Calls Try.prog 13 #[.pointer (some ⟨nb, 0, none⟩)] w fun en w' => ∃ F2, en = .returned (.tuple #[.int .i64 (teT D f x), .bool (teB D f x)]) ∧ PN w0 D f (teN D f x) nb F2 w' ∧ StN F F2 w w'
  log : ∀ {w0 : World} {D : Wd} {f : Nat} {x : Nd} {nb : Nat} {F : Nat → Prop} {w : World}, PN w0 D f x nb F w → x.lg.length ≤ 10000 →
    Calls Try.prog 11 #[.pointer (some ⟨nb, 0, none⟩)] w fun en w' => ∃ a c, en = .returned (.slice a x.lg.length c) ∧ w'.ownsRow w.heap.size 49 7 (.slice a x.lg.length c) x.lg.length (flatD x.lg) ∧ Below w.heap.size w w'
  bound : ∀ {w0 : World} {D : Wd} {f : Nat} {x : Nd} {nb : Nat} {F : Nat → Prop} {w : World}, PN w0 D f x nb F w → ∃ cb, w.cell? ⟨nb, 0, none⟩ = some (.pointer (some ⟨cb, 0, none⟩)) ∧
    Calls Try.prog 8 #[.pointer (some ⟨cb, 0, none⟩)] w fun en w' => en = .returned (.int .i64 (C.bnd D.fs.length f x.c)) ∧ Below w.heap.size w w'
theorem Face.below {PN : World → Wd → Nat → Nd → Nat → (Nat → Prop) → World → Prop} (face : Face PN) {w0 : World} {D : Wd} {f : Nat} {x : Nd} {nb : Nat} {F : Nat → Prop} {W W2 : World} (h : PN w0 D f x nb F W) (hb : Below W.heap.size W W2) : PN w0 D f x nb F W2 :=
  face.keep h (Fr.of_below (S := fun _ => False) hb) (fun _ _ g => g) (fun _ g => g.elim)
/-- The small federation's first node, in a statement whose world was w. -/
structure Ec (PN : World → Wd → Nat → Nd → Nat → (Nat → Prop) → World → Prop) (w w0 : World) (s : Nat) (x : Nd) (nb : Nat) (F : Nat → Prop) (W : World) : Prop where
  pn : PN w0 (ecD s) 0 x nb F W
  b : Below w.heap.size w w0
theorem Ec.bel {PN : World → Wd → Nat → Nd → Nat → (Nat → Prop) → World → Prop} (face : Face PN) {w w0 : World} {s : Nat} {x : Nd} {nb : Nat} {F : Nat → Prop} {W : World} (h : Ec PN w w0 s x nb F W) : Below w.heap.size w W := h.b.trans ((face.bel h.pn).mono h.b.size)
theorem Ec.on {PN : World → Wd → Nat → Nd → Nat → (Nat → Prop) → World → Prop} (face : Face PN) {w w0 : World} {s : Nat} {x : Nd} {nb : Nat} {F : Nat → Prop} {W W2 : World} (h : Ec PN w w0 s x nb F W) (hb : Below W.heap.size W W2) : Ec PN w w0 s x nb F W2 := ⟨face.below h.pn hb, h.b⟩
theorem Ec.drewN {PN : World → Wd → Nat → Nd → Nat → (Nat → Prop) → World → Prop} (face : Face PN) {w w0 : World} {s : Nat} {x : Nd} {nb : Nat} {F : Nat → Prop} {W : World} (h : Ec PN w w0 s x nb F W) (n : Nat) : Ec PN w w0 s x nb F (W.drewN n) := h.on face ⟨rfl, rfl, rfl, Nat.le_refl _, fun _ _ => rfl⟩
theorem Ec.drew {PN : World → Wd → Nat → Nd → Nat → (Nat → Prop) → World → Prop} (face : Face PN) {w w0 : World} {s : Nat} {x : Nd} {nb : Nat} {F : Nat → Prop} {W : World} (h : Ec PN w w0 s x nb F W) : Ec PN w w0 s x nb F W.drew := h.on face (below_drew W)
theorem Ec.hear {PN : World → Wd → Nat → Nd → Nat → (Nat → Prop) → World → Prop} (face : Face PN) {w w0 : World} {s : Nat} {x : Nd} {nb : Nat} {F : Nat → Prop} {W : World} (h : Ec PN w w0 s x nb F W) (fr k co T b c d e g : Int) (h1 : wfI fr) (h2 : Q.mwf ((T, b, c), d, e, g)) :
    Calls Try.prog 9 #[.pointer (some ⟨nb, 0, none⟩), .int .i64 fr, .agg (icv k T b c d e g co)] W fun en w' => ∃ F2, en = .returned (.int .i64 (heE 3 0 x fr k ((T, b, c), d, e, g))) ∧ Ec PN w w0 s (heN 3 0 x fr k ((T, b, c), d, e, g)) nb F2 w' :=
  (face.hear h.pn fr k co T b c d e g h1 h2).mono fun en w' ⟨F2, he, hp, _⟩ => ⟨F2, he, hp, h.b⟩
theorem Ec.safe {PN : World → Wd → Nat → Nd → Nat → (Nat → Prop) → World → Prop} (face : Face PN) {w w0 : World} {s : Nat} {x : Nd} {nb : Nat} {F : Nat → Prop} {W : World} (h : Ec PN w w0 s x nb F W) :
    Calls Try.prog 14 #[.pointer (some ⟨nb, 0, none⟩)] W fun en w' => en = .returned (.bool (safe (ecD s) 0 x)) ∧ Ec PN w w0 s x nb F w' :=
  (face.safe h.pn).mono fun en w' ⟨he, hb⟩ => ⟨he, h.on face hb⟩
theorem Ec.idle {PN : World → Wd → Nat → Nd → Nat → (Nat → Prop) → World → Prop} (face : Face PN) {w w0 : World} {s : Nat} {x : Nd} {nb : Nat} {F : Nat → Prop} {W : World} (h : Ec PN w w0 s x nb F W) (hs : Go.Proofs.Ytkodjioofkdepaa.safe (ecD s) 0 x = false) :
    Calls Try.prog 10 #[.pointer (some ⟨nb, 0, none⟩)] W fun en w' => en = .returned (.tuple #[dv zeroD, .slice none 0 0, .int .i64 150]) ∧ Ec PN w w0 s x nb F w' :=
  (face.idle h.pn hs).mono fun en w' ⟨he, hb⟩ => ⟨he, h.on face hb⟩
theorem Ec.bound {PN : World → Wd → Nat → Nd → Nat → (Nat → Prop) → World → Prop} (face : Face PN) {w w0 : World} {s : Nat} {x : Nd} {nb : Nat} {F : Nat → Prop} {W : World} (h : Ec PN w w0 s x nb F W) : ∃ cb, W.cell? ⟨nb, 0, none⟩ = some (.pointer (some ⟨cb, 0, none⟩)) ∧
    Calls Try.prog 8 #[.pointer (some ⟨cb, 0, none⟩)] W fun en w' => en = .returned (.int .i64 (C.bnd 3 0 x.c)) ∧ Ec PN w w0 s x nb F w' := by
  obtain ⟨cb, h1, h2⟩ := face.bound h.pn
  exact ⟨cb, h1, h2.mono fun en w' ⟨he, hb⟩ => ⟨he, h.on face hb⟩⟩
theorem Ec.tell {PN : World → Wd → Nat → Nd → Nat → (Nat → Prop) → World → Prop} (face : Face PN) {w w0 : World} {s : Nat} {x : Nd} {nb : Nat} {F : Nat → Prop} {W : World} (h : Ec PN w w0 s x nb F W) :
    Calls Try.prog 13 #[.pointer (some ⟨nb, 0, none⟩)] W fun en w' => ∃ F2, en = .returned (.tuple #[.int .i64 (teT (ecD s) 0 x), .bool (teB (ecD s) 0 x)]) ∧ Ec PN w w0 s (teN (ecD s) 0 x) nb F2 w' :=
  (face.tell h.pn).mono fun en w' ⟨F2, he, hp, _⟩ => ⟨F2, he, hp, h.b⟩
theorem Ec.log {PN : World → Wd → Nat → Nd → Nat → (Nat → Prop) → World → Prop} (face : Face PN) {w w0 : World} {s : Nat} {x : Nd} {nb : Nat} {F : Nat → Prop} {W : World} (h : Ec PN w w0 s x nb F W) (hl : x.lg.length ≤ 10000) :
    Calls Try.prog 11 #[.pointer (some ⟨nb, 0, none⟩)] W fun en w' => ∃ a c, en = .returned (.slice a x.lg.length c) ∧ RdD w' a x.lg ∧ Ec PN w w0 s x nb F w' :=
  (face.log h.pn hl).mono fun en w' ⟨a, c, he, hr, hb⟩ => ⟨a, c, he, rdD_row hr, h.on face hb⟩
/-- A row of messages that can be read. -/
def RdN (W : World) (a : Option Addr) (l : List M) : Prop := ∀ i, i < l.length → ∃ b, a = some ⟨b, 0, none⟩ ∧ b < W.heap.size ∧ ∀ c, c < 6 → W.cell? ⟨b, i * 6 + c, none⟩ = (flatM l)[i * 6 + c]?
theorem RdN.below {W W2 : World} {a : Option Addr} {l : List M} (h : RdN W a l) (hb : Below W.heap.size W W2) : RdN W2 a l := fun i hi => by
  obtain ⟨b, e, h1, h2⟩ := h i hi
  exact ⟨b, e, Nat.lt_of_lt_of_le h1 hb.size, fun c hc => (hb.cell (p := ⟨b, i * 6 + c, none⟩) h1).trans (h2 c hc)⟩
theorem rdN_row {W : World} {b0 : Nat} {a : Option Addr} {c : Nat} {l : List M} (h : W.ownsRow b0 36 6 (.slice a l.length c) l.length (flatM l)) : RdN W a l := fun i hi => by
  have h0 := h
  rcases h.2 with ⟨_, hk⟩ | ⟨g, cap, cur, e, _, hg, _, _, hs, h3⟩
  · omega
  · injection e with e1 _ _
    subst e1
    refine ⟨g, rfl, (Array.getElem?_eq_some_iff.1 hg).1, fun c hc => ?_⟩
    have hj : i * 6 + c < (flatM l).length := by rw [flatM_len]; omega
    rw [World.ownsRow.cellAt h0 _ (by omega)]
theorem Ec.step {PN : World → Wd → Nat → Nd → Nat → (Nat → Prop) → World → Prop} (face : Face PN) {w w0 : World} {s : Nat} {x : Nd} {nb : Nat} {F : Nat → Prop} {W : World} (h : Ec PN w w0 s x nb F W) (hs : Go.Proofs.Ytkodjioofkdepaa.safe (ecD s) 0 x = true) (h1 : x.sn ≤ 900000) (h2 : x.lg.length ≤ 10000) :
    Calls Try.prog 10 #[.pointer (some ⟨nb, 0, none⟩)] W fun en w' => ∃ va vc F2, en = .returned (.tuple #[dv (spD (ecD s) 0 x), .slice va (spM (ecD s) 0 x).length vc, .int .i64 0]) ∧ RdN w' va (spM (ecD s) 0 x) ∧ Ec PN w w0 s (spN (ecD s) 0 x) nb F2 w' :=
  (face.step h.pn hs h1 h2).mono fun en w' ⟨va, vc, F2, he, hr, _, hp, _⟩ => ⟨va, vc, F2, he, rdN_row hr, hp, h.b⟩
theorem Ec.new {PN : World → Wd → Nat → Nd → Nat → (Nat → Prop) → World → Prop} (face : Face PN) {w W : World} {s : Nat} (hw : Ww W (ecD s)) (hb : Below w.heap.size w W) :
    Calls Try.prog 6 #[wv (ecD s), .int .i64 0] W fun en w' => ∃ nb F, en = .returned (.tuple #[.pointer (some ⟨nb, 0, none⟩), .int .i64 0]) ∧ Ec PN w W s (nd0 (ecD s) 0) nb F w' :=
  (face.new W (ecD s) 0 hw (ecD_wld s) (by rw [ecD_n]; omega) rfl).mono fun en w' ⟨nb, F, he, hp⟩ => ⟨nb, F, he, hp, hb⟩
end Go.Proofs.Ytkodjioofkdepaa
