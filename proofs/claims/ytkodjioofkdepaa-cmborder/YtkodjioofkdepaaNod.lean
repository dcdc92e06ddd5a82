/- Proved: a conservative node as plain data; what serves both nodes in memory. -/
import Derived.Test.YtkodjioofkdepaaDon
import Derived.Test.YtkodjioofkdepaaJClk
import Derived.Test.YtkodjioofkdepaaQQueue3
namespace Go.Proofs.Ytkodjioofkdepaa
open Go.RowKit Go.Shelf
set_option linter.unusedVariables false
set_option maxRecDepth 100000
/-- A node: its state, how many it sent, its clocks, what it told, what waits, what was taken. -/
structure Nd where
  st : Int
  sn : Int
  c : Int → Int
  t : Int
  q : List Q.M
  lg : List Dn
def m8 (m : Q.M) : M := ⟨m.1.1, m.1.2.1, m.1.2.2, m.2.1, m.2.2.1, m.2.2.2⟩
def nd0 (D : Wd) (f : Nat) : Nd := ⟨(nthF D.fs f).st, (nthF D.fs f).is.length, C.noC, 0, [], []⟩
def heE (n f : Nat) (x : Nd) (fr k : Int) (m : Q.M) : Int :=
  if k = 2 then C.hrE n f x.c fr m.1.1
  else if k = 0 then (if C.atC n f x.c fr < 0 then 1 else if m.1.1 < C.atC n f x.c fr then 110 else if Q.hasK x.q m.1 = true then 3 else if 64 ≤ x.q.length then 2 else 0)
  else 130
def heN (n f : Nat) (x : Nd) (fr k : Int) (m : Q.M) : Nd :=
  if k = 2 then { x with c := C.hrC n f x.c fr m.1.1 }
  else if k = 0 ∧ heE n f x fr k m = 0 then { x with q := Q.ins x.q m } else x
def hd (x : Nd) : Q.M := x.q.headD Q.zeroM
def safe (D : Wd) (f : Nat) (x : Nd) : Bool := !x.q.isEmpty && (decide ((hd x).1.1 < D.en) && decide ((hd x).1.1 < C.bnd D.fs.length f x.c))
def spS (D : Wd) (f : Nat) (x : Nd) : Int × List O := stp (nthF D.fs f).rs x.st (hd x).2.2.1
def spD (D : Wd) (f : Nat) (x : Nd) : Dn := ⟨m8 (hd x), (spS D f x).1⟩
def spM (D : Wd) (f : Nat) (x : Nd) : List M := spr D f x.sn (hd x).1.1 (hd x).2.2.2 (spS D f x).2
def spN (D : Wd) (f : Nat) (x : Nd) : Nd := { x with st := (spS D f x).1, sn := x.sn + (spS D f x).2.length, q := x.q.tail, lg := x.lg ++ [spD D f x] }
def ft (x : Nd) : Int := if x.q.isEmpty = true then 1125899906842624 else (hd x).1.1
def teT (D : Wd) (f : Nat) (x : Nd) : Int := C.tlT D.fs.length f x.c x.t (ft x) (nthF D.fs f).lk
def teB (D : Wd) (f : Nat) (x : Nd) : Bool := C.tlB D.fs.length f x.c x.t (ft x) (nthF D.fs f).lk
def teN (D : Wd) (f : Nat) (x : Nd) : Nd := { x with t := teT D f x }

theorem Fr.ofC {S : Nat → Prop} {a b : World} (h : C.Fr S a b) : Fr S a b := ⟨h.os, h.tape, h.output, h.size, h.block⟩
theorem Fr.toC {S : Nat → Prop} {a b : World} (h : Fr S a b) : C.Fr S a b := ⟨h.os, h.tape, h.output, h.size, h.block⟩
theorem Fr.ofQ {S : Nat → Prop} {a b : World} (h : Q.Fr S a b) : Fr S a b := ⟨h.os, h.tape, h.output, h.size, h.block⟩
theorem Fr.toQ {S : Nat → Prop} {a b : World} (h : Fr S a b) : Q.Fr S a b := ⟨h.os, h.tape, h.output, h.size, h.block⟩
theorem cellN {W : World} {b : Nat} {cs : Array Value} {T : TypeId} {fz : Nat × Nat} (h : W.heap[b]? = some (.cells cs T fz)) (i : Nat) : W.cell? ⟨b, i, none⟩ = cs[i]? := by simp [World.cell?, h]
theorem frN (W : World) (nb i : Nat) (u : Value) : Fr (fun k => k = nb) W (W.setCell ⟨nb, i, none⟩ u) := (Fr.refl _ W).setCell _ _ rfl
def StN (F F2 : Nat → Prop) (w w' : World) : Prop := Fr F w w' ∧ ∀ k, F2 k → F k ∨ w.heap.size ≤ k

/-- A message in a block of its own. -/
theorem box6 (w : World) (m : Q.M) (T : TypeId) (i : Nat) : (w.alloc (.cells #[.int .i64 m.1.1, .int .i64 m.1.2.1, .int .i64 m.1.2.2, .int .i64 m.2.1, .int .i64 m.2.2.1, .int .i64 m.2.2.2] T)).cell? ⟨w.heap.size, i, none⟩ = (#[.int .i64 m.1.1, .int .i64 m.1.2.1, .int .i64 m.1.2.2, .int .i64 m.2.1, .int .i64 m.2.2.1, .int .i64 m.2.2.2] : Array Value)[i]? := cellN (MapKept.heap_alloc w _).1 i

theorem StN.below {F : Nat → Prop} {w w' : World} (h : Below w.heap.size w w') : StN F F w w' := ⟨Fr.of_below h, fun k g => .inl g⟩
theorem StN.after {F F2 : Nat → Prop} {w w1 w2 : World} (h : Below w.heap.size w w1) (hF : ∀ k, F k → k < w.heap.size) (h2 : StN F F2 w1 w2) : StN F F2 w w2 :=
  ⟨(Fr.of_below h).then h2.1, fun k g => by rcases h2.2 k g with e | e; exact .inl e; exact .inr (Nat.le_trans h.size e)⟩
abbrev icv (k T b c d e g co : Int) : Array Value := #[.int .i64 k, .int .i64 T, .int .i64 b, .int .i64 c, .int .i64 d, .int .i64 e, .int .i64 g, .int .i64 co]

def zeroD : Dn := ⟨⟨0, 0, 0, 0, 0, 0⟩, 0⟩
theorem dn_cells {W : World} {A : Nat} {x : Dn} (h : W.heap[A]? = some (.cells (dcs x) 49 (0, 0))) : W.cell? ⟨A, 0, none⟩ = some (.int .i64 x.m.t) ∧ W.cell? ⟨A, 1, none⟩ = some (.int .i64 x.m.fr) ∧ W.cell? ⟨A, 2, none⟩ = some (.int .i64 x.m.sq) ∧ W.cell? ⟨A, 3, none⟩ = some (.int .i64 x.m.dst) ∧ W.cell? ⟨A, 4, none⟩ = some (.int .i64 x.m.cl) ∧ W.cell? ⟨A, 5, none⟩ = some (.int .i64 x.m.bd) ∧ W.cell? ⟨A, 6, none⟩ = some (.int .i64 x.s) ∧ ∀ j, W.frozen? ⟨A, j, none⟩ = false := by
  refine ⟨?_, ?_, ?_, ?_, ?_, ?_, ?_, fun j => ?_⟩ <;> simp [World.cell?, World.frozen?, h, dcs]
/-- A message in a block, as its six cells. -/
abbrev mc6 (T b c d e g : Int) : Array Value := #[.int .i64 T, .int .i64 b, .int .i64 c, .int .i64 d, .int .i64 e, .int .i64 g]
theorem below_drew (W : World) : Below W.heap.size W W.drew := ⟨rfl, rfl, rfl, Nat.le_refl _, fun _ _ => rfl⟩
abbrev set7 (W : World) (A : Nat) (x : Dn) : World := ((((((W.setCell ⟨A, 0, none⟩ (.int .i64 x.m.t)).setCell ⟨A, 1, none⟩ (.int .i64 x.m.fr)).setCell ⟨A, 2, none⟩ (.int .i64 x.m.sq)).setCell ⟨A, 3, none⟩ (.int .i64 x.m.dst)).setCell ⟨A, 4, none⟩ (.int .i64 x.m.cl)).setCell ⟨A, 5, none⟩ (.int .i64 x.m.bd)).setCell ⟨A, 6, none⟩ (.int .i64 x.s)
theorem set7_heap {W : World} {A : Nat} {z : Dn} (h : W.heap[A]? = some (.cells (dcs z) 49 (0, 0))) (x : Dn) : (set7 W A x).heap[A]? = some (.cells (dcs x) 49 (0, 0)) := by
  have e0 := heap_setCell_same W A 0 _ _ (.int .i64 x.m.t) h
  have e1 := heap_setCell_same _ A 1 _ _ (.int .i64 x.m.fr) e0
  have e2 := heap_setCell_same _ A 2 _ _ (.int .i64 x.m.sq) e1
  have e3 := heap_setCell_same _ A 3 _ _ (.int .i64 x.m.dst) e2
  have e4 := heap_setCell_same _ A 4 _ _ (.int .i64 x.m.cl) e3
  have e5 := heap_setCell_same _ A 5 _ _ (.int .i64 x.m.bd) e4
  have e6 := heap_setCell_same _ A 6 _ _ (.int .i64 x.s) e5
  rw [e6]
  simp [dcs]
theorem set7_fr {S : Nat → Prop} {a W : World} {A : Nat} (h : Fr S a W) (hA : S A ∨ a.heap.size ≤ A) (x : Dn) : Fr S a (set7 W A x) :=
  ((((((h.setCellN ⟨A, 0, none⟩ _ hA).setCellN ⟨A, 1, none⟩ _ hA).setCellN ⟨A, 2, none⟩ _ hA).setCellN ⟨A, 3, none⟩ _ hA).setCellN ⟨A, 4, none⟩ _ hA).setCellN ⟨A, 5, none⟩ _ hA).setCellN ⟨A, 6, none⟩ _ hA
theorem set7_below {a W : World} {A n : Nat} (h : Below n a W) (hA : n ≤ A) (x : Dn) : Below n a (set7 W A x) :=
  ((((((h.setCell (p := ⟨A, 0, none⟩) hA _).setCell (p := ⟨A, 1, none⟩) hA _).setCell (p := ⟨A, 2, none⟩) hA _).setCell (p := ⟨A, 3, none⟩) hA _).setCell (p := ⟨A, 4, none⟩) hA _).setCell (p := ⟨A, 5, none⟩) hA _).setCell (p := ⟨A, 6, none⟩) hA _

theorem stp_three {D : Wd} {w : World} (h : Ww w D) {f : Nat} (hf : f < D.fs.length) : RdR w (nthF D.fs f).ra (nthF D.fs f).rs ∧ Lt (nthF D.fs f).rs := by
  have hm : nthF D.fs f ∈ D.fs := by unfold nthF; simp [hf]
  exact ⟨(h.f.2 _ hm).r, (h.lt _ hm).r⟩
theorem own_rdO {W : World} {b0 c : Nat} {a : Option Addr} {l : List O} (h : W.ownsRow b0 69 3 (.slice a l.length c) l.length (flatO l)) : RdO W a l := by
  have h0 := h
  rcases h.2 with ⟨e, hn⟩ | ⟨g, cap, cur, e, _, hg, _⟩
  · exact fun g => absurd (List.length_eq_zero_iff.1 hn) g
  · simp at e
    obtain ⟨rfl, rfl⟩ := e
    refine fun _ => ⟨g, 0, rfl, (Array.getElem?_eq_some_iff.1 hg).1, fun i hi c hc => ?_⟩
    rw [Nat.zero_add, World.ownsRow.cellAt h0 _ (by omega), flatO_get l i c hi hc]
theorem wld_n {D : Wd} (h : wldE D = (-1, 0)) : 1 ≤ D.fs.length ∧ D.fs.length ≤ 8 := by
  have := wld_ok (N := -1) h
  exact ⟨this.2.1, this.2.2.1⟩
/-- The federation's box and its federate f, in whatever world behind. -/
theorem boxf {w : World} {D : Wd} (h : Ww w D) {f : Nat} (hf : f < D.fs.length) {F : Fd} (hF : nthF D.fs f = F) : ∃ fb off, D.fa = some ⟨fb, off, none⟩ ∧ ∀ W, Below w.heap.size w W → W.cell? ⟨fb, off + f * 7, none⟩ = some (.int .i64 F.kd) ∧ W.cell? ⟨fb, off + f * 7 + 2, none⟩ = some (.int .i64 F.st) ∧ W.cell? ⟨fb, off + f * 7 + 6, none⟩ = some (.slice F.ia F.is.length F.ic) := by
  obtain ⟨fb, off, hfa, hfb, hcs⟩ := h.f.1 (by intro e; rw [e] at hf; simp at hf)
  refine ⟨fb, off, hfa, fun W hb => ?_⟩
  have g : ∀ c, c < 7 → W.cell? ⟨fb, off + f * 7 + c, none⟩ = (encF (nthF D.fs f))[c]? := fun c hc => (hb.cell (p := ⟨fb, off + f * 7 + c, none⟩) hfb).trans (hcs f hf c hc)
  rw [hF] at g
  exact ⟨g 0 (by omega), g 2 (by omega), g 6 (by omega)⟩
end Go.Proofs.Ytkodjioofkdepaa
