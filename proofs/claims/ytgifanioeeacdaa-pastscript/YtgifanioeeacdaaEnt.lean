/- Proved: entries as plain data, how they lie in memory, and what a past is: its entries in the order of their keys, its floor. -/
import Derived.Test.YtgifanioeeacdaaRow
import Derived.Test.YtgifanioeeacdaaKey
namespace Go.Proofs.Ytgifanioeeacdaa
open Go.RowKit Go.Shelf Go.Sort
set_option linter.unusedVariables false

def cM : Cd M := ⟨enc, 6, ((0, 0, 0), 0, 0, 0), enc_len, enc_one, by decide⟩
def encK (k : K) : List Value := [.int .i64 k.1, .int .i64 k.2.1, .int .i64 k.2.2]
def cK : Cd K := ⟨encK, 3, (0, 0, 0), fun _ => rfl, fun x v hv => by simp [encK] at hv; rcases hv with rfl | rfl | rfl <;> rfl, by decide⟩
/-- An entry: its message, the state and how many were sent ahead of it, the state behind it, what it sent. -/
structure P where
  m : M
  ah : Int
  se : Int
  st : Int
  os : List M
/-- An entry, and where what it sent lies. -/
structure E where
  p : P
  oa : Option Addr
  oc : Nat
def encE (x : E) : List Value := [.int .i64 x.p.m.1.1, .int .i64 x.p.m.1.2.1, .int .i64 x.p.m.1.2.2, .int .i64 x.p.m.2.1, .int .i64 x.p.m.2.2.1, .int .i64 x.p.m.2.2.2, .int .i64 x.p.ah, .int .i64 x.p.se, .int .i64 x.p.st, .slice x.oa x.p.os.length x.oc]
abbrev ev (x : E) : Value := .agg #[.int .i64 x.p.m.1.1, .int .i64 x.p.m.1.2.1, .int .i64 x.p.m.1.2.2, .int .i64 x.p.m.2.1, .int .i64 x.p.m.2.2.1, .int .i64 x.p.m.2.2.2, .int .i64 x.p.ah, .int .i64 x.p.se, .int .i64 x.p.st, .slice x.oa x.p.os.length x.oc]
abbrev ecs (x : E) : Array Value := #[.int .i64 x.p.m.1.1, .int .i64 x.p.m.1.2.1, .int .i64 x.p.m.1.2.2, .int .i64 x.p.m.2.1, .int .i64 x.p.m.2.2.1, .int .i64 x.p.m.2.2.2, .int .i64 x.p.ah, .int .i64 x.p.se, .int .i64 x.p.st, .slice x.oa x.p.os.length x.oc]
def p0 : P := ⟨((0, 0, 0), 0, 0, 0), 0, 0, 0, []⟩
def e0 : E := ⟨p0, none, 0⟩
theorem encE_one (x : E) : ∀ v ∈ encE x, v.oneCell' = true := by
  intro v hv
  simp [encE] at hv
  rcases hv with rfl | rfl | rfl | rfl | rfl | rfl | rfl | rfl | rfl | rfl <;> rfl
def cE : Cd E := ⟨encE, 10, e0, fun _ => rfl, encE_one, by decide⟩
def nthP (L : List P) (i : Nat) : P := L.getD i p0
theorem nthP_map {l : List E} {i : Nat} : nthP (l.map E.p) i = (nth cE l i).p := by
  unfold nthP nth
  by_cases h : i < l.length
  · simp [h]
  · simp [List.getElem?_eq_none (show l.length ≤ i by omega)]
    rfl
theorem nthP_mem {L : List P} {i : Nat} (h : i < L.length) : nthP L i ∈ L := by simp [nthP, h]
/-- What an entry sent can be read, in a block of N. -/
def Out (N : Nat → Prop) (W : World) (x : E) : Prop := RdN cM N W x.oa x.p.os ∧ x.p.os.length ≤ 20
theorem Out.keep {N N' S : Nat → Prop} {W W' : World} {x : E} (h : Out N W x) (hf : Fr S W W') (hN : ∀ k, k < W.heap.size → N k → ¬ S k ∧ N' k) : Out N' W' x := ⟨h.1.keep hf hN, h.2⟩
theorem Out.below {N : Nat → Prop} {W W' : World} {x : E} (h : Out N W x) (hb : Below W.heap.size W W') : Out N W' x := ⟨h.1.below hb, h.2⟩
theorem Out.wide {N N' : Nat → Prop} {W : World} {x : E} (h : Out N W x) (hN : ∀ k, k < W.heap.size → N k → N' k) : Out N' W x := ⟨h.1.wide hN, h.2⟩
def tyM : Ty cM 32 31 := ⟨.agg #[.int .i64 0, .int .i64 0, .int .i64 0, .int .i64 0, .int .i64 0, .int .i64 0], 48, Try.underlying32, by kernel_rfl, rfl, by decide⟩
def tyK : Ty cK 52 29 := ⟨.agg #[.int .i64 0, .int .i64 0, .int .i64 0], 24, Try.underlying52, by kernel_rfl, rfl, by decide⟩
def tyE : Ty cE 42 34 := ⟨.agg #[.int .i64 0, .int .i64 0, .int .i64 0, .int .i64 0, .int .i64 0, .int .i64 0, .int .i64 0, .int .i64 0, .int .i64 0, .slice none 0 0], 96, Try.underlying42, by kernel_rfl, rfl, by decide⟩
/-- The cells of an entry of a slice. -/
theorem RdN.entry {N : Nat → Prop} {W : World} {a : Option Addr} {l : List E} (h : RdN cE N W a l) {i : Nat} (hi : i < l.length) {x : E} (hx : nth cE l i = x) :
    ∃ b off, a = some ⟨b, off, none⟩ ∧ b < W.heap.size ∧ N b ∧ W.cell? ⟨b, off + i * 10, none⟩ = some (.int .i64 x.p.m.1.1) ∧ W.cell? ⟨b, off + i * 10 + 1, none⟩ = some (.int .i64 x.p.m.1.2.1) ∧ W.cell? ⟨b, off + i * 10 + 2, none⟩ = some (.int .i64 x.p.m.1.2.2) ∧ W.cell? ⟨b, off + i * 10 + 3, none⟩ = some (.int .i64 x.p.m.2.1) ∧ W.cell? ⟨b, off + i * 10 + 4, none⟩ = some (.int .i64 x.p.m.2.2.1) ∧ W.cell? ⟨b, off + i * 10 + 5, none⟩ = some (.int .i64 x.p.m.2.2.2) ∧ W.cell? ⟨b, off + i * 10 + 6, none⟩ = some (.int .i64 x.p.ah) ∧ W.cell? ⟨b, off + i * 10 + 7, none⟩ = some (.int .i64 x.p.se) ∧ W.cell? ⟨b, off + i * 10 + 8, none⟩ = some (.int .i64 x.p.st) ∧ W.cell? ⟨b, off + i * 10 + 9, none⟩ = some (.slice x.oa x.p.os.length x.oc) := by
  obtain ⟨b, off, rfl, hB, hb, hc⟩ := h (by intro e; simp [e] at hi)
  subst hx
  have g := hc i hi
  exact ⟨b, off, rfl, hB, hb, g 0 (by decide), g 1 (by decide), g 2 (by decide), g 3 (by decide), g 4 (by decide), g 5 (by decide), g 6 (by decide), g 7 (by decide), g 8 (by decide), g 9 (by decide)⟩
/-- The cells of an entry of a row of one's own: its block begins at 0. -/
theorem OwR.entry {e : TypeId} {W : World} {a : Option Addr} {n c : Nat} {l : List E} (h : OwR cE e W (.slice a n c) l) {i : Nat} (hi : i < l.length) {x : E} (hx : nth cE l i = x) :
    ∃ g, a = some ⟨g, 0, none⟩ ∧ g < W.heap.size ∧ W.cell? ⟨g, i * 10, none⟩ = some (.int .i64 x.p.m.1.1) ∧ W.cell? ⟨g, i * 10 + 1, none⟩ = some (.int .i64 x.p.m.1.2.1) ∧ W.cell? ⟨g, i * 10 + 2, none⟩ = some (.int .i64 x.p.m.1.2.2) ∧ W.cell? ⟨g, i * 10 + 3, none⟩ = some (.int .i64 x.p.m.2.1) ∧ W.cell? ⟨g, i * 10 + 4, none⟩ = some (.int .i64 x.p.m.2.2.1) ∧ W.cell? ⟨g, i * 10 + 5, none⟩ = some (.int .i64 x.p.m.2.2.2) ∧ W.cell? ⟨g, i * 10 + 6, none⟩ = some (.int .i64 x.p.ah) ∧ W.cell? ⟨g, i * 10 + 7, none⟩ = some (.int .i64 x.p.se) ∧ W.cell? ⟨g, i * 10 + 8, none⟩ = some (.int .i64 x.p.st) ∧ W.cell? ⟨g, i * 10 + 9, none⟩ = some (.slice x.oa x.p.os.length x.oc) := by
  rcases h.2 with ⟨e, hn⟩ | ⟨g, cap, cur, e, _, hg, _⟩
  · rw [List.length_eq_zero_iff.1 hn] at hi
    simp at hi
  · simp at e
    obtain ⟨rfl, rfl, rfl⟩ := e
    obtain ⟨b, off, e, hB, _, hc⟩ := h.look.2.entry hi hx
    rcases h.2 with ⟨e', _⟩ | ⟨g', cap', cur', e', _, hg', _⟩
    · simp at e'
    · have h0 := h
      have cc : ∀ c, c < 10 → W.cell? ⟨g, i * 10 + c, none⟩ = (encE (nth cE l i))[c]? := fun c hc => by
        have e1 := flat_get cE l i c hi hc
        have e2 := World.ownsRow.cellAt h0 (i * 10 + c) (by show i * 10 + c < l.length * 10; omega)
        exact e2.trans e1
      subst hx
      exact ⟨g, rfl, (Array.getElem?_eq_some_iff.1 hg).1, cc 0 (by decide), cc 1 (by decide), cc 2 (by decide), cc 3 (by decide), cc 4 (by decide), cc 5 (by decide), cc 6 (by decide), cc 7 (by decide), cc 8 (by decide), cc 9 (by decide)⟩

/-! ### What a past is -/
def SrtP (L : List P) : Prop := L.Pairwise (fun a b => klt a.m.1 b.m.1 = true)
/-- Its own blocks. -/
def D (b : Nat) (v : Value) (k : Nat) : Prop := k = b ∨ v.ownBlock = some k
/-- A past at block b, whose entries l lie in v; X: blocks that are others'. -/
structure PQ (X : Nat → Prop) (W : World) (fl : Int) (l : List E) (b : Nat) (v : Value) : Prop where
  blk : W.heap[b]? = some (.cells #[v, .int .i64 fl] 65 (0, 0))
  row : OwR cE 34 W v l
  nb : v.ownBlock ≠ some b
  xb : ¬ X b
  xv : ∀ k, v.ownBlock = some k → ¬ X k
  xl : ∀ k, X k → k < W.heap.size
  outs : ∀ x ∈ l, Out (fun k => ¬ X k ∧ ¬ D b v k) W x
  cap : l.length ≤ 64
theorem PQ.lt {X : Nat → Prop} {W : World} {fl : Int} {l : List E} {b : Nat} {v : Value} (h : PQ X W fl l b v) : b < W.heap.size := (Array.getElem?_eq_some_iff.1 h.blk).1
theorem PQ.dlt {X : Nat → Prop} {W : World} {fl : Int} {l : List E} {b : Nat} {v : Value} (h : PQ X W fl l b v) {k : Nat} (hk : D b v k) : k < W.heap.size := by
  rcases hk with rfl | hk
  · exact h.lt
  · exact h.row.lt hk
theorem PQ.dx {X : Nat → Prop} {W : World} {fl : Int} {l : List E} {b : Nat} {v : Value} (h : PQ X W fl l b v) {k : Nat} (hk : D b v k) : ¬ X k := by
  rcases hk with rfl | hk
  · exact h.xb
  · exact h.xv k hk
theorem cellB {W : World} {b : Nat} {cs : Array Value} {t : TypeId} {f : Nat × Nat} (h : W.heap[b]? = some (.cells cs t f)) (i : Nat) : W.cell? ⟨b, i, none⟩ = cs[i]? := by simp [World.cell?, h]
theorem PQ.c0 {X : Nat → Prop} {W : World} {fl : Int} {l : List E} {b : Nat} {v : Value} (h : PQ X W fl l b v) : W.cell? ⟨b, 0, none⟩ = some v := cellB h.blk 0
theorem PQ.c1 {X : Nat → Prop} {W : World} {fl : Int} {l : List E} {b : Nat} {v : Value} (h : PQ X W fl l b v) : W.cell? ⟨b, 1, none⟩ = some (.int .i64 fl) := cellB h.blk 1
theorem PQ.froz {X : Nat → Prop} {W : World} {fl : Int} {l : List E} {b : Nat} {v : Value} (h : PQ X W fl l b v) (i : Nat) : W.frozen? ⟨b, i, none⟩ = false := by simp [World.frozen?, h.blk]
theorem PQ.keep {X X' S : Nat → Prop} {W W' : World} {fl : Int} {l : List E} {b : Nat} {v : Value} (h : PQ X W fl l b v) (hf : Fr S W W') (hS : ∀ k, S k → X k) (hX : ∀ k, k < W.heap.size → X' k → X k) (hl : ∀ k, X' k → k < W'.heap.size) : PQ X' W' fl l b v :=
  ⟨(hf.block b h.lt (fun e => h.xb (hS _ e))).trans h.blk, h.row.keep hf (fun g e s => h.xv g e (hS _ s)), h.nb, fun e => h.xb (hX _ h.lt e), fun k e s => h.xv k e (hX k (h.row.lt e) s), hl,
    fun x hx => (h.outs x hx).keep hf (fun k hk g => ⟨fun s => g.1 (hS k s), fun e => g.1 (hX k hk e), g.2⟩), h.cap⟩
theorem PQ.below {X : Nat → Prop} {W W' : World} {fl : Int} {l : List E} {b : Nat} {v : Value} (h : PQ X W fl l b v) (hb : Below W.heap.size W W') : PQ X W' fl l b v :=
  h.keep (Fr.of_below (S := fun _ => False) hb) (fun _ e => e.elim) (fun _ _ e => e) (fun k e => Nat.lt_of_lt_of_le (h.xl k e) hb.size)
/-- The same, told by what was done alone. -/
def PP (X : Nat → Prop) (W : World) (fl : Int) (L : List P) (b : Nat) (v : Value) : Prop := ∃ l, l.map E.p = L ∧ PQ X W fl l b v ∧ SrtP L
theorem PP.keep {X X' S : Nat → Prop} {W W' : World} {fl : Int} {L : List P} {b : Nat} {v : Value} (h : PP X W fl L b v) (hf : Fr S W W') (hS : ∀ k, S k → X k) (hX : ∀ k, k < W.heap.size → X' k → X k) (hl : ∀ k, X' k → k < W'.heap.size) : PP X' W' fl L b v := by
  obtain ⟨l, e, hq, hs⟩ := h
  exact ⟨l, e, hq.keep hf hS hX hl, hs⟩
theorem PP.below {X : Nat → Prop} {W W' : World} {fl : Int} {L : List P} {b : Nat} {v : Value} (h : PP X W fl L b v) (hb : Below W.heap.size W W') : PP X W' fl L b v := by
  obtain ⟨l, e, hq, hs⟩ := h
  exact ⟨l, e, hq.below hb, hs⟩
/-- Entries that were taken out, in blocks that are no more the past's. -/
def Gon (N : Nat → Prop) (W : World) (a : Option Addr) (L : List P) : Prop := ∃ l, l.map E.p = L ∧ RdN cE N W a l ∧ ∀ x ∈ l, Out N W x
theorem Gon.keep {N N' S : Nat → Prop} {W W' : World} {a : Option Addr} {L : List P} (h : Gon N W a L) (hf : Fr S W W') (hN : ∀ k, k < W.heap.size → N k → ¬ S k ∧ N' k) : Gon N' W' a L := by
  obtain ⟨l, e, hr, ho⟩ := h
  exact ⟨l, e, hr.keep hf hN, fun x hx => (ho x hx).keep hf hN⟩
theorem Gon.below {N : Nat → Prop} {W W' : World} {a : Option Addr} {L : List P} (h : Gon N W a L) (hb : Below W.heap.size W W') : Gon N W' a L := h.keep (Fr.of_below (S := fun _ => False) hb) (fun _ _ g => ⟨fun e => e, g⟩)
/-- What a push answers. -/
def pushE (fl : Int) (L : List P) (e : P) : Int :=
  if e.m.1.1 < fl then 110 else if 0 < L.length ∧ klt (nthP L (L.length - 1)).m.1 e.m.1 = false then 130 else if 64 ≤ L.length then 2 else 0
def pushL (fl : Int) (L : List P) (e : P) : List P := if pushE fl L e = 0 then L ++ [e] else L
def bef (k : K) (x : P) : Bool := klt x.m.1 k
def low (t : Int) (x : P) : Bool := decide (x.m.1.1 < t)
end Go.Proofs.Ytgifanioeeacdaa
