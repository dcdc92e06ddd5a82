/- Joined: the texts that follow, each with its own sentence. -/
import Derived.Test.YtiaopafkfadmkaaGreatZB
set_option linter.unusedVariables false
set_option maxRecDepth 100000
namespace Go.Proofs.YtiaopafkfadmkaaGreat.A
open Go.Proofs.YtiaopafkfadmkaaGreat.B
open Go.RowKit Go.Shelf Go.Sort
def encK (k : K) : List Value := [.int .i64 k.1, .int .i64 k.2.1, .int .i64 k.2.2]
def cK : Cd K := ⟨encK, 3, (0, 0, 0), fun _ => rfl, fun x v hv => by simp [encK] at hv; rcases hv with rfl | rfl | rfl <;> rfl, by decide⟩
structure P where
 m : M
 ah : Int
 se : Int
 st : Int
 os : List M
structure E where
 p : P
 oa : Option Addr
 oc : Nat
def encE (x : E) : List Value := [.int .i64 x.p.m.1.1, .int .i64 x.p.m.1.2.1, .int .i64 x.p.m.1.2.2, .int .i64 x.p.m.2.1, .int .i64 x.p.m.2.2.1, .int .i64 x.p.m.2.2.2, .int .i64 x.p.ah, .int .i64 x.p.se, .int .i64 x.p.st, .slice x.oa x.p.os.length x.oc]
abbrev ev (x : E) : Value := .agg #[.int .i64 x.p.m.1.1, .int .i64 x.p.m.1.2.1, .int .i64 x.p.m.1.2.2, .int .i64 x.p.m.2.1, .int .i64 x.p.m.2.2.1, .int .i64 x.p.m.2.2.2, .int .i64 x.p.ah, .int .i64 x.p.se, .int .i64 x.p.st, .slice x.oa x.p.os.length x.oc]
abbrev ecs (x : E) : Array Value := #[.int .i64 x.p.m.1.1, .int .i64 x.p.m.1.2.1, .int .i64 x.p.m.1.2.2, .int .i64 x.p.m.2.1, .int .i64 x.p.m.2.2.1, .int .i64 x.p.m.2.2.2, .int .i64 x.p.ah, .int .i64 x.p.se, .int .i64 x.p.st, .slice x.oa x.p.os.length x.oc]
def p0 : P := ⟨((0, 0, 0), 0, 0, 0), 0, 0, 0, []⟩
def e0 : E := ⟨p0, none, 0⟩
theorem encE_one (x : E) : ∀ v ∈ encE x, v.oneCell' = true := by
 intro v hv
 simp [encE] at hv
 rcases hv with rfl | rfl | rfl | rfl | rfl | rfl | rfl | rfl | rfl | rfl <;> rfl
def cE : Cd E := ⟨encE, 10, e0, fun _ => rfl, encE_one, by decide⟩
def nthP (L : List P) (i : Nat) : P := L.getD i p0
theorem nthP_map {l : List E} {i : Nat} : nthP (l.map E.p) i = (nth cE l i).p := by
 unfold nthP nth
 by_cases h : i < l.length
 ·simp [h]
 ·simp [List.getElem?_eq_none (show l.length ≤ i by omega)]
  rfl
theorem nthP_mem {L : List P} {i : Nat} (h : i < L.length) : nthP L i ∈ L := by simp [nthP, h]
def Out (N : Nat → Prop) (W : World) (x : E) : Prop := RdN cM N W x.oa x.p.os ∧ x.p.os.length ≤ 64
theorem Out.keep {N N' S : Nat → Prop} {W W' : World} {x : E} (h : Out N W x) (hf : Fr S W W') (hN : ∀ k, k < W.heap.size → N k → ¬ S k ∧ N' k) : Out N' W' x := ⟨h.1.keep hf hN, h.2⟩
theorem Out.below {N : Nat → Prop} {W W' : World} {x : E} (h : Out N W x) (hb : Below W.heap.size W W') : Out N W' x := ⟨h.1.below hb, h.2⟩
theorem Out.wide {N N' : Nat → Prop} {W : World} {x : E} (h : Out N W x) (hN : ∀ k, k < W.heap.size → N k → N' k) : Out N' W x := ⟨h.1.wide hN, h.2⟩
def tyK : Ty cK 254 37 := ⟨.agg #[.int .i64 0, .int .i64 0, .int .i64 0], 24, Tryz.underlying254, by kernel_rfl, rfl, by decide⟩
def tyE : Ty cE 135 126 := ⟨.agg #[.int .i64 0, .int .i64 0, .int .i64 0, .int .i64 0, .int .i64 0, .int .i64 0, .int .i64 0, .int .i64 0, .int .i64 0, .slice none 0 0], 96, Tryz.underlying135, by kernel_rfl, rfl, by decide⟩
theorem _root_.Go.Proofs.YtiaopafkfadmkaaGreat.B.RdN.entry {N : Nat → Prop} {W : World} {a : Option Addr} {l : List E} (h : RdN cE N W a l) {i : Nat} (hi : i < l.length) {x : E} (hx : nth cE l i = x) :
  ∃ b off, a = some ⟨b, off, none⟩ ∧ b < W.heap.size ∧ N b ∧ W.cell? ⟨b, off + i * 10, none⟩ = some (.int .i64 x.p.m.1.1) ∧ W.cell? ⟨b, off + i * 10 + 1, none⟩ = some (.int .i64 x.p.m.1.2.1) ∧ W.cell? ⟨b, off + i * 10 + 2, none⟩ = some (.int .i64 x.p.m.1.2.2) ∧ W.cell? ⟨b, off + i * 10 + 3, none⟩ = some (.int .i64 x.p.m.2.1) ∧ W.cell? ⟨b, off + i * 10 + 4, none⟩ = some (.int .i64 x.p.m.2.2.1) ∧ W.cell? ⟨b, off + i * 10 + 5, none⟩ = some (.int .i64 x.p.m.2.2.2) ∧ W.cell? ⟨b, off + i * 10 + 6, none⟩ = some (.int .i64 x.p.ah) ∧ W.cell? ⟨b, off + i * 10 + 7, none⟩ = some (.int .i64 x.p.se) ∧ W.cell? ⟨b, off + i * 10 + 8, none⟩ = some (.int .i64 x.p.st) ∧ W.cell? ⟨b, off + i * 10 + 9, none⟩ = some (.slice x.oa x.p.os.length x.oc) := by
 obtain ⟨b, off, rfl, hB, hb, hc⟩ := h (by intro e; simp [e] at hi)
 subst hx
 have g := hc i hi
 exact ⟨b, off, rfl, hB, hb, g 0 (by decide), g 1 (by decide), g 2 (by decide), g 3 (by decide), g 4 (by decide), g 5 (by decide), g 6 (by decide), g 7 (by decide), g 8 (by decide), g 9 (by decide)⟩
theorem _root_.Go.Proofs.YtiaopafkfadmkaaGreat.B.OwR.entry {e : TypeId} {W : World} {a : Option Addr} {n c : Nat} {l : List E} (h : OwR cE e W (.slice a n c) l) {i : Nat} (hi : i < l.length) {x : E} (hx : nth cE l i = x) :
  ∃ g, a = some ⟨g, 0, none⟩ ∧ g < W.heap.size ∧ W.cell? ⟨g, i * 10, none⟩ = some (.int .i64 x.p.m.1.1) ∧ W.cell? ⟨g, i * 10 + 1, none⟩ = some (.int .i64 x.p.m.1.2.1) ∧ W.cell? ⟨g, i * 10 + 2, none⟩ = some (.int .i64 x.p.m.1.2.2) ∧ W.cell? ⟨g, i * 10 + 3, none⟩ = some (.int .i64 x.p.m.2.1) ∧ W.cell? ⟨g, i * 10 + 4, none⟩ = some (.int .i64 x.p.m.2.2.1) ∧ W.cell? ⟨g, i * 10 + 5, none⟩ = some (.int .i64 x.p.m.2.2.2) ∧ W.cell? ⟨g, i * 10 + 6, none⟩ = some (.int .i64 x.p.ah) ∧ W.cell? ⟨g, i * 10 + 7, none⟩ = some (.int .i64 x.p.se) ∧ W.cell? ⟨g, i * 10 + 8, none⟩ = some (.int .i64 x.p.st) ∧ W.cell? ⟨g, i * 10 + 9, none⟩ = some (.slice x.oa x.p.os.length x.oc) := by
 rcases h.2 with ⟨e, hn⟩ | ⟨g, cap, cur, e, _, hg, _⟩
 ·rw [List.length_eq_zero_iff.1 hn] at hi
  simp at hi
 ·simp at e
  obtain ⟨rfl, rfl, rfl⟩ := e
  obtain ⟨b, off, e, hB, _, hc⟩ := h.look.2.entry hi hx
  rcases h.2 with ⟨e', _⟩ | ⟨g', cap', cur', e', _, hg', _⟩
  ·simp at e'
  ·have h0 := h
   have cc : ∀ c, c < 10 → W.cell? ⟨g, i * 10 + c, none⟩ = (encE (nth cE l i))[c]? := fun c hc => by
    have e1 := flat_get cE l i c hi hc
    have e2 := World.ownsRow.cellAt h0 (i * 10 + c) (by show i * 10 + c < l.length * 10; omega)
    exact e2.trans e1
   subst hx
   exact ⟨g, rfl, (Array.getElem?_eq_some_iff.1 hg).1, cc 0 (by decide), cc 1 (by decide), cc 2 (by decide), cc 3 (by decide), cc 4 (by decide), cc 5 (by decide), cc 6 (by decide), cc 7 (by decide), cc 8 (by decide), cc 9 (by decide)⟩
def SrtP (L : List P) : Prop := L.Pairwise (fun a b => klt a.m.1 b.m.1 = true)
def D (b : Nat) (v : Value) (k : Nat) : Prop := k = b ∨ v.ownBlock = some k
structure PQ (X : Nat → Prop) (W : World) (fl : Int) (l : List E) (b : Nat) (v : Value) : Prop where
 blk : W.heap[b]? = some (.cells #[v, .int .i64 fl] 167 (0, 0))
 row : OwR cE 126 W v l
 nb : v.ownBlock ≠ some b
 xb : ¬ X b
 xv : ∀ k, v.ownBlock = some k → ¬ X k
 xl : ∀ k, X k → k < W.heap.size
 outs : ∀ x ∈ l, Out (fun k => ¬ X k ∧ ¬ D b v k) W x
 cap : l.length ≤ 64
theorem PQ.lt {X : Nat → Prop} {W : World} {fl : Int} {l : List E} {b : Nat} {v : Value} (h : PQ X W fl l b v) : b < W.heap.size := (Array.getElem?_eq_some_iff.1 h.blk).1
theorem PQ.dlt {X : Nat → Prop} {W : World} {fl : Int} {l : List E} {b : Nat} {v : Value} (h : PQ X W fl l b v) {k : Nat} (hk : D b v k) : k < W.heap.size := by
 rcases hk with rfl | hk
 ·exact h.lt
 ·exact h.row.lt hk
theorem PQ.dx {X : Nat → Prop} {W : World} {fl : Int} {l : List E} {b : Nat} {v : Value} (h : PQ X W fl l b v) {k : Nat} (hk : D b v k) : ¬ X k := by
 rcases hk with rfl | hk
 ·exact h.xb
 ·exact h.xv k hk
theorem cellB {W : World} {b : Nat} {cs : Array Value} {t : TypeId} {f : Nat × Nat} (h : W.heap[b]? = some (.cells cs t f)) (i : Nat) : W.cell? ⟨b, i, none⟩ = cs[i]? := by simp [World.cell?, h]
theorem PQ.c0 {X : Nat → Prop} {W : World} {fl : Int} {l : List E} {b : Nat} {v : Value} (h : PQ X W fl l b v) : W.cell? ⟨b, 0, none⟩ = some v := cellB h.blk 0
theorem PQ.c1 {X : Nat → Prop} {W : World} {fl : Int} {l : List E} {b : Nat} {v : Value} (h : PQ X W fl l b v) : W.cell? ⟨b, 1, none⟩ = some (.int .i64 fl) := cellB h.blk 1
theorem PQ.froz {X : Nat → Prop} {W : World} {fl : Int} {l : List E} {b : Nat} {v : Value} (h : PQ X W fl l b v) (i : Nat) : W.frozen? ⟨b, i, none⟩ = false := by simp [World.frozen?, h.blk]
theorem PQ.keep {X X' S : Nat → Prop} {W W' : World} {fl : Int} {l : List E} {b : Nat} {v : Value} (h : PQ X W fl l b v) (hf : Fr S W W') (hS : ∀ k, S k → X k) (hX : ∀ k, k < W.heap.size → X' k → X k) (hl : ∀ k, X' k → k < W'.heap.size) : PQ X' W' fl l b v :=
 ⟨(hf.block b h.lt (fun e => h.xb (hS _ e))).trans h.blk, h.row.keep hf (fun g e s => h.xv g e (hS _ s)), h.nb, fun e => h.xb (hX _ h.lt e), fun k e s => h.xv k e (hX k (h.row.lt e) s), hl,
  fun x hx => (h.outs x hx).keep hf (fun k hk g => ⟨fun s => g.1 (hS k s), fun e => g.1 (hX k hk e), g.2⟩), h.cap⟩
theorem PQ.below {X : Nat → Prop} {W W' : World} {fl : Int} {l : List E} {b : Nat} {v : Value} (h : PQ X W fl l b v) (hb : Below W.heap.size W W') : PQ X W' fl l b v :=
 h.keep (Fr.of_below (S := fun _ => False) hb) (fun _ e => e.elim) (fun _ _ e => e) (fun k e => Nat.lt_of_lt_of_le (h.xl k e) hb.size)
def PP (X : Nat → Prop) (W : World) (fl : Int) (L : List P) (b : Nat) (v : Value) : Prop := ∃ l, l.map E.p = L ∧ PQ X W fl l b v ∧ SrtP L
theorem PP.keep {X X' S : Nat → Prop} {W W' : World} {fl : Int} {L : List P} {b : Nat} {v : Value} (h : PP X W fl L b v) (hf : Fr S W W') (hS : ∀ k, S k → X k) (hX : ∀ k, k < W.heap.size → X' k → X k) (hl : ∀ k, X' k → k < W'.heap.size) : PP X' W' fl L b v := by
 obtain ⟨l, e, hq, hs⟩ := h
 exact ⟨l, e, hq.keep hf hS hX hl, hs⟩
theorem PP.below {X : Nat → Prop} {W W' : World} {fl : Int} {L : List P} {b : Nat} {v : Value} (h : PP X W fl L b v) (hb : Below W.heap.size W W') : PP X W' fl L b v := by
 obtain ⟨l, e, hq, hs⟩ := h
 exact ⟨l, e, hq.below hb, hs⟩
def Gon (N : Nat → Prop) (W : World) (a : Option Addr) (L : List P) : Prop := ∃ l, l.map E.p = L ∧ RdN cE N W a l ∧ ∀ x ∈ l, Out N W x
theorem Gon.keep {N N' S : Nat → Prop} {W W' : World} {a : Option Addr} {L : List P} (h : Gon N W a L) (hf : Fr S W W') (hN : ∀ k, k < W.heap.size → N k → ¬ S k ∧ N' k) : Gon N' W' a L := by
 obtain ⟨l, e, hr, ho⟩ := h
 exact ⟨l, e, hr.keep hf hN, fun x hx => (ho x hx).keep hf hN⟩
theorem Gon.below {N : Nat → Prop} {W W' : World} {a : Option Addr} {L : List P} (h : Gon N W a L) (hb : Below W.heap.size W W') : Gon N W' a L := h.keep (Fr.of_below (S := fun _ => False) hb) (fun _ _ g => ⟨fun e => e, g⟩)
def pushE (fl : Int) (L : List P) (e : P) : Int :=
 if e.m.1.1 < fl then 110 else if 0 < L.length ∧ klt (nthP L (L.length - 1)).m.1 e.m.1 = false then 130 else if 64 ≤ L.length then 2 else 0
def pushL (fl : Int) (L : List P) (e : P) : List P := if pushE fl L e = 0 then L ++ [e] else L
def bef (k : K) (x : P) : Bool := klt x.m.1 k
def low (t : Int) (x : P) : Bool := decide (x.m.1.1 < t)
end Go.Proofs.YtiaopafkfadmkaaGreat.A
namespace Go.Proofs.YtiaopafkfadmkaaGreat.A
open Go.Proofs.YtiaopafkfadmkaaGreat.B
open Go.RowKit Go.Shelf Go.Sort
set_option maxHeartbeats 1000000 in
theorem side_time (x : E) (t : Int) (w : World) :
  Calls Tryz.prog 115 #[ev x, .int .i64 t] w fun e w' => e = .returned (.int .i64 (cmpI x.p.m.1.1 t)) ∧ ∃ q os, w' = grow (w.drewN q) os := by
 obtain ⟨⟨⟨⟨a1, a2, a3⟩, a4, a5, a6⟩, a7, a8, a9, os⟩, oa, oc⟩ := x
 have hc := fun W => compare_any a1 t W
 dsimp only at hc ⊢
 generalize cmpI a1 t = r at hc ⊢
 go_enter Tryz.func115, Tryz.ntmps115
 go_wp2_with (go_at_call 162; refine (hc _).mono ?_; rintro e w' ⟨rfl, rfl⟩)
 go_ret
 exact ⟨rfl, 0, _, by rw [alloc_eq_grow]; rfl⟩
set_option maxHeartbeats 1000000 in
theorem side_key (x : E) (k : K) (w : World) :
  Calls Tryz.prog 116 #[ev x, kv k] w fun e w' => e = .returned (.int .i64 (kcmp x.p.m.1 k)) ∧ ∃ q os, w' = grow (w.drewN q) os := by
 obtain ⟨⟨⟨⟨a1, a2, a3⟩, a4, a5, a6⟩, a7, a8, a9, os⟩, oa, oc⟩ := x
 obtain ⟨b1, b2, b3⟩ := k
 have hc := fun W => cmp_any (a1, a2, a3) (b1, b2, b3) W
 dsimp only at hc ⊢
 generalize kcmp (a1, a2, a3) (b1, b2, b3) = r at hc ⊢
 go_enter Tryz.func116, Tryz.ntmps116
 go_wp2_with (go_at_call 125; refine (hc _).mono ?_; rintro e w' ⟨rfl, q, os, rfl⟩)
 go_ret
 exact ⟨rfl, q, _, grow2_drewN _ _ _ _ _⟩
theorem made_append {α : Type} {C : Cd α} {t e : TypeId} (T : Ty C t e) {N : Nat → Prop} {w : World} {a : Option Addr} {c : Nat} {l : List α} (h : RdN C N w a l) (hl : l.length ≤ 100000) (ty : TypeId) :
  ∃ a' c' w', (Builtin.append_ #[t, t] ty #[.slice (some ⟨w.heap.size, 0, none⟩) 0 0, .slice a l.length c]).run Tryz.prog (w.alloc (.cells #[] e)) = .ok (.slice a' l.length c') w' ∧ OwR C e w' (.slice a' l.length c') l ∧ (∀ k, (Value.slice a' l.length c').ownBlock = some k → w.heap.size ≤ k) ∧ Below w.heap.size w w' := by
 obtain ⟨a', c', w', hr, ho, hm⟩ := append_R (c := c) T (OwR.made C e w) (h.below (al w _)) (by simp) hl ty l (by simp)
 refine ⟨a', c', w', hr, ho, fun k hk => ?_, (al w _).trans (hm.fr.below (by simp) (fun i e => ?_))⟩
 ·rcases Nat.lt_or_ge k w.heap.size with g | g
  ·have := hm.new k (by simp; omega) hk
   simp [Value.ownBlock] at this
   omega
  ·exact g
 ·simp [Value.ownBlock] at e
  omega
set_option maxHeartbeats 400000 in
theorem cloneM_any {N : Nat → Prop} (w : World) (a : Option Addr) (c : Nat) (l : List M) (h : RdN cM N w a l) (hl : l.length ≤ 100000) :
  Calls Tryz.prog 131 #[.slice a l.length c] w fun e w' => ∃ a' c', e = .returned (.slice a' l.length c') ∧ OwR cM 39 w' (.slice a' l.length c') l ∧ (∀ k, (Value.slice a' l.length c').ownBlock = some k → w.heap.size ≤ k) ∧ Below w.heap.size w w' := by
 have q22 : ∀ (w : World) (a : Option Addr) (n c n' c' : Nat), (binOp .eql 53 (.slice a n c) (.slice none n' c')).run Tryz.prog w = .ok (.bool a.isNone) w := fun w a n c n' c' => Lib.run_eql_slice_nil w _ _ a n c n' c' Tryz.underlying53
 cases a with
 | none =>
  have h0 : l = [] := Classical.byContradiction fun g => by
   obtain ⟨b, off, e, _⟩ := h g
   cases e
  subst h0
  clear h hl
  go_enter Tryz.func131, Tryz.ntmps131
  go_wp2
  go_ret
  exact ⟨none, 0, rfl, OwR.nil _ _ _, fun k e => by simp [Value.ownBlock] at e, Below.refl _ _⟩
 | some ad =>
  obtain ⟨a', c', w', hrun, ho, hn, hb⟩ := made_append (c := c) tyM h hl 53
  have HRUN : Hid _ := hrun
  obtain ⟨n, hnn⟩ : ∃ n, l.length = n := ⟨_, rfl⟩
  have HO : Hid (OwR cM 39 w' (.slice a' l.length c') l) := ho
  have HN : Hid (∀ k, (Value.slice a' l.length c').ownBlock = some k → w.heap.size ≤ k) := hn
  rw [hnn] at HRUN HO HN ⊢
  clear h hl hrun hnn ho hn
  go_enter Tryz.func131, Tryz.ntmps131
  go_wp2_with (at_builtin; refine wpList_append_run _ rfl _ _ 53 rfl rfl rfl HRUN.out ?_)
  go_ret
  exact ⟨_, _, rfl, HO.out, HN.out, hb⟩
set_option maxHeartbeats 400000 in
theorem cloneE_any {N : Nat → Prop} (w : World) (a : Option Addr) (c : Nat) (l : List E) (h : RdN cE N w a l) (hl : l.length ≤ 100000) :
  Calls Tryz.prog 163 #[.slice a l.length c] w fun e w' => ∃ a' c', e = .returned (.slice a' l.length c') ∧ OwR cE 126 w' (.slice a' l.length c') l ∧ (∀ k, (Value.slice a' l.length c').ownBlock = some k → w.heap.size ≤ k) ∧ Below w.heap.size w w' := by
 have q22 : ∀ (w : World) (a : Option Addr) (n c n' c' : Nat), (binOp .eql 135 (.slice a n c) (.slice none n' c')).run Tryz.prog w = .ok (.bool a.isNone) w := fun w a n c n' c' => Lib.run_eql_slice_nil w _ _ a n c n' c' Tryz.underlying135
 cases a with
 | none =>
  have h0 : l = [] := Classical.byContradiction fun g => by
   obtain ⟨b, off, e, _⟩ := h g
   cases e
  subst h0
  clear h hl
  go_enter Tryz.func163, Tryz.ntmps163
  go_wp2
  go_ret
  exact ⟨none, 0, rfl, OwR.nil _ _ _, fun k e => by simp [Value.ownBlock] at e, Below.refl _ _⟩
 | some ad =>
  obtain ⟨a', c', w', hrun, ho, hn, hb⟩ := made_append (c := c) tyE h hl 135
  have HRUN : Hid _ := hrun
  obtain ⟨n, hnn⟩ : ∃ n, l.length = n := ⟨_, rfl⟩
  have HO : Hid (OwR cE 126 w' (.slice a' l.length c') l) := ho
  have HN : Hid (∀ k, (Value.slice a' l.length c').ownBlock = some k → w.heap.size ≤ k) := hn
  rw [hnn] at HRUN HO HN ⊢
  clear h hl hrun hnn ho hn
  go_enter Tryz.func163, Tryz.ntmps163
  go_wp2_with (at_builtin; refine wpList_append_run _ rfl _ _ 135 rfl rfl rfl HRUN.out ?_)
  go_ret
  exact ⟨_, _, rfl, HO.out, HN.out, hb⟩
end Go.Proofs.YtiaopafkfadmkaaGreat.A
namespace Go.Proofs.YtiaopafkfadmkaaGreat.A
open Go.Proofs.YtiaopafkfadmkaaGreat.B
open Go.RowKit Go.Shelf Go.Sort
theorem newB (W : World) (o : Obj) : (W.alloc o).heap[W.heap.size]? = some o := (MapKept.heap_alloc W _).1
theorem frozB {W : World} {b : Nat} {cs : Array Value} {t : TypeId} (h : W.heap[b]? = some (.cells cs t (0, 0))) (i : Nat) : W.frozen? ⟨b, i, none⟩ = false := by simp [World.frozen?, h]
theorem set10 {W : World} {b : Nat} {t : TypeId} {u0 u1 u2 u3 u4 u5 u6 u7 u8 u9 : Value} (v0 v1 v2 v3 v4 v5 v6 v7 v8 v9 : Value) (h : W.heap[b]? = some (.cells #[u0, u1, u2, u3, u4, u5, u6, u7, u8, u9] t (0, 0))) :
  ((((((((((W.setCell ⟨b, 0, none⟩ v0).setCell ⟨b, 1, none⟩ v1).setCell ⟨b, 2, none⟩ v2).setCell ⟨b, 3, none⟩ v3).setCell ⟨b, 4, none⟩ v4).setCell ⟨b, 5, none⟩ v5).setCell ⟨b, 6, none⟩ v6).setCell ⟨b, 7, none⟩ v7).setCell ⟨b, 8, none⟩ v8).setCell ⟨b, 9, none⟩ v9).heap[b]? = some (.cells #[v0, v1, v2, v3, v4, v5, v6, v7, v8, v9] t (0, 0)) := by
 have h0 : (W.setCell ⟨b, 0, none⟩ v0).heap[b]? = some (.cells #[v0, u1, u2, u3, u4, u5, u6, u7, u8, u9] t (0, 0)) := heap_setCell_same _ b 0 _ _ v0 h
 have h1 : ((W.setCell ⟨b, 0, none⟩ v0).setCell ⟨b, 1, none⟩ v1).heap[b]? = some (.cells #[v0, v1, u2, u3, u4, u5, u6, u7, u8, u9] t (0, 0)) := heap_setCell_same _ b 1 _ _ v1 h0
 have h2 : (((W.setCell ⟨b, 0, none⟩ v0).setCell ⟨b, 1, none⟩ v1).setCell ⟨b, 2, none⟩ v2).heap[b]? = some (.cells #[v0, v1, v2, u3, u4, u5, u6, u7, u8, u9] t (0, 0)) := heap_setCell_same _ b 2 _ _ v2 h1
 have h3 : ((((W.setCell ⟨b, 0, none⟩ v0).setCell ⟨b, 1, none⟩ v1).setCell ⟨b, 2, none⟩ v2).setCell ⟨b, 3, none⟩ v3).heap[b]? = some (.cells #[v0, v1, v2, v3, u4, u5, u6, u7, u8, u9] t (0, 0)) := heap_setCell_same _ b 3 _ _ v3 h2
 have h4 : (((((W.setCell ⟨b, 0, none⟩ v0).setCell ⟨b, 1, none⟩ v1).setCell ⟨b, 2, none⟩ v2).setCell ⟨b, 3, none⟩ v3).setCell ⟨b, 4, none⟩ v4).heap[b]? = some (.cells #[v0, v1, v2, v3, v4, u5, u6, u7, u8, u9] t (0, 0)) := heap_setCell_same _ b 4 _ _ v4 h3
 have h5 : ((((((W.setCell ⟨b, 0, none⟩ v0).setCell ⟨b, 1, none⟩ v1).setCell ⟨b, 2, none⟩ v2).setCell ⟨b, 3, none⟩ v3).setCell ⟨b, 4, none⟩ v4).setCell ⟨b, 5, none⟩ v5).heap[b]? = some (.cells #[v0, v1, v2, v3, v4, v5, u6, u7, u8, u9] t (0, 0)) := heap_setCell_same _ b 5 _ _ v5 h4
 have h6 : (((((((W.setCell ⟨b, 0, none⟩ v0).setCell ⟨b, 1, none⟩ v1).setCell ⟨b, 2, none⟩ v2).setCell ⟨b, 3, none⟩ v3).setCell ⟨b, 4, none⟩ v4).setCell ⟨b, 5, none⟩ v5).setCell ⟨b, 6, none⟩ v6).heap[b]? = some (.cells #[v0, v1, v2, v3, v4, v5, v6, u7, u8, u9] t (0, 0)) := heap_setCell_same _ b 6 _ _ v6 h5
 have h7 : ((((((((W.setCell ⟨b, 0, none⟩ v0).setCell ⟨b, 1, none⟩ v1).setCell ⟨b, 2, none⟩ v2).setCell ⟨b, 3, none⟩ v3).setCell ⟨b, 4, none⟩ v4).setCell ⟨b, 5, none⟩ v5).setCell ⟨b, 6, none⟩ v6).setCell ⟨b, 7, none⟩ v7).heap[b]? = some (.cells #[v0, v1, v2, v3, v4, v5, v6, v7, u8, u9] t (0, 0)) := heap_setCell_same _ b 7 _ _ v7 h6
 have h8 : (((((((((W.setCell ⟨b, 0, none⟩ v0).setCell ⟨b, 1, none⟩ v1).setCell ⟨b, 2, none⟩ v2).setCell ⟨b, 3, none⟩ v3).setCell ⟨b, 4, none⟩ v4).setCell ⟨b, 5, none⟩ v5).setCell ⟨b, 6, none⟩ v6).setCell ⟨b, 7, none⟩ v7).setCell ⟨b, 8, none⟩ v8).heap[b]? = some (.cells #[v0, v1, v2, v3, v4, v5, v6, v7, v8, u9] t (0, 0)) := heap_setCell_same _ b 8 _ _ v8 h7
 have h9 : ((((((((((W.setCell ⟨b, 0, none⟩ v0).setCell ⟨b, 1, none⟩ v1).setCell ⟨b, 2, none⟩ v2).setCell ⟨b, 3, none⟩ v3).setCell ⟨b, 4, none⟩ v4).setCell ⟨b, 5, none⟩ v5).setCell ⟨b, 6, none⟩ v6).setCell ⟨b, 7, none⟩ v7).setCell ⟨b, 8, none⟩ v8).setCell ⟨b, 9, none⟩ v9).heap[b]? = some (.cells #[v0, v1, v2, v3, v4, v5, v6, v7, v8, v9] t (0, 0)) := heap_setCell_same _ b 9 _ _ v9 h8
 exact h9
set_option maxHeartbeats 2000000 in
theorem copied_any {N : Nat → Prop} {x : E} {w : World} (h : Out N w x) :
  Calls Tryz.prog 117 #[ev x] w fun e w' => ∃ oa oc, e = .returned (ev ⟨x.p, oa, oc⟩) ∧ Out (fun k => w.heap.size ≤ k) w' ⟨x.p, oa, oc⟩ ∧ Below w.heap.size w w' := by
 obtain ⟨⟨⟨⟨a1, a2, a3⟩, a4, a5, a6⟩, a7, a8, a9, os⟩, oa, oc⟩ := x
 obtain ⟨w1, hw1⟩ : ∃ w1, w1 = w.alloc (.cells #[.int .i64 a1, .int .i64 a2, .int .i64 a3, .int .i64 a4, .int .i64 a5, .int .i64 a6, .int .i64 a7, .int .i64 a8, .int .i64 a9, .slice oa os.length oc] 126) := ⟨_, rfl⟩
 obtain ⟨w2, hw2⟩ : ∃ w2, w2 = w1.alloc (.cells #[.int .i64 0, .int .i64 0, .int .i64 0, .int .i64 0, .int .i64 0, .int .i64 0, .int .i64 0, .int .i64 0, .int .i64 0, .slice none 0 0] 126) := ⟨_, rfl⟩
 have s1 : w1.heap.size = w.heap.size + 1 := by rw [hw1]; simp
 have s2 : w2.heap.size = w.heap.size + 2 := by rw [hw2]; simp [s1]
 have b1 : Below w.heap.size w w1 := by rw [hw1]; exact al _ _
 have b2 : Below w1.heap.size w1 w2 := by rw [hw2]; exact al _ _
 have b : Below w.heap.size w w2 := Below.on b1 b2
 have B0 : w2.heap[w.heap.size]? = some (.cells #[.int .i64 a1, .int .i64 a2, .int .i64 a3, .int .i64 a4, .int .i64 a5, .int .i64 a6, .int .i64 a7, .int .i64 a8, .int .i64 a9, .slice oa os.length oc] 126) := by
  rw [b2.block _ (by omega), hw1]; exact newB _ _
 have B1 : w2.heap[w.heap.size + 1]? = some (.cells #[.int .i64 0, .int .i64 0, .int .i64 0, .int .i64 0, .int .i64 0, .int .i64 0, .int .i64 0, .int .i64 0, .int .i64 0, .slice none 0 0] 126) := by
  rw [hw2, ← s1]; exact newB _ _
 have CL : Calls Tryz.prog 131 #[.slice oa os.length oc] w2 _ := cloneM_any w2 oa oc os (h.1.below b) (by have := h.2; simp at this; omega)
 have hl : os.length ≤ 64 := h.2
 obtain ⟨n, hn⟩ : ∃ n, os.length = n := ⟨_, rfl⟩
 have c9 : w2.cell? ⟨w.heap.size, 9, none⟩ = some (.slice oa os.length oc) := cellB B0 9
 have HB : Hid (Below w.heap.size w w2) := b
 have HB0 : Hid _ := B0
 have HB1 : Hid _ := B1
 have HL : Hid (os.length ≤ 64) := hl
 have HS : Hid (w2.heap.size = w.heap.size + 2) := s2
 have HW : Hid (w2 = (w.alloc (.cells #[.int .i64 a1, .int .i64 a2, .int .i64 a3, .int .i64 a4, .int .i64 a5, .int .i64 a6, .int .i64 a7, .int .i64 a8, .int .i64 a9, .slice oa os.length oc] 126)).alloc (.cells #[.int .i64 0, .int .i64 0, .int .i64 0, .int .i64 0, .int .i64 0, .int .i64 0, .int .i64 0, .int .i64 0, .int .i64 0, .slice none 0 0] 126)) := by rw [hw2, hw1]; exact (rfl : _ = _)
 dsimp only [ev]
 rw [hn] at c9 CL HW HB0 ⊢
 have HNN : Hid (os.length = n) := hn
 clear B0 B1 b b1 b2 hw1 hw2 s1 s2 h hl hn
 go_enter Tryz.func117, Tryz.ntmps117
 go_wp2_with (go_at_call 131; rw [← HW.out]; refine CL.mono ?_; rintro e w3 ⟨a', c', rfl, ho, hn, hb⟩; have B0 := (hb.block _ (by rw [HS.out]; omega)).trans HB0.out; have B1 := (hb.block _ (by rw [HS.out]; omega)).trans HB1.out; have d0 := cellB B0 0; have d1 := cellB B0 1; have d2 := cellB B0 2; have d3 := cellB B0 3; have d4 := cellB B0 4; have d5 := cellB B0 5; have d6 := cellB B0 6; have d7 := cellB B0 7; have d8 := cellB B0 8; have d9 := cellB B0 9; have r0 := cellB B1 0; have r1 := cellB B1 1; have r2 := cellB B1 2; have r3 := cellB B1 3; have r4 := cellB B1 4; have r5 := cellB B1 5; have r6 := cellB B1 6; have r7 := cellB B1 7; have r8 := cellB B1 8; have r9 := cellB B1 9; simp only [List.getElem?_toArray, List.getElem?_cons_zero, List.getElem?_cons_succ] at d0 d1 d2 d3 d4 d5 d6 d7 d8 d9 r0 r1 r2 r3 r4 r5 r6 r7 r8 r9; have fd := frozB B0; have fr := frozB B1; have HB4 : Hid _ := B1; have HO : Hid _ := ho; have HNW : Hid _ := hn; have HBB : Hid _ := hb; clear B0 B1 ho hn hb CL c9)
 obtain ⟨w4, hw4⟩ : ∃ w4, w4 = (((((((((((w3.setCell ⟨w.heap.size, 9, none⟩ (.slice a' n c')).setCell ⟨w.heap.size + 1, 0, none⟩ (.int .i64 a1)).setCell ⟨w.heap.size + 1, 1, none⟩ (.int .i64 a2)).setCell ⟨w.heap.size + 1, 2, none⟩ (.int .i64 a3)).setCell ⟨w.heap.size + 1, 3, none⟩ (.int .i64 a4)).setCell ⟨w.heap.size + 1, 4, none⟩ (.int .i64 a5)).setCell ⟨w.heap.size + 1, 5, none⟩ (.int .i64 a6)).setCell ⟨w.heap.size + 1, 6, none⟩ (.int .i64 a7)).setCell ⟨w.heap.size + 1, 7, none⟩ (.int .i64 a8)).setCell ⟨w.heap.size + 1, 8, none⟩ (.int .i64 a9)).setCell ⟨w.heap.size + 1, 9, none⟩ (.slice a' n c')) := ⟨_, rfl⟩
 have hf : Fr (fun k => k = w.heap.size ∨ k = w.heap.size + 1) w3 w4 := by
  rw [hw4]
  iterate 10 refine Fr.setCell ?_ _ _ (Or.inl (Or.inr rfl))
  exact Fr.setCell (Fr.refl _ _) _ _ (Or.inl (Or.inl rfl))
 have HO2 : OwR cM 39 w3 (.slice a' n c') os := HO.out
 rw [← HNN.out] at HO2
 have HN2 : ∀ k, (Value.slice a' n c').ownBlock = some k → w2.heap.size ≤ k := HNW.out
 rw [HS.out] at HN2
 have fin : Out (fun k => w.heap.size ≤ k) w4 ⟨⟨((a1, a2, a3), a4, a5, a6), a7, a8, a9, os⟩, a', c'⟩ := by
  have g := HO2.keep hf (fun g e => by rw [HNN.out] at e; have := HN2 g e; omega)
  exact ⟨g.look.2.wide (fun k _ e => by rw [HNN.out] at e; have := HN2 k e; omega), HL.out⟩
 have fin2 : Below w.heap.size w w4 := (Below.on HB.out HBB.out).trans (hf.below (by have := HBB.out.size; rw [HS.out] at this; omega) (fun i e => by omega))
 have hz : (w3.setCell ⟨w.heap.size, 9, none⟩ (.slice a' n c')).heap[w.heap.size + 1]? = w3.heap[w.heap.size + 1]? := Below.heap_setCell _ _ _ _ (fun e => by simp at e)
 have hb4 := set10 (.int .i64 a1) (.int .i64 a2) (.int .i64 a3) (.int .i64 a4) (.int .i64 a5) (.int .i64 a6) (.int .i64 a7) (.int .i64 a8) (.int .i64 a9) (.slice a' n c') (hz.trans HB4.out)
 rw [← hw4] at hb4 ⊢
 have HF1 : Hid _ := fin
 have HF2 : Hid _ := fin2
 clear fin fin2 hf hw4 HO2 HN2
 refine bodyPost_ret (v := .agg #[.int .i64 a1, .int .i64 a2, .int .i64 a3, .int .i64 a4, .int .i64 a5, .int .i64 a6, .int .i64 a7, .int .i64 a8, .int .i64 a9, .slice a' n c']) (results_cell_row rfl _ _ (w.heap.size + 1) _ _ _ _ rfl hb4 Tryz.underlying126 rfl (by kernel_rfl)) rfl ?_
 exact ⟨a', c', rfl, HF1.out, HF2.out⟩
end Go.Proofs.YtiaopafkfadmkaaGreat.A
namespace Go.Proofs.YtiaopafkfadmkaaGreat.A
open Go.Proofs.YtiaopafkfadmkaaGreat.B
def cut (f : P → Bool) (L : List P) : Nat := (L.filter f).length
theorem cut_take {f : P → Bool} {L : List P} {i : Nat} (hi : i ≤ L.length) (h1 : ∀ t, t < i → f (nthP L t) = true) (h2 : ∀ t, i ≤ t → t < L.length → f (nthP L t) = false) : L.filter f = L.take i ∧ L.filter (fun x => !f x) = L.drop i := by
 have e1 : (L.take i).filter f = L.take i := List.filter_eq_self.2 fun x hx => by
  obtain ⟨j, hj, rfl⟩ := List.mem_iff_getElem.1 hx
  rw [List.length_take] at hj
  have := h1 j (by omega)
  unfold nthP at this
  simpa [show j < L.length by omega] using this
 have e2 : (L.drop i).filter f = [] := List.filter_eq_nil_iff.2 fun x hx => by
  obtain ⟨j, hj, rfl⟩ := List.mem_iff_getElem.1 hx
  rw [List.length_drop] at hj
  have := h2 (i + j) (by omega) (by omega)
  unfold nthP at this
  simpa [show i + j < L.length by omega] using this
 have e3 : (L.take i).filter (fun x => !f x) = [] := List.filter_eq_nil_iff.2 fun x hx => by
  have := (List.filter_eq_self.1 e1) x hx
  simp [this]
 have e4 : (L.drop i).filter (fun x => !f x) = L.drop i := List.filter_eq_self.2 fun x hx => by
  have := (List.filter_eq_nil_iff.1 e2) x hx
  simpa using this
 constructor
 ·conv => lhs; rw [← List.take_append_drop i L]
  rw [List.filter_append, e1, e2, List.append_nil]
 ·conv => lhs; rw [← List.take_append_drop i L]
  rw [List.filter_append, e3, e4, List.nil_append]
theorem cut_unique {f : P → Bool} {L : List P} {i : Nat} (hi : i ≤ L.length) (h1 : ∀ t, t < i → f (nthP L t) = true) (h2 : ∀ t, i ≤ t → t < L.length → f (nthP L t) = false) : cut f L = i := by
 unfold cut
 rw [(cut_take hi h1 h2).1, List.length_take]
 omega
theorem cutE_unique {f : P → Bool} {l : List E} (i : Nat) (hi : i ≤ l.length) (h1 : ∀ t, t < i → f (nth cE l t).p = true) (h2 : ∀ t, i ≤ t → t < l.length → f (nth cE l t).p = false) : cut f (l.map E.p) = i :=
 cut_unique (by simpa using hi) (fun t ht => by rw [nthP_map]; exact h1 t ht) (fun t ht hl => by rw [nthP_map]; exact h2 t ht (by simpa using hl))
def Cls (f : P → Bool) (L : List P) : Prop := ∀ a b, a ≤ b → b < L.length → f (nthP L b) = true → f (nthP L a) = true
theorem srt_lt {L : List P} (hs : SrtP L) {a b : Nat} (h : a < b) (hb : b < L.length) : klt (nthP L a).m.1 (nthP L b).m.1 = true := by
 have := List.pairwise_iff_getElem.1 hs a b (by omega) hb h
 simpa [nthP, show a < L.length by omega, hb] using this
theorem cls_bef {L : List P} (hs : SrtP L) (k : K) : Cls (bef k) L := fun a b h1 h2 h3 => by
 rcases Nat.lt_or_ge a b with g | g
 ·exact klt_trans (srt_lt hs g h2) h3
 ·obtain rfl : a = b := by omega
  exact h3
theorem klt_T {a b : K} (h : klt a b = true) : a.1 ≤ b.1 := by rw [klt_iff] at h; omega
theorem cls_low {L : List P} (hs : SrtP L) (t : Int) : Cls (low t) L := fun a b h1 h2 h3 => by
 rcases Nat.lt_or_ge a b with g | g
 ·have := klt_T (srt_lt hs g h2)
  unfold low at *
  simp at *
  omega
 ·obtain rfl : a = b := by omega
  exact h3
theorem bef_mono {l : List E} {k : K} (hs : SrtP (l.map E.p)) {a b : Nat} (h1 : a ≤ b) (h2 : b < l.length) (h3 : bef k (nth cE l b).p = true) : bef k (nth cE l a).p = true := by
 rw [← nthP_map] at *
 exact cls_bef hs k a b h1 (by simpa using h2) h3
theorem low_mono {l : List E} {t : Int} (hs : SrtP (l.map E.p)) {a b : Nat} (h1 : a ≤ b) (h2 : b < l.length) (h3 : low t (nth cE l b).p = true) : low t (nth cE l a).p = true := by
 rw [← nthP_map] at *
 exact cls_low hs t a b h1 (by simpa using h2) h3
theorem bef_dec (x : P) (k : K) (r : Int) (h : kcmp x.m.1 k = r) : bef k x = decide (r < 0) := by rw [← h]; rfl
theorem low_dec (x : P) (t r : Int) (h : cmpI x.m.1.1 t = r) : low t x = decide (r < 0) := by
 rw [← h]
 unfold low cmpI
 by_cases g : x.m.1.1 < t
 ·simp [g]
 ·by_cases g2 : t < x.m.1.1
  ·simp [g, g2]
  ·simp [g, g2]
theorem cls_cut {f : P → Bool} {L : List P} (h : Cls f L) : L.filter f = L.take (cut f L) ∧ L.filter (fun x => !f x) = L.drop (cut f L) := by
 have hle : cut f L ≤ L.length := List.length_filter_le _ _
 obtain ⟨i, hi, h1, h2⟩ : ∃ i, i ≤ L.length ∧ (∀ t, t < i → f (nthP L t) = true) ∧ (∀ t, i ≤ t → t < L.length → f (nthP L t) = false) := by
  clear hle
  by_cases hall : ∀ t, t < L.length → f (nthP L t) = true
  ·exact ⟨L.length, Nat.le_refl _, hall, fun t a b => by omega⟩
  ·have hex : ∃ t, t < L.length ∧ f (nthP L t) = false := Classical.byContradiction fun g => hall fun t ht => by
    cases e : f (nthP L t)
    ·exact absurd ⟨t, ht, e⟩ g
    ·rfl
   obtain ⟨t, ht, hmin⟩ : ∃ t, (t < L.length ∧ f (nthP L t) = false) ∧ ∀ s, s < t → ¬ (s < L.length ∧ f (nthP L s) = false) := by
    obtain ⟨t0, h0⟩ := hex
    induction t0 using Nat.strongRecOn with
    | _ n ih =>
     by_cases g : ∃ s, s < n ∧ (s < L.length ∧ f (nthP L s) = false)
     ·obtain ⟨s, hs, hss⟩ := g
      exact ih s hs hss
     ·exact ⟨n, h0, fun s hs hc => g ⟨s, hs, hc⟩⟩
   refine ⟨t, by omega, fun s hs => ?_, fun s hs hl => ?_⟩
   ·have := hmin s hs
    cases e : f (nthP L s)
    ·exact absurd ⟨by omega, e⟩ this
    ·rfl
   ·cases e : f (nthP L s)
    ·rfl
    ·have := h t s hs hl e
     rw [ht.2] at this
     cases this
 rw [cut_unique hi h1 h2]
 exact cut_take hi h1 h2
theorem cut_le (f : P → Bool) (L : List P) : cut f L ≤ L.length := List.length_filter_le _ _
theorem SrtP.filter {L : List P} (h : SrtP L) (f : P → Bool) : SrtP (L.filter f) := List.Pairwise.filter _ h
end Go.Proofs.YtiaopafkfadmkaaGreat.A
namespace Go.Proofs.YtiaopafkfadmkaaGreat.A
open Go.Proofs.YtiaopafkfadmkaaGreat.B
open Go.RowKit Go.Shelf Go.Sort
theorem wrapN (j : Nat) (h : j ≤ 1000) : IntKind.i64.wrap (j : Int) = (j : Int) := by
 rw [IntKind.wrap_i64]; omega
theorem Out.move {X : Nat → Prop} {W w2 : World} {b : Nat} {v v' : Value} {x : E} (h : Out (fun k => ¬ X k ∧ ¬ D b v k) W x) (hm : Mw (fun k => v.ownBlock = some k) (fun k => v'.ownBlock = some k) W w2) : Out (fun k => ¬ X k ∧ ¬ D b v' k) w2 x :=
 h.keep hm.fr fun k hk g => ⟨fun e => g.2 (Or.inr e), g.1, fun e => g.2 (by
  rcases e with e | e
  ·exact Or.inl e
  ·exact Or.inr (hm.new k hk e))⟩
theorem PQ.put {X : Nat → Prop} {W w2 : World} {fl : Int} {l l' : List E} {b : Nat} {v v' : Value} (h : PQ X W fl l b v) (hm : Mw (fun k => v.ownBlock = some k) (fun k => v'.ownBlock = some k) W w2) (hr : OwR cE 126 w2 v' l') (ho : ∀ x ∈ l', Out (fun k => ¬ X k ∧ ¬ D b v' k) w2 x) (hl : l'.length ≤ 64) :
  PQ X (w2.setCell ⟨b, 0, none⟩ v') fl l' b v' ∧ Mw (D b v) (D b v') W (w2.setCell ⟨b, 0, none⟩ v') := by
 have hb := (hm.fr.block b h.lt (fun e => h.nb e)).trans h.blk
 have nb' : v'.ownBlock ≠ some b := fun e => h.nb (hm.new b h.lt e)
 have f1 : Fr (fun k => k = b) w2 (w2.setCell ⟨b, 0, none⟩ v') := (Fr.refl _ _).setCell _ _ (Or.inl rfl)
 refine ⟨⟨?_, hr.keep f1 (fun g e s => nb' (by rw [← s]; exact e)), nb', h.xb, fun k e s => h.xv k (hm.new k (h.xl k s) e) s, fun k e => Nat.lt_of_lt_of_le (h.xl k e) (Nat.le_trans hm.fr.size f1.size), fun x hx => (ho x hx).keep f1 (fun k _ g => ⟨fun e => g.2 (Or.inl e), g⟩), hl⟩, ⟨?_, ?_⟩⟩
 ·have := heap_setCell_same w2 b 0 _ _ v' hb
  rw [this]
  rfl
 ·exact (hm.fr.wide (fun i e => Or.inr e)).then (f1.wide (fun i e => Or.inl e))
 ·intro k hk e
  rcases e with e | e
  ·exact Or.inl e
  ·exact Or.inr (hm.new k hk e)
theorem PQ.floor {X : Nat → Prop} {W : World} {fl : Int} {l : List E} {b : Nat} {v : Value} (h : PQ X W fl l b v) (t : Int) :
  PQ X (W.setCell ⟨b, 1, none⟩ (.int .i64 t)) t l b v ∧ Mw (D b v) (D b v) W (W.setCell ⟨b, 1, none⟩ (.int .i64 t)) := by
 have f1 : Fr (fun k => k = b) W (W.setCell ⟨b, 1, none⟩ (.int .i64 t)) := (Fr.refl _ _).setCell _ _ (Or.inl rfl)
 refine ⟨⟨?_, h.row.keep f1 (fun g e s => h.nb (by rw [← s]; exact e)), h.nb, h.xb, h.xv, fun k e => Nat.lt_of_lt_of_le (h.xl k e) f1.size, fun x hx => (h.outs x hx).keep f1 (fun k _ g => ⟨fun e => g.2 (Or.inl e), g⟩), h.cap⟩, ⟨f1.wide (fun i e => Or.inl e), fun _ _ e => e⟩⟩
 have := heap_setCell_same W b 1 _ _ (.int .i64 t) h.blk
 rw [this]
 rfl
theorem new_any {X : Nat → Prop} (w : World) (hX : ∀ k, X k → k < w.heap.size) :
  Calls Tryz.prog 44 #[] w fun e w' => e = .returned (.pointer (some ⟨w.heap.size, 0, none⟩)) ∧ PP X w' 0 [] w.heap.size (.slice none 0 0) ∧ Below w.heap.size w w' := by
 have HX : Aside _ := hX
 clear hX
 go_enter Tryz.func44, Tryz.ntmps44
 go_wp2
 go_ret
 have hB : Below w.heap.size w (w.alloc (.cells #[.slice none 0 0, .int .i64 0] 167)) := al _ _
 refine ⟨rfl, ⟨[], rfl, ⟨newB _ _, OwR.nil _ _ _, by simp [Value.ownBlock], fun e => by have := HX.out _ e; omega, fun k e => by simp [Value.ownBlock] at e, fun k e => Nat.lt_of_lt_of_le (HX.out k e) hB.size, fun x hx => (by cases hx), by simp⟩, List.Pairwise.nil⟩, hB⟩
theorem len_any {X : Nat → Prop} {w : World} {fl : Int} {L : List P} {b : Nat} {v : Value} (h : PP X w fl L b v) :
  Calls Tryz.prog 60 #[.pointer (some ⟨b, 0, none⟩)] w fun e w' => e = .returned (.int .i64 L.length) ∧ w = w' := by
 obtain ⟨l, rfl, hq, hs⟩ := h
 have c0 := hq.c0
 obtain ⟨a, c, rfl, _⟩ := hq.row.rd (N := fun _ => True) (fun _ _ => trivial)
 rw [List.length_map]
 clear hq hs
 go_enter Tryz.func60, Tryz.ntmps60
 go_wp2
 go_ret
 exact ⟨rfl, rfl⟩
theorem floor_any {X : Nat → Prop} {w : World} {fl : Int} {L : List P} {b : Nat} {v : Value} (h : PP X w fl L b v) :
  Calls Tryz.prog 77 #[.pointer (some ⟨b, 0, none⟩)] w fun e w' => e = .returned (.int .i64 fl) ∧ w = w' := by
 obtain ⟨l, rfl, hq, hs⟩ := h
 have c1 := hq.c1
 clear hq hs
 go_enter Tryz.func77, Tryz.ntmps77
 go_wp2
 go_ret
 exact ⟨rfl, rfl⟩
end Go.Proofs.YtiaopafkfadmkaaGreat.A
