/- Proved: messages that are held, with their causes, as plain data; how they lie in memory; what a gate is: what it holds, in the order in which it came, and its floor. -/
import Derived.Test.YtpkemgpnpadkfaaRow
import Derived.Test.YtpkemgpnpadkfaaKey
import Derived.Test.YtpkemgpnpadkfaaStb
namespace Go.Proofs.Ytpkemgpnpadkfaa
open Go.RowKit Go.Shelf Go.Sort
set_option linter.unusedVariables false

def cM : Cd M := ⟨enc, 6, ((0, 0, 0), 0, 0, 0), enc_len, enc_one, by decide⟩
/-- A message that is held: its cause, and itself. -/
abbrev H := K × M
def encH (x : H) : List Value := [.int .i64 x.1.1, .int .i64 x.1.2.1, .int .i64 x.1.2.2, .int .i64 x.2.1.1, .int .i64 x.2.1.2.1, .int .i64 x.2.1.2.2, .int .i64 x.2.2.1, .int .i64 x.2.2.2.1, .int .i64 x.2.2.2.2]
abbrev hv (x : H) : Value := .agg #[.int .i64 x.1.1, .int .i64 x.1.2.1, .int .i64 x.1.2.2, .int .i64 x.2.1.1, .int .i64 x.2.1.2.1, .int .i64 x.2.1.2.2, .int .i64 x.2.2.1, .int .i64 x.2.2.2.1, .int .i64 x.2.2.2.2]
abbrev hcs (x : H) : Array Value := #[.int .i64 x.1.1, .int .i64 x.1.2.1, .int .i64 x.1.2.2, .int .i64 x.2.1.1, .int .i64 x.2.1.2.1, .int .i64 x.2.1.2.2, .int .i64 x.2.2.1, .int .i64 x.2.2.2.1, .int .i64 x.2.2.2.2]
theorem encH_one (x : H) : ∀ v ∈ encH x, v.oneCell' = true := by
  intro v hv
  simp [encH] at hv
  rcases hv with rfl | rfl | rfl | rfl | rfl | rfl | rfl | rfl | rfl <;> rfl
def cH : Cd H := ⟨encH, 9, ((0, 0, 0), (0, 0, 0), 0, 0, 0), fun _ => rfl, encH_one, by decide⟩
def tyM : Ty cM 36 30 := ⟨.agg #[.int .i64 0, .int .i64 0, .int .i64 0, .int .i64 0, .int .i64 0, .int .i64 0], 48, Try.underlying36, by kernel_rfl, rfl, by decide⟩
def tyH : Ty cH 52 56 := ⟨.agg #[.int .i64 0, .int .i64 0, .int .i64 0, .int .i64 0, .int .i64 0, .int .i64 0, .int .i64 0, .int .i64 0, .int .i64 0], 72, Try.underlying52, by kernel_rfl, rfl, by decide⟩
def tyP : Ty cH 42 58 := ⟨.agg #[.int .i64 0, .int .i64 0, .int .i64 0, .int .i64 0, .int .i64 0, .int .i64 0, .int .i64 0, .int .i64 0, .int .i64 0], 72, Try.underlying42, by kernel_rfl, rfl, by decide⟩
/-- The cells of a thing that is held, in a slice. -/
theorem RdN.held {N : Nat → Prop} {W : World} {a : Option Addr} {l : List H} (h : RdN cH N W a l) {i : Nat} (hi : i < l.length) {x : H} (hx : nth cH l i = x) :
    ∃ b off, a = some ⟨b, off, none⟩ ∧ b < W.heap.size ∧ N b ∧ W.cell? ⟨b, off + i * 9, none⟩ = some (.int .i64 x.1.1) ∧ W.cell? ⟨b, off + i * 9 + 1, none⟩ = some (.int .i64 x.1.2.1) ∧ W.cell? ⟨b, off + i * 9 + 2, none⟩ = some (.int .i64 x.1.2.2) ∧ W.cell? ⟨b, off + i * 9 + 3, none⟩ = some (.int .i64 x.2.1.1) ∧ W.cell? ⟨b, off + i * 9 + 4, none⟩ = some (.int .i64 x.2.1.2.1) ∧ W.cell? ⟨b, off + i * 9 + 5, none⟩ = some (.int .i64 x.2.1.2.2) ∧ W.cell? ⟨b, off + i * 9 + 6, none⟩ = some (.int .i64 x.2.2.1) ∧ W.cell? ⟨b, off + i * 9 + 7, none⟩ = some (.int .i64 x.2.2.2.1) ∧ W.cell? ⟨b, off + i * 9 + 8, none⟩ = some (.int .i64 x.2.2.2.2) := by
  obtain ⟨b, off, rfl, hB, hb, hc⟩ := h (by intro e; simp [e] at hi)
  subst hx
  have g := hc i hi
  exact ⟨b, off, rfl, hB, hb, g 0 (by decide), g 1 (by decide), g 2 (by decide), g 3 (by decide), g 4 (by decide), g 5 (by decide), g 6 (by decide), g 7 (by decide), g 8 (by decide)⟩
/-- The same in a row of one's own: its block begins at 0. -/
theorem OwR.held {e : TypeId} {W : World} {a : Option Addr} {n c : Nat} {l : List H} (h : OwR cH e W (.slice a n c) l) {i : Nat} (hi : i < l.length) {x : H} (hx : nth cH l i = x) :
    ∃ g, a = some ⟨g, 0, none⟩ ∧ g < W.heap.size ∧ W.cell? ⟨g, i * 9, none⟩ = some (.int .i64 x.1.1) ∧ W.cell? ⟨g, i * 9 + 1, none⟩ = some (.int .i64 x.1.2.1) ∧ W.cell? ⟨g, i * 9 + 2, none⟩ = some (.int .i64 x.1.2.2) ∧ W.cell? ⟨g, i * 9 + 3, none⟩ = some (.int .i64 x.2.1.1) ∧ W.cell? ⟨g, i * 9 + 4, none⟩ = some (.int .i64 x.2.1.2.1) ∧ W.cell? ⟨g, i * 9 + 5, none⟩ = some (.int .i64 x.2.1.2.2) ∧ W.cell? ⟨g, i * 9 + 6, none⟩ = some (.int .i64 x.2.2.1) ∧ W.cell? ⟨g, i * 9 + 7, none⟩ = some (.int .i64 x.2.2.2.1) ∧ W.cell? ⟨g, i * 9 + 8, none⟩ = some (.int .i64 x.2.2.2.2) := by
  rcases h.2 with ⟨e, hn⟩ | ⟨g, cap, cur, e, _, hg, _⟩
  · rw [List.length_eq_zero_iff.1 hn] at hi
    simp at hi
  · simp at e
    obtain ⟨rfl, rfl, rfl⟩ := e
    have cc : ∀ c, c < 9 → W.cell? ⟨g, i * 9 + c, none⟩ = (encH (nth cH l i))[c]? := fun c hc => by
      have e1 := flat_get cH l i c hi hc
      have e2 := World.ownsRow.cellAt h (i * 9 + c) (by show i * 9 + c < l.length * 9; omega)
      exact e2.trans e1
    subst hx
    exact ⟨g, rfl, (Array.getElem?_eq_some_iff.1 hg).1, cc 0 (by decide), cc 1 (by decide), cc 2 (by decide), cc 3 (by decide), cc 4 (by decide), cc 5 (by decide), cc 6 (by decide), cc 7 (by decide), cc 8 (by decide)⟩
/-- The cells of a message in a slice. -/
theorem RdN.msg {N : Nat → Prop} {W : World} {a : Option Addr} {l : List M} (h : RdN cM N W a l) {i : Nat} (hi : i < l.length) {x : M} (hx : nth cM l i = x) :
    ∃ b off, a = some ⟨b, off, none⟩ ∧ b < W.heap.size ∧ N b ∧ W.cell? ⟨b, off + i * 6, none⟩ = some (.int .i64 x.1.1) ∧ W.cell? ⟨b, off + i * 6 + 1, none⟩ = some (.int .i64 x.1.2.1) ∧ W.cell? ⟨b, off + i * 6 + 2, none⟩ = some (.int .i64 x.1.2.2) ∧ W.cell? ⟨b, off + i * 6 + 3, none⟩ = some (.int .i64 x.2.1) ∧ W.cell? ⟨b, off + i * 6 + 4, none⟩ = some (.int .i64 x.2.2.1) ∧ W.cell? ⟨b, off + i * 6 + 5, none⟩ = some (.int .i64 x.2.2.2) := by
  obtain ⟨b, off, rfl, hB, hb, hc⟩ := h (by intro e; simp [e] at hi)
  subst hx
  have g := hc i hi
  exact ⟨b, off, rfl, hB, hb, g 0 (by decide), g 1 (by decide), g 2 (by decide), g 3 (by decide), g 4 (by decide), g 5 (by decide)⟩
theorem cellB {W : World} {b : Nat} {cs : Array Value} {t : TypeId} {f : Nat × Nat} (h : W.heap[b]? = some (.cells cs t f)) (i : Nat) : W.cell? ⟨b, i, none⟩ = cs[i]? := by simp [World.cell?, h]
theorem newB (w : World) (o : Obj) : (w.alloc o).heap[w.heap.size]? = some o := (MapKept.heap_alloc w _).1
theorem wrapN (j : Nat) (h : j ≤ 1000000) : IntKind.i64.wrap (j : Int) = (j : Int) := by
  rw [IntKind.wrap_i64]; omega
theorem new_ge {w W w2 : World} {v v' : Value} (hs : w.heap.size ≤ W.heap.size) (h : ∀ k, v.ownBlock = some k → w.heap.size ≤ k) (hm : Mw (fun k => v.ownBlock = some k) (fun k => v'.ownBlock = some k) W w2) {k : Nat} (e : v'.ownBlock = some k) : w.heap.size ≤ k := by
  rcases Nat.lt_or_ge k W.heap.size with g | g
  · exact h k (hm.new k g e)
  · omega

/-! ### What a gate is -/
/-- Its own blocks. -/
def D (b : Nat) (v : Value) (k : Nat) : Prop := k = b ∨ v.ownBlock = some k
/-- A gate at block b, that holds L, which lies in v; X: blocks that are others'. -/
structure GQ (X : Nat → Prop) (W : World) (fl : Int) (L : List H) (b : Nat) (v : Value) : Prop where
  blk : W.heap[b]? = some (.cells #[v, .int .i64 fl] 54 (0, 0))
  row : OwR cH 56 W v L
  nb : v.ownBlock ≠ some b
  xb : ¬ X b
  xv : ∀ k, v.ownBlock = some k → ¬ X k
  xl : ∀ k, X k → k < W.heap.size
  cap : L.length ≤ 256
theorem GQ.lt {X : Nat → Prop} {W : World} {fl : Int} {l : List H} {b : Nat} {v : Value} (h : GQ X W fl l b v) : b < W.heap.size := (Array.getElem?_eq_some_iff.1 h.blk).1
theorem GQ.dlt {X : Nat → Prop} {W : World} {fl : Int} {l : List H} {b : Nat} {v : Value} (h : GQ X W fl l b v) {k : Nat} (hk : D b v k) : k < W.heap.size := by
  rcases hk with rfl | hk
  · exact h.lt
  · exact h.row.lt hk
theorem GQ.dx {X : Nat → Prop} {W : World} {fl : Int} {l : List H} {b : Nat} {v : Value} (h : GQ X W fl l b v) {k : Nat} (hk : D b v k) : ¬ X k := by
  rcases hk with rfl | hk
  · exact h.xb
  · exact h.xv k hk
theorem GQ.c0 {X : Nat → Prop} {W : World} {fl : Int} {l : List H} {b : Nat} {v : Value} (h : GQ X W fl l b v) : W.cell? ⟨b, 0, none⟩ = some v := cellB h.blk 0
theorem GQ.c1 {X : Nat → Prop} {W : World} {fl : Int} {l : List H} {b : Nat} {v : Value} (h : GQ X W fl l b v) : W.cell? ⟨b, 1, none⟩ = some (.int .i64 fl) := cellB h.blk 1
theorem GQ.froz {X : Nat → Prop} {W : World} {fl : Int} {l : List H} {b : Nat} {v : Value} (h : GQ X W fl l b v) (i : Nat) : W.frozen? ⟨b, i, none⟩ = false := by simp [World.frozen?, h.blk]
theorem GQ.keep {X X' S : Nat → Prop} {W W' : World} {fl : Int} {l : List H} {b : Nat} {v : Value} (h : GQ X W fl l b v) (hf : Fr S W W') (hS : ∀ k, S k → ¬ D b v k) (hX : ∀ k, k < W.heap.size → X' k → ¬ D b v k) (hl : ∀ k, X' k → k < W'.heap.size) : GQ X' W' fl l b v :=
  ⟨(hf.block b h.lt (fun e => hS _ e (Or.inl rfl))).trans h.blk, h.row.keep hf (fun g e s => hS _ s (Or.inr e)), h.nb, fun e => hX _ h.lt e (Or.inl rfl), fun k e s => hX k (h.row.lt e) s (Or.inr e), hl, h.cap⟩
theorem GQ.below {X : Nat → Prop} {W W' : World} {fl : Int} {l : List H} {b : Nat} {v : Value} (h : GQ X W fl l b v) (hb : Below W.heap.size W W') : GQ X W' fl l b v :=
  h.keep (Fr.of_below (S := fun _ => False) hb) (fun _ e => e.elim) (fun k _ e d => h.dx d e) (fun k e => Nat.lt_of_lt_of_le (h.xl k e) hb.size)
theorem GQ.put {X : Nat → Prop} {W w2 : World} {fl : Int} {l l' : List H} {b : Nat} {v v' : Value} (h : GQ X W fl l b v) (hm : Mw (fun k => v.ownBlock = some k) (fun k => v'.ownBlock = some k) W w2) (hr : OwR cH 56 w2 v' l') (hl : l'.length ≤ 256) :
    GQ X (w2.setCell ⟨b, 0, none⟩ v') fl l' b v' ∧ Mw (D b v) (D b v') W (w2.setCell ⟨b, 0, none⟩ v') := by
  have hb := (hm.fr.block b h.lt (fun e => h.nb e)).trans h.blk
  have nb' : v'.ownBlock ≠ some b := fun e => h.nb (hm.new b h.lt e)
  have f1 : Fr (fun k => k = b) w2 (w2.setCell ⟨b, 0, none⟩ v') := (Fr.refl _ _).setCell _ _ (Or.inl rfl)
  refine ⟨⟨?_, hr.keep f1 (fun g e s => nb' (by rw [← s]; exact e)), nb', h.xb, fun k e s => h.xv k (hm.new k (h.xl k s) e) s, fun k e => Nat.lt_of_lt_of_le (h.xl k e) (Nat.le_trans hm.fr.size f1.size), hl⟩, ⟨?_, ?_⟩⟩
  · have := heap_setCell_same w2 b 0 _ _ v' hb
    rw [this]
    rfl
  · exact (hm.fr.wide (fun i e => Or.inr e)).then (f1.wide (fun i e => Or.inl e))
  · intro k hk e
    rcases e with e | e
    · exact Or.inl e
    · exact Or.inr (hm.new k hk e)
theorem GQ.floor {X : Nat → Prop} {W : World} {fl : Int} {l : List H} {b : Nat} {v : Value} (h : GQ X W fl l b v) (t : Int) :
    GQ X (W.setCell ⟨b, 1, none⟩ (.int .i64 t)) t l b v ∧ Mw (D b v) (D b v) W (W.setCell ⟨b, 1, none⟩ (.int .i64 t)) := by
  have f1 : Fr (fun k => k = b) W (W.setCell ⟨b, 1, none⟩ (.int .i64 t)) := (Fr.refl _ _).setCell _ _ (Or.inl rfl)
  refine ⟨⟨?_, h.row.keep f1 (fun g e s => h.nb (by rw [← s]; exact e)), h.nb, h.xb, h.xv, fun k e => Nat.lt_of_lt_of_le (h.xl k e) f1.size, h.cap⟩, ⟨f1.wide (fun i e => Or.inl e), fun _ _ e => e⟩⟩
  have := heap_setCell_same W b 1 _ _ (.int .i64 t) h.blk
  rw [this]
  rfl
/-! ### What is told of a gate, as plain data -/
def leH (x y : H) : Bool := !klt y.1 x.1
theorem leH_tot : Stb.Tot leH := ⟨fun a b c h g => by unfold leH at *; simp only [Bool.not_eq_true'] at *; exact kle_trans h g, fun a b => by
  unfold leH
  cases h : klt b.1 a.1
  · exact Or.inl rfl
  · exact Or.inr (by rw [klt_asymm h]; rfl)⟩
def holdE (fl : Int) (L : List H) (x : H) : Int := if x.1.1 < fl then 110 else if 256 ≤ L.length then 2 else 0
def holdL (fl : Int) (L : List H) (x : H) : List H := if holdE fl L x = 0 then L ++ [x] else L
def befK (k : K) (x : H) : Bool := klt x.1 k
def low (t : Int) (x : H) : Bool := decide (x.1.1 < t)
def hasK (k : K) (x : H) : Bool := decide (x.2.1 = k)
def msgs (L : List H) : List M := L.map (fun x => x.2)
theorem msgs_len (L : List H) : (msgs L).length = L.length := by simp [msgs]
def dropG (k : K) (L : List H) : List M := msgs (L.filter (fun x => !befK k x))
def openG (t : Int) (L : List H) : List M := msgs (Stb.isort leH (L.filter (low t)))
theorem hold_len {fl : Int} {L : List H} {x : H} (h : L.length ≤ 256) : (holdL fl L x).length ≤ 256 := by
  unfold holdL
  split
  · rename_i e
    unfold holdE at e
    split at e
    · simp at e
    · split at e
      · simp at e
      · simp; omega
  · exact h
end Go.Proofs.Ytpkemgpnpadkfaa
