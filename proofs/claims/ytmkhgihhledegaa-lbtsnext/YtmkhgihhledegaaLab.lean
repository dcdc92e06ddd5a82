/- Proved: a member made later in its box, beside a row and an array; nobody's bound is earlier. -/
import Derived.Test.YtmkhgihhledegaaCrw
import Derived.Test.YtmkhgihhledegaaFit
namespace Go.Proofs.Ytmkhgihhledegaa
open Go.RowKit Go.Shelf
open L (Mb IsG lbt oth outM cnt vadd)
set_option linter.unusedVariables false

theorem cnt_vadd (t : Int) {d : Int} : cnt t ≤ cnt (vadd t d) := by
  unfold L.vadd
  rw [L.cnt_cnt]
  have h := L.cnt_lo d
  have := L.cnt_mono (show cnt t ≤ cnt t + cnt d by omega)
  rw [L.cnt_cnt] at this
  exact this
/-- A member that is later. -/
def ltr (m : Mb) (a b c d : Int) (g : Bool) : Mb := ⟨if g = true then false else m.re, m.co, vadd m.ti a, max 1 (min m.lo 1048576) + d, m.ki, vadd m.ak b, vadd m.fi c⟩
theorem ltr_lat (m : Mb) (a b c : Int) {d : Int} (h : 0 ≤ d) (g : Bool) : L.Lat m (ltr m a b c d g) := by
  cases g
  · exact L.Lat.of rfl rfl rfl (cnt_vadd _) (cnt_vadd _) (cnt_vadd _) (by unfold L.look ltr; dsimp only; omega)
  · exact L.Lat.off _ rfl
theorem ltr_set {l : List Mb} {k n : Nat} (hn : l.length = n) (hk : k < n) {O P : Nat → Int} (a b c : Int) {d : Int} (h : 0 ≤ d) (g : Bool) (hG : IsG l O) (hP : IsG (l.set k (ltr (L.nth l k) a b c d g)) P) (i : Int) : lbt l O i ≤ lbt (l.set k (ltr (L.nth l k) a b c d g)) P i := by
  refine (hG.lats hP (by rw [List.length_set]) (fun j hj => ?_)).2 i
  rw [L.nth_set (by rw [hn]; exact hk)]
  by_cases e : j = k
  · subst e; rw [if_pos rfl]; exact ltr_lat _ _ _ _ h _
  · rw [if_neg e]; exact L.Lat.refl _
/-- A box of a member. -/
structure Bx (W : World) (q : Nat) (m : Mb) : Prop where
  lt : q < W.heap.size
  c0 : W.cell? ⟨q, 0, none⟩ = some (.bool m.re) ∧ W.frozen? ⟨q, 0, none⟩ = false
  c1 : W.cell? ⟨q, 1, none⟩ = some (.bool m.co) ∧ W.frozen? ⟨q, 1, none⟩ = false
  c2 : W.cell? ⟨q, 2, none⟩ = some (.int .i64 m.ti) ∧ W.frozen? ⟨q, 2, none⟩ = false
  c3 : W.cell? ⟨q, 3, none⟩ = some (.int .i64 m.lo) ∧ W.frozen? ⟨q, 3, none⟩ = false
  c4 : W.cell? ⟨q, 4, none⟩ = some (.int .i64 m.ki) ∧ W.frozen? ⟨q, 4, none⟩ = false
  c5 : W.cell? ⟨q, 5, none⟩ = some (.int .i64 m.ak) ∧ W.frozen? ⟨q, 5, none⟩ = false
  c6 : W.cell? ⟨q, 6, none⟩ = some (.int .i64 m.fi) ∧ W.frozen? ⟨q, 6, none⟩ = false
theorem Bx.new (W : World) (m : Mb) : Bx (W.alloc (.cells #[.bool m.re, .bool m.co, .int .i64 m.ti, .int .i64 m.lo, .int .i64 m.ki, .int .i64 m.ak, .int .i64 m.fi] 33)) W.heap.size m :=
  ⟨by simp, ⟨cellN _ _ _ 0, frozN _ _ _ 0⟩, ⟨cellN _ _ _ 1, frozN _ _ _ 1⟩, ⟨cellN _ _ _ 2, frozN _ _ _ 2⟩, ⟨cellN _ _ _ 3, frozN _ _ _ 3⟩, ⟨cellN _ _ _ 4, frozN _ _ _ 4⟩, ⟨cellN _ _ _ 5, frozN _ _ _ 5⟩, ⟨cellN _ _ _ 6, frozN _ _ _ 6⟩⟩
theorem set_o {W : World} {q i j : Nat} {v u : Value} (hij : j ≠ i) (h : W.cell? ⟨q, j, none⟩ = some u ∧ W.frozen? ⟨q, j, none⟩ = false) : (W.setCell ⟨q, i, none⟩ v).cell? ⟨q, j, none⟩ = some u ∧ (W.setCell ⟨q, i, none⟩ v).frozen? ⟨q, j, none⟩ = false :=
  ⟨by rw [World.cell?_setCell_other _ _ _ _ (by intro e; exact hij (by cases e; rfl))]; exact h.1, by rw [World.frozen?_setCell]; exact h.2⟩
theorem set_s {W : World} {q i : Nat} {v u : Value} (h : W.cell? ⟨q, i, none⟩ = some u ∧ W.frozen? ⟨q, i, none⟩ = false) : (W.setCell ⟨q, i, none⟩ v).cell? ⟨q, i, none⟩ = some v ∧ (W.setCell ⟨q, i, none⟩ v).frozen? ⟨q, i, none⟩ = false :=
  ⟨World.cell?_setCell_same' _ _ _ (by rw [h.1]; rfl), by rw [World.frozen?_setCell]; exact h.2⟩
theorem Bx.s0 {W : World} {q : Nat} {m : Mb} (h : Bx W q m) (x : Bool) : Bx (W.setCell ⟨q, 0, none⟩ (.bool x)) q { m with re := x } := ⟨by simpa using h.lt, set_s h.c0, set_o (by decide) h.c1, set_o (by decide) h.c2, set_o (by decide) h.c3, set_o (by decide) h.c4, set_o (by decide) h.c5, set_o (by decide) h.c6⟩
theorem Bx.s2 {W : World} {q : Nat} {m : Mb} (h : Bx W q m) (x : Int) : Bx (W.setCell ⟨q, 2, none⟩ (.int .i64 x)) q { m with ti := x } := ⟨by simpa using h.lt, set_o (by decide) h.c0, set_o (by decide) h.c1, set_s h.c2, set_o (by decide) h.c3, set_o (by decide) h.c4, set_o (by decide) h.c5, set_o (by decide) h.c6⟩
theorem Bx.s3 {W : World} {q : Nat} {m : Mb} (h : Bx W q m) (x : Int) : Bx (W.setCell ⟨q, 3, none⟩ (.int .i64 x)) q { m with lo := x } := ⟨by simpa using h.lt, set_o (by decide) h.c0, set_o (by decide) h.c1, set_o (by decide) h.c2, set_s h.c3, set_o (by decide) h.c4, set_o (by decide) h.c5, set_o (by decide) h.c6⟩
theorem Bx.s5 {W : World} {q : Nat} {m : Mb} (h : Bx W q m) (x : Int) : Bx (W.setCell ⟨q, 5, none⟩ (.int .i64 x)) q { m with ak := x } := ⟨by simpa using h.lt, set_o (by decide) h.c0, set_o (by decide) h.c1, set_o (by decide) h.c2, set_o (by decide) h.c3, set_o (by decide) h.c4, set_s h.c5, set_o (by decide) h.c6⟩
theorem Bx.s6 {W : World} {q : Nat} {m : Mb} (h : Bx W q m) (x : Int) : Bx (W.setCell ⟨q, 6, none⟩ (.int .i64 x)) q { m with fi := x } := ⟨by simpa using h.lt, set_o (by decide) h.c0, set_o (by decide) h.c1, set_o (by decide) h.c2, set_o (by decide) h.c3, set_o (by decide) h.c4, set_o (by decide) h.c5, set_s h.c6⟩
/-- The array of what is added. -/
structure Ay (W : World) (q : Nat) (a b c d : Int) : Prop where
  lt : q < W.heap.size
  a : W.cell? ⟨q, 0, none⟩ = some (.int .u16 a)
  b : W.cell? ⟨q, 1, none⟩ = some (.int .u16 b)
  c : W.cell? ⟨q, 2, none⟩ = some (.int .u16 c)
  d : W.cell? ⟨q, 3, none⟩ = some (.int .u16 d)
theorem Ay.keep {S : Nat → Prop} {W W2 : World} {q : Nat} {a b c d : Int} (h : Ay W q a b c d) (hf : Fr S W W2) (hn : ¬ S q) : Ay W2 q a b c d :=
  ⟨Nat.lt_of_lt_of_le h.lt hf.size, (hf.cell (p := ⟨q, 0, none⟩) h.lt hn).trans h.a, (hf.cell (p := ⟨q, 1, none⟩) h.lt hn).trans h.b, (hf.cell (p := ⟨q, 2, none⟩) h.lt hn).trans h.c, (hf.cell (p := ⟨q, 3, none⟩) h.lt hn).trans h.d⟩
/-- What holds while a member is made later in its box. -/
structure La (w W : World) (g n : Nat) (l : List Mb) (q : Nat) (m : Mb) (qy : Nat) (a b c d : Int) : Prop where
  cr : Cr w W g n l
  bx : Bx W q m
  ay : Ay W qy a b c d
  n1 : g ≠ q
  n2 : qy ≠ q
  ge : w.heap.size ≤ q
theorem La.new {w W : World} {g n : Nat} {l : List Mb} (m : Mb) {qy : Nat} {a b c d : Int} (h : Cr w W g n l) (ha : Ay W qy a b c d) : La w (W.alloc (.cells #[.bool m.re, .bool m.co, .int .i64 m.ti, .int .i64 m.lo, .int .i64 m.ki, .int .i64 m.ak, .int .i64 m.fi] 33)) g n l W.heap.size m qy a b c d :=
  ⟨h.on (al _ _), Bx.new W m, ha.keep (Fr.of_below (S := fun _ => False) (al _ _)) (fun e => e), by have := h.lt; omega, by have := ha.lt; omega, h.bel.size⟩
theorem La.set {w W : World} {g n : Nat} {l : List Mb} {q : Nat} {m m2 : Mb} {qy : Nat} {a b c d : Int} (h : La w W g n l q m qy a b c d) (i : Nat) (v : Value) (hb : Bx (W.setCell ⟨q, i, none⟩ v) q m2) : La w (W.setCell ⟨q, i, none⟩ v) g n l q m2 qy a b c d := by
  have hf : Fr (fun k => k = q) W (W.setCell ⟨q, i, none⟩ v) := (Fr.refl _ _).setCell _ _ (.inl rfl)
  exact ⟨h.cr.keep hf h.n1 (fun i e => by rw [e]; exact h.ge), hb, h.ay.keep hf h.n2, h.n1, h.n2, h.ge⟩
end Go.Proofs.Ytmkhgihhledegaa
