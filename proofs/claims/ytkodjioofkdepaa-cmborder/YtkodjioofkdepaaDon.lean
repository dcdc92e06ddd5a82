/- Proved: rows of what was taken. -/
import Derived.Test.YtkodjioofkdepaaCln
import Derived.Test.YtkodjioofkdepaaJSpD
namespace Go.Proofs.Ytkodjioofkdepaa
open Go.RowKit Go.Shelf
set_option linter.unusedVariables false
set_option maxRecDepth 100000

theorem own_lt {w : World} {b0 e size n : Nat} {v : Value} {xs : List Value} (h : w.ownsRow b0 e size v n xs) {g : Nat} (hg : v.ownBlock = some g) : g < w.heap.size ∧ b0 ≤ g := by
  rcases h.2 with ⟨rfl, hn⟩ | ⟨g', cap, cur, rfl, hb, hh, _⟩
  · simp [Value.ownBlock] at hg
  · simp [Value.ownBlock] at hg
    subst hg
    exact ⟨(Array.getElem?_eq_some_iff.1 hh).1, hb⟩
theorem own_below {w W : World} {b0 e size n : Nat} {v : Value} {xs : List Value} (h : w.ownsRow b0 e size v n xs) (hb : Below w.heap.size w W) : W.ownsRow b0 e size v n xs := by
  refine ⟨h.1, ?_⟩
  rcases h.2 with g | ⟨g, cap, cur, h1, h2, h3, h4⟩
  · exact .inl g
  · exact .inr ⟨g, cap, cur, h1, h2, (hb.block g (Array.getElem?_eq_some_iff.1 h3).1).trans h3, h4⟩
theorem own_keep {S : Nat → Prop} {w W : World} {b0 e size n : Nat} {v : Value} {xs : List Value} (h : w.ownsRow b0 e size v n xs) (hf : Fr S w W) (hs : ∀ g, v.ownBlock = some g → ¬ S g) : W.ownsRow b0 e size v n xs := by
  refine ⟨h.1, ?_⟩
  rcases h.2 with g | ⟨g, cap, cur, h1, h2, h3, h4⟩
  · exact .inl g
  · subst h1
    exact .inr ⟨g, cap, cur, rfl, h2, (hf.block g (Array.getElem?_eq_some_iff.1 h3).1 (hs g rfl)).trans h3, h4⟩
/-! ### Rows of what is done -/
abbrev dv (x : Dn) : Value := .agg #[.int .i64 x.m.t, .int .i64 x.m.fr, .int .i64 x.m.sq, .int .i64 x.m.dst, .int .i64 x.m.cl, .int .i64 x.m.bd, .int .i64 x.s]
abbrev dcs (x : Dn) : Array Value := #[.int .i64 x.m.t, .int .i64 x.m.fr, .int .i64 x.m.sq, .int .i64 x.m.dst, .int .i64 x.m.cl, .int .i64 x.m.bd, .int .i64 x.s]
def encD (x : Dn) : List Value := [.int .i64 x.m.t, .int .i64 x.m.fr, .int .i64 x.m.sq, .int .i64 x.m.dst, .int .i64 x.m.cl, .int .i64 x.m.bd, .int .i64 x.s]
theorem encD_len (x : Dn) : (encD x).length = 7 := rfl
theorem encD_one (x : Dn) : ∀ v ∈ encD x, v.oneCell' = true := by
  intro v hv
  simp [encD] at hv
  rcases hv with rfl | rfl | rfl | rfl | rfl | rfl | rfl <;> rfl
def flatD (l : List Dn) : List Value := l.flatMap encD
theorem flatD_len (l : List Dn) : (flatD l).length = l.length * 7 := by
  induction l with
  | nil => rfl
  | cons x r ih => simp only [flatD, List.flatMap_cons, List.length_append, encD_len, List.length_cons] at *; omega
theorem flatD_append (a b : List Dn) : flatD (a ++ b) = flatD a ++ flatD b := by simp [flatD]
theorem flatD_get (l : List Dn) (i c : Nat) (hi : i < l.length) (hc : c < 7) : (flatD l)[i * 7 + c]? = (encD (nthD l i))[c]? := by
  induction l generalizing i with
  | nil => simp at hi
  | cons x r ih =>
    rw [show flatD (x :: r) = encD x ++ flatD r by simp [flatD]]
    cases i with
    | zero => rw [List.getElem?_append_left (by rw [encD_len]; omega)]; simp [nthD]
    | succ j =>
      rw [List.getElem?_append_right (by rw [encD_len]; omega), encD_len, show (j + 1) * 7 + c - 7 = j * 7 + c by omega, ih j (by simpa using hi)]
      simp [nthD]
theorem flatD_one (l : List Dn) : ∀ v ∈ flatD l, v.oneCell' = true := by
  intro v hv
  obtain ⟨m, _, h⟩ := List.mem_flatMap.1 hv
  exact encD_one m v h
def RdD (w : World) (a : Option Addr) (l : List Dn) : Prop :=
  l ≠ [] → ∃ b off, a = some ⟨b, off, none⟩ ∧ b < w.heap.size ∧ ∀ i, i < l.length → ∀ c, c < 7 → w.cell? ⟨b, off + i * 7 + c, none⟩ = (encD (nthD l i))[c]?
theorem RdD.below {w w' : World} {a : Option Addr} {l : List Dn} (h : RdD w a l) (hb : Below w.heap.size w w') : RdD w' a l := fun g => by
  obtain ⟨b, off, rfl, hB, hc⟩ := h g
  exact ⟨b, off, rfl, Nat.lt_of_lt_of_le hB hb.size, fun i hi c hc3 => (hb.cell (p := ⟨b, off + i * 7 + c, none⟩) hB).trans (hc i hi c hc3)⟩
theorem RdD.cells {w : World} {a : Option Addr} {l : List Dn} (h : RdD w a l) {i : Nat} (hi : i < l.length) {x : Dn} (hx : nthD l i = x) :
    ∃ b off, a = some ⟨b, off, none⟩ ∧ b < w.heap.size ∧ w.cell? ⟨b, off + i * 7, none⟩ = some (.int .i64 x.m.t) ∧ w.cell? ⟨b, off + i * 7 + 1, none⟩ = some (.int .i64 x.m.fr) ∧ w.cell? ⟨b, off + i * 7 + 2, none⟩ = some (.int .i64 x.m.sq) ∧ w.cell? ⟨b, off + i * 7 + 3, none⟩ = some (.int .i64 x.m.dst) ∧ w.cell? ⟨b, off + i * 7 + 4, none⟩ = some (.int .i64 x.m.cl) ∧ w.cell? ⟨b, off + i * 7 + 5, none⟩ = some (.int .i64 x.m.bd) ∧ w.cell? ⟨b, off + i * 7 + 6, none⟩ = some (.int .i64 x.s) := by
  obtain ⟨b, off, rfl, hB, hc⟩ := h (by intro e; simp [e] at hi)
  subst hx
  exact ⟨b, off, rfl, hB, hc i hi 0 (by omega), hc i hi 1 (by omega), hc i hi 2 (by omega), hc i hi 3 (by omega), hc i hi 4 (by omega), hc i hi 5 (by omega), hc i hi 6 (by omega)⟩
theorem rdD_row {w' : World} {b0 : Nat} {a' : Option Addr} {c' : Nat} {l : List Dn} (h : w'.ownsRow b0 49 7 (.slice a' l.length c') l.length (flatD l)) : RdD w' a' l := by
  have h0 := h
  rcases h.2 with ⟨e, hn⟩ | ⟨g, cap, cur, e, _, hg, _⟩
  · exact fun g => absurd (List.length_eq_zero_iff.1 hn) g
  · simp at e
    obtain ⟨rfl, rfl⟩ := e
    refine fun _ => ⟨g, 0, rfl, (Array.getElem?_eq_some_iff.1 hg).1, fun i hi c hc => ?_⟩
    rw [Nat.zero_add, World.ownsRow.cellAt h0 _ (by omega), flatD_get l i c hi hc]
theorem RdD.flat {w : World} {a : Option Addr} {l : List Dn} (h : RdD w a l) (hl : l.length ≠ 0) : ∃ b off, a = some ⟨b, off, none⟩ ∧ b < w.heap.size ∧ ∀ j u, (flatD l)[j]? = some u → w.cell? ⟨b, off + j, none⟩ = some u := by
  obtain ⟨b, off, e, hB, hc⟩ := h (fun e => hl (by simp [e]))
  refine ⟨b, off, e, hB, fun j u hj => ?_⟩
  have hj' : j < l.length * 7 := by have := (List.getElem?_eq_some_iff.1 hj).1; rwa [flatD_len] at this
  obtain ⟨h1, h2, h3⟩ := flat_div hj' (by omega)
  have h4 := hc (j / 7) h1 (j % 7) h2
  rw [← flatD_get l _ _ h1 h2, Nat.add_assoc, h3] at h4
  rw [h4, hj]

end Go.Proofs.Ytkodjioofkdepaa
