/- Proved: how the keys of messages stand in the map of places, and what the map says of a list of messages. -/
import Derived.Test.YtkodjioofkdepaaQBase
namespace Go.Proofs.Ytkodjioofkdepaa.Q
open Go.RowKit Go.Sort
set_option linter.unusedVariables false
set_option maxRecDepth 100000

theorem keyed28 : Maps.Keyed Try.prog 34 := Maps.Keyed.of_law (deep_law_laid (m := 10) (by kernel_rfl) (by omega) (of_decide_eq_true (by kernel_rfl)) (by kernel_rfl) (by kernel_rfl))
theorem prog_types : ∃ m, Try.prog.types.size = m + 2 := by
  have h : decide (2 ≤ Try.prog.types.size) = true := by kernel_rfl
  have := of_decide_eq_true h
  exact ⟨Try.prog.types.size - 2, by omega⟩
def klP (P : Program) (k : K) : Lit := (keyOf P 34 (kv k)).getD (.int .i64 0)
theorem i64_wf {x : Int} (h : i64 x) : (Lit.int .i64 x).wf = true := by unfold i64 at h; exact WalkArith.wf_i64 (by omega)
theorem key28 : Try.prog.keyType 34 = true := by kernel_rfl
theorem keyLits28 (d : Nat) (a b c : Int) (ha : (Lit.int .i64 a).wf = true) (hb : (Lit.int .i64 b).wf = true) (hc : (Lit.int .i64 c).wf = true) : (Try.prog.keyLits (d + 2) 34 [.int .i64 a, .int .i64 b, .int .i64 c]).isSome = true := by
  have h3 : Try.prog.cellsOf 34 = 3 := by kernel_rfl
  have h1 : Try.prog.cellsOf 3 = 1 := by kernel_rfl
  unfold Program.keyLits
  simp only [Try.underlying34]
  rw [if_pos (by refine ⟨by rw [h3]; rfl, by simp⟩)]
  simp [h1, Program.keyLits, Try.underlying3, ha, hb, hc]
theorem kl_some {k : K} (h : kwf k) : keyOf Try.prog 34 (kv k) = some (klP Try.prog k) := by
  obtain ⟨m, hm⟩ := prog_types
  have h3 : Try.prog.cellsOf 34 = 3 := by kernel_rfl
  have hs : (keyOf Try.prog 34 (kv k)).isSome = true := by
    have hl := keyLits28 (m + 1) k.1 k.2.1 k.2.2 (i64_wf h.1) (i64_wf h.2.1) (i64_wf h.2.2)
    unfold keyOf
    simp only [Try.underlying34]
    rw [if_pos (by simp [key28, Value.formed, Try.underlying34, h3]), hm]
    simp only [Value.cells, Option.isSome_map]
    exact hl
  unfold klP
  obtain ⟨l, hl⟩ := Option.isSome_iff_exists.1 hs
  rw [hl]; rfl
theorem kl_inj {a b : K} (ha : kwf a) (hb : kwf b) (h : klP Try.prog a = klP Try.prog b) : a = b := by
  have h1 := kl_some ha
  have h2 := kl_some hb
  rw [h] at h1
  have h3 := keyed28.inj h1 h2
  obtain ⟨a1, a2, a3⟩ := a
  obtain ⟨b1, b2, b3⟩ := b
  simpa [kv] using h3
theorem kl_lit {k : K} (h : kwf k) : WideAt.IsKeyLit (klP Try.prog k) := keyed28.key (kl_some h)

abbrev num (i : Int) : DataW Unit := .lit (.int .i64 i)
/-- The map at block b tells of each message of d at which place it stands, and of no other key. -/
def MapIs (w : World) (b : Nat) (d : List M) : Prop :=
  ∃ D : DataW Unit, w.ownsMap Try.prog 34 (plainElem Try.prog 3) b d.length D ∧ (∀ k, kwf k → (Maps.has D (klP Try.prog k) = true ↔ k ∈ d.map Prod.fst)) ∧ (∀ i (h : i < d.length), D.atKey (klP Try.prog d[i].1) (num 0) = num i)

theorem ownsMap_size {w : World} {b n m : Nat} {D : DataW Unit} (h : w.ownsMap Try.prog 34 (plainElem Try.prog 3) b n D) (hm : Maps.size D ≤ m) : w.ownsMap Try.prog 34 (plainElem Try.prog 3) b m D := by
  obtain ⟨es, clock, h1, h2, h3, rfl⟩ := h
  refine ⟨es, clock, h1, h2, ?_, rfl⟩
  simpa [Maps.size, length_sorted] using hm
theorem MapIs.keep {S : Nat → Prop} {w w' : World} {b : Nat} {d : List M} (h : MapIs w b d) (hf : Fr S w w') (hb : ¬ S b) : MapIs w' b d := by
  obtain ⟨D, ⟨es, clock, h1, h2⟩, h3⟩ := h
  exact ⟨D, ⟨es, clock, (hf.block b (Array.getElem?_eq_some_iff.1 h1).1 hb).trans h1, h2⟩, h3⟩
theorem MapIs.lt {w : World} {b : Nat} {d : List M} (h : MapIs w b d) : b < w.heap.size := by
  obtain ⟨D, h1, _⟩ := h
  exact h1.lt
theorem MapIs.made (w : World) : MapIs (w.alloc (.map #[] 0)) w.heap.size [] :=
  ⟨.map [], World.ownsMap_made _ _ _ _, fun k _ => by simp [Maps.has], fun i h => by simp at h⟩
theorem MapIs.isMap {w : World} {b : Nat} {d : List M} (h : MapIs w b d) : ∃ es clock, w.heap[b]? = some (.map es clock) := by
  obtain ⟨D, ⟨es, clock, h1, _⟩, _⟩ := h
  exact ⟨es, clock, h1⟩

/-- d with the messages at i and j in each other's places. -/
def swapL (d : List M) (i j : Nat) : List M := (swp d.toArray i j).toList
theorem swapL_len (d : List M) (i j : Nat) : (swapL d i j).length = d.length := by simp [swapL, size_swp]
theorem swapL_get (d : List M) (i j t : Nat) (hi : i < d.length) (hj : j < d.length) (ht : t < d.length) : (swapL d i j)[t]'(by rw [swapL_len]; exact ht) = if t = j then d[i] else if t = i then d[j] else d[t] := by
  have h := swp_get d.toArray (i := i) (j := j) (by simpa using hi) (by simpa using hj) t
  have e : (swapL d i j)[t]'(by rw [swapL_len]; exact ht) = (swp d.toArray i j)[t]! := by
    rw [getElem!_pos _ _ (by rw [size_swp]; simpa using ht)]
    simp [swapL]
  rw [e, h]
  split
  · rw [getElem!_pos _ _ (by simpa using hi)]; simp
  · split
    · rw [getElem!_pos _ _ (by simpa using hj)]; simp
    · rw [getElem!_pos _ _ (by simpa using ht)]; simp

theorem put_size {D : DataW Unit} {k : Lit} (ht : Maps.Tidy D) (hh : Maps.has D k = true) (x : DataW Unit) : Maps.size (D.put k x) = Maps.size D := by
  rw [Maps.size_put ht, if_pos hh]
end Go.Proofs.Ytkodjioofkdepaa.Q
