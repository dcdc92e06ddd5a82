/- Proved: what copy, clear and append of zero messages do to rows of messages (six cells each). -/
import Derived.Test.YtjkcdkoomipfkaaBase
import Derived.Laws.CopyRow
import Derived.Lib.SliceRun
import Derived.Lib.AppendZerosOnto
import Derived.Lib.Overlaps
import Derived.Shelf.Spec.SlicesInsert
namespace Go.Proofs.Ytjkcdkoomipfkaa
open Go.RowKit Go.Sort Go.Lib
set_option linter.unusedVariables false

theorem run_copy6 {P : Program} (w : World) (dT sT ty elem : TypeId) (g o dLen dCap : Nat) (a : Addr) (sLen sCap : Nat) (cur : Array Value) (t : TypeId) (cs : List Value)
    (hu : P.underlying dT = some (.slice elem)) (hs : (P.info? elem).map (·.size) = some 6)
    (hg : w.heap[g]? = some (.cells cur t (0, 0))) (k : Nat) (hk : Nat.min sLen dLen = k) (hn : cs.length = k * 6)
    (hsrc : ∀ j v, cs[j]? = some v → w.cell? (a.add j) = some v) (hfit : o + cs.length ≤ cur.size) (h1 : ∀ v ∈ cs, v.oneCell' = true) :
    (Builtin.copy_ #[dT, sT] ty #[.slice (some ⟨g, o, none⟩) dLen dCap, .slice (some a) sLen sCap]).run P w =
      .ok (goInt k) (w.setRow g (cur.toList.take o ++ cs ++ cur.toList.drop (o + cs.length)).toArray) := by
  have hl := run_loadCells_list (P := P) w a cs hsrc
  have hst := run_storeCells_at P g o t cs 0 cur w hg (by simpa using hfit) h1
  cases hq : P.info? elem with
  | none => simp [hq] at hs
  | some i =>
    have hi : i.size = 6 := by simpa [hq] using hs
    rw [hn] at hl
    simp [Builtin.copy_, run_underlying hu, Builtin.lenOf, Builtin.firstCells, sizeOf, typeInfo, hq, hi, hk, hl, hst]

theorem run_clear6 {P : Program} (w : World) (t e : TypeId) (z : Value) (ht : P.underlying t = some (.slice e)) (hv : ∀ w, (zeroValue e).run P w = .ok z w) (hz : z.cells.size = 6) (h1 : ∀ v ∈ z.cells, v.oneCell' = true) (g o n : Nat) (hn : 0 < n)
    (cur : Array Value) (tt : TypeId) (hg : w.heap[g]? = some (.cells cur tt (0, 0))) (hfit : o + n * 6 ≤ cur.size) :
    ∃ row : Array Value, row.size = cur.size ∧ (∀ k, k ≤ o → row.toList.take k = cur.toList.take k) ∧ ∀ ty c, (Builtin.clear_ #[t] ty #[.slice (some ⟨g, o, none⟩) n c]).run P w = .ok (.tuple #[]) (w.setRow g row) := by
  obtain ⟨m, rfl⟩ : ∃ m, n = m + 1 := ⟨n - 1, by omega⟩
  have hlen : (Builtin.zeroCells z.cells (m + 1)).toList.length = (m + 1) * 6 := by simp [Builtin.zeroCells, hz]
  have hone : ∀ v ∈ (Builtin.zeroCells z.cells (m + 1)).toList, v.oneCell' = true := by
    intro v hv
    simp only [Builtin.zeroCells, Array.toList_map, List.mem_map, Array.mem_toList_iff, Array.mem_range] at hv
    obtain ⟨j, hj, rfl⟩ := hv
    have hj6 : j % z.cells.size < z.cells.size := Nat.mod_lt _ (by omega)
    rw [getElem!_pos z.cells _ hj6]
    exact h1 _ (Array.getElem_mem _)
  have hst := run_storeCells_at P g o tt (Builtin.zeroCells z.cells (m + 1)).toList 0 cur w hg (by rw [hlen]; omega) hone
  simp only [Nat.add_zero] at hst
  refine ⟨_, ?_, ?_, fun ty c => by simp [Builtin.clear_, run_underlying ht, hv, hst]; rfl⟩
  · simp only [List.size_toArray, List.length_append, List.length_take, List.length_drop, Array.length_toList]
    rw [Array.length_toList] at hlen
    omega
  · intro k hk
    rw [List.take_append_of_le_length (by simp; omega), List.take_take, Nat.min_eq_left hk]

/-- A row that holds n messages, seen as a block. -/
theorem Own.block {w : World} {g n cap : Nat} {l : List M} (h : Own w (.slice (some ⟨g, 0, none⟩) n cap) l) :
    n = l.length ∧ ∃ cur, w.heap[g]? = some (.cells cur 32 (0, 0)) ∧ l.length ≤ cap ∧ cap ≤ maxLen ∧ cur.size = cap * 6 ∧ cur.toList.take (l.length * 6) = flat l := by
  rcases h.2 with ⟨h0, _⟩ | ⟨g', cap', cur, hv, hb, hg, hnc, hcm, hcs, ht⟩
  · simp at h0
  · simp at hv
    obtain ⟨rfl, rfl, rfl⟩ := hv
    exact ⟨rfl, cur, hg, hnc, hcm, hcs, ht⟩
theorem own_of_block {w : World} {g cap : Nat} {l : List M} {cur : Array Value} (hg : w.heap[g]? = some (.cells cur 32 (0, 0))) (h1 : l.length ≤ cap) (h2 : cap ≤ maxLen) (h3 : cur.size = cap * 6) (h4 : cur.toList.take (l.length * 6) = flat l) :
    Own w (.slice (some ⟨g, 0, none⟩) l.length cap) l := ⟨flat_len l, .inr ⟨g, cap, cur, rfl, Nat.zero_le _, hg, h1, h2, h3, h4⟩⟩
/-- The first i of them. -/
theorem Own.takeN {w : World} {g n cap : Nat} {l : List M} (h : Own w (.slice (some ⟨g, 0, none⟩) n cap) l) (i : Nat) (hi : i ≤ l.length) : Own w (.slice (some ⟨g, 0, none⟩) i cap) (l.take i) := by
  obtain ⟨rfl, cur, hg, h1, h2, h3, h4⟩ := h.block
  have hl : (l.take i).length = i := by rw [List.length_take]; omega
  have := own_of_block (w := w) (g := g) (cap := cap) (l := l.take i) hg (by omega) h2 h3 (by
    rw [hl, flat_take, ← h4, List.take_take]; congr 1; omega)
  rwa [hl] at this
theorem fr_setRow (w : World) (g : Nat) (cs : Array Value) : Fr (fun k => k = g) w (w.setRow g cs) := ⟨rfl, rfl, rfl, by simp [World.setRow], fun k hk hn => setRow_other w g k cs (fun e => hn e)⟩
theorem flat_drop (l : List M) (n : Nat) : flat (l.drop n) = (flat l).drop (n * 6) := by
  by_cases h : n ≤ l.length
  · have e : flat l = flat (l.take n) ++ flat (l.drop n) := by rw [← flat_append, List.take_append_drop]
    have h2 : (flat (l.take n)).length = n * 6 := by rw [flat_len, List.length_take]; congr 1; omega
    rw [e, ← h2, List.drop_left]
  · rw [List.drop_of_length_le (by omega), List.drop_of_length_le (by rw [flat_len]; omega)]; rfl
/-- The cells of a row of messages, from its message o on. -/
theorem Own.cellsFrom {w : World} {g n cap : Nat} {l : List M} (h : Own w (.slice (some ⟨g, 0, none⟩) n cap) l) (o : Nat) : ∀ j v, (flat (l.drop o))[j]? = some v → w.cell? ⟨g, o * 6 + j, none⟩ = some v := by
  obtain ⟨rfl, _⟩ := h.block
  intro j v hj
  rw [flat_drop, List.getElem?_drop] at hj
  have hlt : o * 6 + j < l.length * 6 := by
    have := (List.getElem?_eq_some_iff.1 hj).1
    rwa [flat_len] at this
  rw [World.ownsRow.cellAt h _ hlt]
  exact hj

/-- Two copies that make room at i and put one message there. -/
theorem own_insert {w : World} {g n cap i : Nat} {l : List M} {m : M} (h : Own w (.slice (some ⟨g, 0, none⟩) n cap) l) (hi : i ≤ l.length) (hroom : l.length + 1 ≤ cap) :
    ∃ cur, w.heap[g]? = some (.cells cur 32 (0, 0)) ∧ (i + 1) * 6 + (flat (l.drop i)).length ≤ cur.size ∧
    ∃ row1 : Array Value, row1 = (cur.toList.take ((i + 1) * 6) ++ flat (l.drop i) ++ cur.toList.drop ((i + 1) * 6 + (flat (l.drop i)).length)).toArray ∧ row1.size = cur.size ∧
      ∀ w2 : World, w2.heap[g]? = some (.cells (row1.toList.take (i * 6) ++ enc m ++ row1.toList.drop (i * 6 + (enc m).length)).toArray 32 (0, 0)) → Own w2 (.slice (some ⟨g, 0, none⟩) (n + 1) cap) (l.take i ++ [m] ++ l.drop i) := by
  obtain ⟨rfl, cur, hg, h1, h2, h3, h4⟩ := h.block
  have hd : (flat (l.drop i)).length = (l.length - i) * 6 := by rw [flat_len, List.length_drop]
  refine ⟨cur, hg, by rw [hd]; omega, _, rfl, ?_, ?_⟩
  · simp only [List.size_toArray, List.length_append, List.length_take, List.length_drop, Array.length_toList, hd]
    omega
  · intro w2 hg2
    have hl2 : (l.take i ++ [m] ++ l.drop i).length = l.length + 1 := by simp; omega
    have := own_of_block (w := w2) (g := g) (cap := cap) (l := l.take i ++ [m] ++ l.drop i) hg2 (by omega) h2 ?_ ?_
    · rwa [hl2] at this
    · simp only [List.size_toArray, List.length_append, List.length_take, List.length_drop, Array.length_toList, hd, enc_len]
      omega
    · have e1 : cur.toList.take (i * 6) = flat (l.take i) := by rw [flat_take, ← h4, List.take_take]; congr 1; omega
      have e2 : (cur.toList.take ((i + 1) * 6) ++ flat (l.drop i) ++ cur.toList.drop ((i + 1) * 6 + (flat (l.drop i)).length)).take (i * 6) = flat (l.take i) := by
        rw [List.append_assoc, List.take_append_of_le_length (by simp; omega), List.take_take, Nat.min_eq_left (by omega), e1]
      have e3 : (cur.toList.take ((i + 1) * 6) ++ flat (l.drop i) ++ cur.toList.drop ((i + 1) * 6 + (flat (l.drop i)).length)).drop (i * 6 + (enc m).length) = flat (l.drop i) ++ cur.toList.drop ((i + 1) * 6 + (flat (l.drop i)).length) := by
        rw [List.append_assoc, List.drop_append_of_le_length (by simp [enc_len]; omega), List.drop_of_length_le (by simp [enc_len]; omega)]
        rfl
      rw [hl2]
      rw [e2, e3, flat_append, flat_append, flat_one]
      rw [← List.append_assoc, List.take_append_of_le_length (by simp only [List.length_append, flat_len, enc_len, List.length_take, List.length_drop]; omega)]
      rw [List.take_of_length_le (by simp only [List.length_append, flat_len, enc_len, List.length_take, List.length_drop]; omega)]
end Go.Proofs.Ytjkcdkoomipfkaa
