/- Proved: rows of one-cell values: how they lie in memory, how they are made and written. -/
import Derived.Test.YtmkhgihhledegaaMbr
import Derived.Laws.MakeOwn
namespace Go.Proofs.Ytmkhgihhledegaa
open Go.RowKit Go.Shelf
set_option linter.unusedVariables false

def upV (f : Nat → Value) (i : Nat) (v : Value) : Nat → Value := fun j => if j = i then v else f j
structure Rv (w : World) (b n : Nat) (f : Nat → Value) : Prop where
  lt : b < w.heap.size
  c : ∀ i, i < n → w.cell? ⟨b, i, none⟩ = some (f i) ∧ w.frozen? ⟨b, i, none⟩ = false
theorem Rv.keep {S : Nat → Prop} {w w' : World} {b n : Nat} {f : Nat → Value} (h : Rv w b n f) (hf : Fr S w w') (hn : ¬ S b) : Rv w' b n f := ⟨Nat.lt_of_lt_of_le h.lt hf.size, fun i hi =>
  ⟨(hf.cell (p := ⟨b, i, none⟩) h.lt hn).trans (h.c i hi).1, (hf.frozen (p := ⟨b, i, none⟩) h.lt hn).trans (h.c i hi).2⟩⟩
theorem Rv.below {w w' : World} {b n : Nat} {f : Nat → Value} (h : Rv w b n f) (hb : Below w.heap.size w w') : Rv w' b n f := h.keep (Fr.of_below (S := fun _ => False) hb) (fun g => g)
theorem Rv.set {w : World} {b n : Nat} {f : Nat → Value} (h : Rv w b n f) (i : Nat) (v : Value) : Rv (w.setCell ⟨b, i, none⟩ v) b n (upV f i v) := ⟨by simpa using h.lt, fun j hj => by
  by_cases e : j = i
  · subst e
    refine ⟨?_, ?_⟩
    · rw [World.cell?_setCell_same' _ _ _ (by rw [(h.c j hj).1]; rfl)]
      simp [upV]
    · rw [World.frozen?_setCell]; exact (h.c j hj).2
  · refine ⟨?_, ?_⟩
    · rw [World.cell?_setCell_other _ _ _ _ (by intro g; exact e (by cases g; rfl))]
      simp [upV, e, (h.c j hj).1]
    · rw [World.frozen?_setCell]; exact (h.c j hj).2⟩
theorem Rv.same {w : World} {b n : Nat} {f g : Nat → Value} (h : Rv w b n f) (e : ∀ i, i < n → f i = g i) : Rv w b n g := ⟨h.lt, fun i hi => by rw [← e i hi]; exact h.c i hi⟩
theorem Rv.at {w : World} {b n : Nat} {f : Nat → Value} (h : Rv w b n f) {i : Nat} (hi : i < n) {v : Value} (hv : f i = v) : w.cell? ⟨b, i, none⟩ = some v := hv ▸ (h.c i hi).1
theorem cellN (w : World) (cs : Array Value) (t : TypeId) (i : Nat) : (w.alloc (.cells cs t)).cell? ⟨w.heap.size, i, none⟩ = cs[i]? := by
  simp only [World.cell?, heap_alloc_new]
  simp
theorem frozN (w : World) (cs : Array Value) (t : TypeId) (i : Nat) : (w.alloc (.cells cs t)).frozen? ⟨w.heap.size, i, none⟩ = false := by
  simp only [World.frozen?, heap_alloc_new]
  simp
theorem Rv.new (w : World) (n : Nat) (f : Nat → Value) (cs : Array Value) (t : TypeId) (h : ∀ k, k < n → cs[k]? = some (f k)) : Rv (w.alloc (.cells cs t)) w.heap.size n f :=
  ⟨by simp, fun i hi => ⟨(cellN w _ _ i).trans (h i hi), frozN w _ _ i⟩⟩
/-- A row of integers. -/
abbrev iv (o : Nat → Int) : Nat → Value := fun i => .int .i64 (o i)
abbrev bv (f : Nat → Bool) : Nat → Value := fun i => .bool (f i)
def upI (o : Nat → Int) (i : Nat) (x : Int) : Nat → Int := fun j => if j = i then x else o j
def upB (f : Nat → Bool) (i : Nat) (x : Bool) : Nat → Bool := fun j => if j = i then x else f j
theorem Rv.setI {w : World} {b n : Nat} {o : Nat → Int} (h : Rv w b n (iv o)) (i : Nat) (x : Int) : Rv (w.setCell ⟨b, i, none⟩ (.int .i64 x)) b n (iv (upI o i x)) := (h.set i _).same fun j _ => by
  unfold upV iv upI
  split <;> rfl
theorem Rv.setB {w : World} {b n : Nat} {f : Nat → Bool} (h : Rv w b n (bv f)) (i : Nat) (x : Bool) : Rv (w.setCell ⟨b, i, none⟩ (.bool x)) b n (bv (upB f i x)) := (h.set i _).same fun j _ => by
  unfold upV bv upB
  split <;> rfl
theorem Rv.atI {w : World} {b n : Nat} {o : Nat → Int} (h : Rv w b n (iv o)) {i : Nat} (hi : i < n) {x : Int} (hx : o i = x) : w.cell? ⟨b, i, none⟩ = some (.int .i64 x) := by
  rw [← hx]
  exact (h.c i hi).1
theorem Rv.atB {w : World} {b n : Nat} {f : Nat → Bool} (h : Rv w b n (bv f)) {i : Nat} (hi : i < n) {x : Bool} (hx : f i = x) : w.cell? ⟨b, i, none⟩ = some (.bool x) := by
  rw [← hx]
  exact (h.c i hi).1
theorem getD_map_range (o : Nat → Int) {n i : Nat} (h : i < n) : ((List.range n).map o).getD i 0 = o i := by simp [h]
theorem Rv.rd {w : World} {b n : Nat} {o : Nat → Int} (h : Rv w b n (iv o)) {N : Nat → Prop} (hN : N b) : RdN cI N w (some ⟨b, 0, none⟩) ((List.range n).map o) := fun _ =>
  ⟨b, 0, rfl, h.lt, hN, fun i hi c hc => by
    simp only [List.length_map, List.length_range] at hi
    obtain rfl : c = 0 := by have : c < 1 := hc; omega
    have e := (h.c i hi).1
    have g : nth cI ((List.range n).map o) i = o i := getD_map_range o hi
    rw [g]
    simpa [cI, encI] using e⟩
theorem infoI : (Try.prog.info? 3).map (fun i => (i.zero, i.size, i.bytes)) = some (some (.int .i64 0), 1, 8) := by kernel_rfl
theorem infoB : (Try.prog.info? 4).map (fun i => (i.zero, i.size, i.bytes)) = some (some (.bool false), 1, 1) := by kernel_rfl
theorem make_i (w : World) (n : Nat) (h : n ≤ 1000) : ∃ cs : Array Value, (∀ k, k < n → cs[k]? = some (.int .i64 0)) ∧ (Instr.makeSlice 23 (.int .i64 (n : Int)) (.int .i64 (n : Int))).run Try.prog w = .ok (.slice (some ⟨w.heap.size, 0, none⟩) n n) (w.alloc (.cells cs 3)) := by
  obtain ⟨i0, hi, hz0, hz1, hz2⟩ := info_parts infoI
  have := run_makeSlice (P := Try.prog) w 23 3 i0 _ Try.underlying23 hi hz0 .i64 .i64 (n : Int) (n : Int) (by omega) (by omega) (by rw [hz1]; simp; omega) (by rw [hz2]; omega) (by omega)
  rw [hz1] at this
  refine ⟨_, fun k hk => ?_, by simpa using this⟩
  simp [madeCells, Value.cells, hk, Nat.mod_one]
theorem make_b (w : World) (n : Nat) (h : n ≤ 1000) : ∃ cs : Array Value, (∀ k, k < n → cs[k]? = some (.bool false)) ∧ (Instr.makeSlice 42 (.int .i64 (n : Int)) (.int .i64 (n : Int))).run Try.prog w = .ok (.slice (some ⟨w.heap.size, 0, none⟩) n n) (w.alloc (.cells cs 4)) := by
  obtain ⟨i0, hi, hz0, hz1, hz2⟩ := info_parts infoB
  have := run_makeSlice (P := Try.prog) w 42 4 i0 _ Try.underlying42 hi hz0 .i64 .i64 (n : Int) (n : Int) (by omega) (by omega) (by rw [hz1]; simp; omega) (by rw [hz2]; omega) (by omega)
  rw [hz1] at this
  refine ⟨_, fun k hk => ?_, by simpa using this⟩
  simp [madeCells, Value.cells, hk, Nat.mod_one]
end Go.Proofs.Ytmkhgihhledegaa
