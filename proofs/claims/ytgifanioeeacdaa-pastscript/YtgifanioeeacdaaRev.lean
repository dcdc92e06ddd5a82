/- Proved: the contract of slices.Reverse of entries, by the shelf's contract at a struct. -/
import Derived.Test.YtgifanioeeacdaaEnt
namespace Go.Proofs
open Go.Shelf
def Try.revE_ren : Go.Shelf.Ren := ⟨fun | 35 => 31 | n => n, fun | 22 => 42 | 23 => 34 | n => n, fun | n => n⟩
theorem Try.revE : Go.Proofs.SlLaysE0.n35 Try.prog Try.revE_ren := {
  mixed := by kernel_rfl
  f35 := ⟨Try.f31.name, by decide, Try.func31.trans (congrArg some (by kernel_rfl))⟩
  t0 := Try.underlying0
  a0 := Try.isAgg0
  z0 := Try.sizeOf0
  v0 := Try.zeroValue0
  t3 := Try.underlying3
  a3 := Try.isAgg3
  z3 := Try.sizeOf3
  v3 := Try.zeroValue3
  t4 := Try.underlying4
  a4 := Try.isAgg4
  z4 := Try.sizeOf4
  v4 := Try.zeroValue4
  t22 := Try.underlying42
  a22 := Try.isAgg42
  z22 := Try.sizeOf42
  v22 := Try.zeroValue42 }
end Go.Proofs
namespace Go.Proofs.Ytgifanioeeacdaa
open Go.RowKit Go.Shelf Go.Sort
set_option linter.unusedVariables false

abbrev inhE : Inhabited E := ⟨e0⟩
/-- A row of one's own holds its things, as the library's kit of rows says it. -/
theorem OwR.holds {e : TypeId} {w : World} {g cap : Nat} {l : List E} (h : OwR cE e w (.slice (some ⟨g, 0, none⟩) l.length cap) l) : @HoldsK E inhE encE 10 w g 0 l.toArray := by
  letI : Inhabited E := inhE
  intro j hj
  rw [size_flatK] at hj
  simp only [List.size_toArray] at hj
  have hq : j / 10 < l.length := Nat.div_lt_of_lt_mul (by omega)
  have hr : j % 10 < 10 := Nat.mod_lt _ (by omega)
  refine ⟨?_, World.ownsRow.frozenAt h (0 + j)⟩
  rw [get_flatK _ _ _ _ (by simpa using hj), Nat.zero_add]
  have e1 := World.ownsRow.cellAt h j hj
  have e2 := flat_get cE l (j / 10) (j % 10) hq hr
  have e3 : j / 10 * 10 + j % 10 = j := by omega
  have e4 : (flat cE l)[j / 10 * 10 + j % 10]? = (encE (nth cE l (j / 10)))[j % 10]? := e2
  rw [e3] at e4
  rw [e1, e4]
  simp only [id]
  rw [List.getElem?_eq_getElem (show j % 10 < (encE (nth cE l (j / 10))).length from hr)]
  congr 1
  rw [getElem!_pos l.toArray (j / 10) (by simpa using hq)]
  simp only [List.getElem_toArray]
  rw [getElem!_pos (encE l[j / 10]) (j % 10) hr]
  have e5 := nth_get (C := cE) hq
  congr 1
  rw [e5]
theorem size_putCells (off : Nat) (F c : Array Value) : (putCells id off F c).size = c.size := by simp [putCells]
theorem fr_mapBlock (w : World) (n g : Nat) (f : Array Value → Array Value) : Fr (fun k => k = g) w (mapBlock (Sort.ahead w n) g f) :=
  ⟨rfl, rfl, rfl, by simp [mapBlock], fun k hk hn => by simp [mapBlock, Array.getElem?_modify, Ne.symm hn]⟩
theorem mapBlock_shape (w : World) (g : Nat) (f : Array Value → Array Value) (hf : ∀ c, (f c).size = c.size) (cur : Array Value) (e : TypeId) (fr : Nat × Nat) (h : w.heap[g]? = some (.cells cur e fr)) : ∃ cur', (mapBlock w g f).heap[g]? = some (.cells cur' e fr) ∧ cur'.size = cur.size := by
  refine ⟨f cur, ?_, hf cur⟩
  simp [mapBlock, Array.getElem?_modify, h, onCells]
/-- And back, where the block has the same shape. -/
theorem own_of_holds {e : TypeId} {w w' : World} {g cap : Nat} {l l' : List E} (h : OwR cE e w (.slice (some ⟨g, 0, none⟩) l.length cap) l) (hl : l'.length = l.length) (hs : ∀ cur, w.heap[g]? = some (.cells cur e (0, 0)) → ∃ cur', w'.heap[g]? = some (.cells cur' e (0, 0)) ∧ cur'.size = cur.size)
    (hH : @HoldsK E inhE encE 10 w' g 0 l'.toArray) : OwR cE e w' (.slice (some ⟨g, 0, none⟩) l'.length cap) l' := by
  letI : Inhabited E := inhE
  obtain ⟨_, cur, hg, h1, h2, h3, h4⟩ := h.block
  obtain ⟨cur', hg', hsz⟩ := hs cur hg
  have h3' : cur.size = cap * 10 := h3
  refine own_of_block hg' (by omega) h2 (by rw [hsz]; exact h3) ?_
  show cur'.toList.take (l'.length * 10) = _
  apply List.ext_getElem?
  intro j
  by_cases hj : j < l'.length * 10
  · have hq : j / 10 < l'.length := Nat.div_lt_of_lt_mul (by omega)
    have hr : j % 10 < 10 := Nat.mod_lt _ (by omega)
    rw [List.getElem?_take_of_lt hj]
    have h1 := (hH j (by rw [size_flatK]; simpa using hj)).1
    rw [get_flatK _ _ _ _ (by simpa using hj), Nat.zero_add] at h1
    simp only [World.cell?, hg', id] at h1
    have h2 : cur'.toList[j]? = cur'[j]? := by simp
    rw [h2]
    have h3 : cur'[j]? = some ((encE (l'.toArray[j / 10]!))[j % 10]!) := by simpa using h1
    rw [h3]
    have e2 := flat_get cE l' (j / 10) (j % 10) hq hr
    have e3 : j / 10 * 10 + j % 10 = j := by omega
    have e4 : (flat cE l')[j / 10 * 10 + j % 10]? = (encE (nth cE l' (j / 10)))[j % 10]? := e2
    rw [e3] at e4
    rw [e4, List.getElem?_eq_getElem (show j % 10 < (encE (nth cE l' (j / 10))).length from hr)]
    congr 1
    rw [getElem!_pos l'.toArray (j / 10) (by simpa using hq)]
    simp only [List.getElem_toArray]
    rw [getElem!_pos (encE l'[j / 10]) (j % 10) hr]
    have e5 := nth_get (C := cE) hq
    congr 1
    rw [e5]
  · rw [List.getElem?_eq_none (by rw [List.length_take]; omega), List.getElem?_eq_none (by rw [flat_len]; show l'.length * 10 ≤ j; omega)]
theorem rev_any {w : World} {a : Option Addr} {n c : Nat} {l : List E} (h : OwR cE 34 w (.slice a n c) l) (hl : l.length ≤ 64) :
    Calls Try.prog 31 #[.slice a n c] w fun e w' => e = .returned (.tuple #[]) ∧ OwR cE 34 w' (.slice a n c) l.reverse ∧ Fr (fun k => (Value.slice a n c).ownBlock = some k) w w' := by
  letI : Inhabited E := inhE
  rcases h.2 with ⟨e, hn⟩ | ⟨g, cap, cur, e, _, hg, _⟩
  · simp at e
    obtain ⟨rfl, rfl, rfl⟩ := e
    obtain rfl : l = [] := List.length_eq_zero_iff.1 hn
    exact (AnyQ.slices_Reverse_empty Try.revE none 0 w).mono fun e w' ⟨he, hw⟩ => ⟨he, by rw [hw]; exact h, by rw [hw]; exact Fr.refl _ _⟩
  · simp at e
    obtain ⟨rfl, rfl, rfl⟩ := e
    have H := AnyQ.slices_Reverse Try.revE 10 Try.isAgg34 Try.sizeOf34 encE (fun _ => rfl) encE_one g 0 c l.toArray w h.holds (by simp; omega)
    simp only [List.size_toArray] at H
    refine H.mono fun e w' ⟨he, m, hw⟩ => ⟨he, ?_, ?_⟩
    · have e1 : l.toArray.reverse = l.reverse.toArray := by simp
      rw [e1] at hw
      have := own_of_holds (w' := w') (l' := l.reverse) h (by simp) (fun cur hc => by rw [hw]; exact mapBlock_shape (Sort.ahead w m) g _ (fun c => size_putCells 0 _ c) cur _ (0, 0) hc) (by rw [hw]; exact holdsK_putRowK encE 10 (Sort.ahead w m) g 0 l.toArray l.reverse.toArray (holdsK_ahead encE 10 w m g 0 _ h.holds) (by simp))
      rwa [List.length_reverse] at this
    · rw [hw]
      exact (fr_mapBlock w m g _).wide (fun i e => by subst e; rfl)
end Go.Proofs.Ytgifanioeeacdaa
