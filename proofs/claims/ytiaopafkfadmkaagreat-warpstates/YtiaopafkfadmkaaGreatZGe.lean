/- Joined: the texts that follow, each with its own sentence. -/
import Derived.Test.YtiaopafkfadmkaaGreatZGd
import Derived.Test.YtiaopafkfadmkaaGreatZGa
import Derived.Deep.QuietTactic
/- Proved: the contracts of symMerge, and of stableCmpFunc: what was there, each behind all that are not behind it. -/
namespace Go.Proofs.YtiaopafkfadmkaaGreat.B.Stb
def J1 {α : Type} (le : α → α → Bool) (L : List α) (x : Nat) (D : List α) : Prop := ∃ j, x = 20 * j ∧ I1 le L j D
def J3 {α : Type} (le : α → α → Bool) (L : List α) (s x : Nat) (D : List α) : Prop := ∃ j, x = 2 * s * j ∧ I3 le L s j D
theorem J1.ins {α : Type} {le : α → α → Bool} {L D : List α} {x : Nat} (h : J1 le L x D) (hx : x + 20 ≤ L.length) : ∃ A X C, D = A ++ (X ++ C) ∧ A.length = x ∧ x + X.length = x + 20 ∧ J1 le L (x + 20) (A ++ (isort le X ++ C)) := by
  obtain ⟨j, rfl, h⟩ := h
  obtain ⟨A, X, C, e1, e2, e3, e4⟩ := h.ins hx
  exact ⟨A, X, C, e1, e2, by omega, j + 1, by omega, e4⟩
theorem J1.last {α : Type} {le : α → α → Bool} {L D : List α} {x : Nat} (h : J1 le L x D) (hx : x ≤ L.length) (hx2 : L.length < x + 20) : ∃ A X C, D = A ++ (X ++ C) ∧ A.length = x ∧ x + X.length = L.length ∧ I2 le L 20 (A ++ (isort le X ++ C)) := by
  obtain ⟨j, rfl, h⟩ := h
  exact h.last hx hx2
theorem J3.start {α : Type} {le : α → α → Bool} {L D : List α} {s : Nat} (h : I2 le L s D) : J3 le L s 0 D := ⟨0, by simp, h.start⟩
theorem J3.last {α : Type} {le : α → α → Bool} (ht : Tot le) {L D : List α} {s t x : Nat} (h : J3 le L s x D) (hs : 0 < s) (hst : t = 2 * s) (hx : x + s < L.length) (hx2 : L.length < x + t) :
    ∃ A X Y C, D = A ++ (X ++ (Y ++ C)) ∧ A.length = x ∧ x + X.length = x + s ∧ x + s + Y.length = L.length ∧ 0 < X.length ∧ 0 < Y.length ∧ Srt le X ∧ Srt le Y ∧ I2 le L t (A ++ (List.merge X Y le ++ C)) := by
  obtain ⟨j, rfl, h⟩ := h
  obtain ⟨A, X, Y, C, e1, e2, e3, e4, e5, e6, e7⟩ := h.last ht hs hx (by omega)
  exact ⟨A, X, Y, C, e1, e2, by omega, by omega, by omega, by omega, e5, e6, by rw [hst]; exact e7⟩
theorem J3.done {α : Type} {le : α → α → Bool} {L D : List α} {s t x : Nat} (h : J3 le L s x D) (hst : t = 2 * s) (hx : L.length ≤ x + s) (hx2 : x ≤ L.length) : I2 le L t D := by
  obtain ⟨j, rfl, h⟩ := h
  rw [hst]
  exact h.done hx hx2
end Go.Proofs.YtiaopafkfadmkaaGreat.B.Stb
namespace Go.Proofs.YtiaopafkfadmkaaGreat.G
open Go.Proofs.YtiaopafkfadmkaaGreat.B
open Go.RowKit Go.Shelf Go.Lib Go.Sort
set_option linter.unusedVariables false
end Go.Proofs.YtiaopafkfadmkaaGreat.G
/- Proved: the contract of slices.SortStableFunc of what is held, by the causes. -/
namespace Go.Proofs
open Go.Shelf
def Tryz.insH_ren : Go.Shelf.Ren := ⟨fun | 20 => 190 | n => n, fun | 22 => 168 | 24 => 189 | 25 => 192 | n => n, fun | n => n⟩
theorem Tryz.insH : Go.Proofs.SlLaysF0.n20 Tryz.prog Tryz.insH_ren := {
  mixed := by kernel_rfl
  f20 := ⟨Tryz.f190.name, by decide, Tryz.func190.trans (congrArg some (by kernel_rfl))⟩
  t0 := Tryz.underlying0
  a0 := Tryz.isAgg0
  z0 := Tryz.sizeOf0
  v0 := Tryz.zeroValue0
  t3 := Tryz.underlying3
  a3 := Tryz.isAgg3
  z3 := Tryz.sizeOf3
  v3 := Tryz.zeroValue3
  t4 := Tryz.underlying4
  a4 := Tryz.isAgg4
  z4 := Tryz.sizeOf4
  v4 := Tryz.zeroValue4
  t22 := Tryz.underlying168
  a22 := Tryz.isAgg168
  z22 := Tryz.sizeOf168
  v22 := Tryz.zeroValue168
  t25 := Tryz.underlying192
  a25 := Tryz.isAgg192
  z25 := Tryz.sizeOf192
  v25 := Tryz.zeroValue192 }
end Go.Proofs
namespace Go.Proofs.YtiaopafkfadmkaaGreat.G
open Go.Proofs.YtiaopafkfadmkaaGreat.B
open Go.RowKit Go.Shelf Go.Lib Go.Sort
set_option linter.unusedVariables false

def cfH (x y : H) : Int := kcmp x.1 y.1
/-- A row of one's own holds its things, as the library's kit of rows says it. -/
theorem _root_.Go.Proofs.YtiaopafkfadmkaaGreat.B.OwR.holds {e : TypeId} {w : World} {g cap : Nat} {l : List H} (h : OwR cH e w (.slice (some ⟨g, 0, none⟩) l.length cap) l) : HoldsK encH 9 w g 0 l.toArray := by
  intro j hj
  rw [size_flatK] at hj
  simp only [List.size_toArray] at hj
  have hq : j / 9 < l.length := Nat.div_lt_of_lt_mul (by omega)
  have hr : j % 9 < 9 := Nat.mod_lt _ (by omega)
  refine ⟨?_, World.ownsRow.frozenAt h (0 + j)⟩
  rw [get_flatK _ _ _ _ (by simpa using hj), Nat.zero_add]
  have e1 := World.ownsRow.cellAt h j hj
  have e2 := flat_get cH l (j / 9) (j % 9) hq hr
  have e3 : j / 9 * 9 + j % 9 = j := by omega
  have e4 : (flat cH l)[j / 9 * 9 + j % 9]? = (encH (nth cH l (j / 9)))[j % 9]? := e2
  rw [e3] at e4
  rw [e1, e4]
  simp only [id]
  rw [List.getElem?_eq_getElem (show j % 9 < (encH (nth cH l (j / 9))).length from hr)]
  congr 1
  rw [getElem!_pos l.toArray (j / 9) (by simpa using hq)]
  simp only [List.getElem_toArray]
  rw [getElem!_pos (encH l[j / 9]) (j % 9) hr]
  have e5 := nth_get (C := cH) hq
  congr 1
  rw [e5]
theorem size_putCells (off : Nat) (F c : Array Value) : (putCells id off F c).size = c.size := by simp [putCells]
theorem fr_mapBlock (w : World) (n g : Nat) (f : Array Value → Array Value) : Fr (fun k => k = g) w (mapBlock (Sort.ahead w n) g f) :=
  ⟨rfl, rfl, rfl, by simp [mapBlock], fun k hk hn => by simp [mapBlock, Array.getElem?_modify, Ne.symm hn]⟩
theorem mapBlock_shape (w : World) (g : Nat) (f : Array Value → Array Value) (hf : ∀ c, (f c).size = c.size) (cur : Array Value) (e : TypeId) (fr : Nat × Nat) (h : w.heap[g]? = some (.cells cur e fr)) : ∃ cur', (mapBlock w g f).heap[g]? = some (.cells cur' e fr) ∧ cur'.size = cur.size := by
  refine ⟨f cur, ?_, hf cur⟩
  simp [mapBlock, Array.getElem?_modify, h, onCells]
/-- And back, where the block has the same shape. -/
theorem own_of_holds {e : TypeId} {w w' : World} {g cap : Nat} {l l' : List H} (h : OwR cH e w (.slice (some ⟨g, 0, none⟩) l.length cap) l) (hl : l'.length = l.length) (hs : ∀ cur, w.heap[g]? = some (.cells cur e (0, 0)) → ∃ cur', w'.heap[g]? = some (.cells cur' e (0, 0)) ∧ cur'.size = cur.size)
    (hH : HoldsK encH 9 w' g 0 l'.toArray) : OwR cH e w' (.slice (some ⟨g, 0, none⟩) l'.length cap) l' := by
  obtain ⟨_, cur, hg, h1, h2, h3, h4⟩ := h.block
  obtain ⟨cur', hg', hsz⟩ := hs cur hg
  have h3' : cur.size = cap * 9 := h3
  refine own_of_block hg' (by omega) h2 (by rw [hsz]; exact h3) ?_
  show cur'.toList.take (l'.length * 9) = _
  apply List.ext_getElem?
  intro j
  by_cases hj : j < l'.length * 9
  · have hq : j / 9 < l'.length := Nat.div_lt_of_lt_mul (by omega)
    have hr : j % 9 < 9 := Nat.mod_lt _ (by omega)
    rw [List.getElem?_take_of_lt hj]
    have h1 := (hH j (by rw [size_flatK]; simpa using hj)).1
    rw [get_flatK _ _ _ _ (by simpa using hj), Nat.zero_add] at h1
    simp only [World.cell?, hg', id] at h1
    have h2 : cur'.toList[j]? = cur'[j]? := by simp
    rw [h2]
    have h3 : cur'[j]? = some ((encH (l'.toArray[j / 9]!))[j % 9]!) := by simpa using h1
    rw [h3]
    have e2 := flat_get cH l' (j / 9) (j % 9) hq hr
    have e3 : j / 9 * 9 + j % 9 = j := by omega
    have e4 : (flat cH l')[j / 9 * 9 + j % 9]? = (encH (nth cH l' (j / 9)))[j % 9]? := e2
    rw [e3] at e4
    rw [e4, List.getElem?_eq_getElem (show j % 9 < (encH (nth cH l' (j / 9))).length from hr)]
    congr 1
    rw [getElem!_pos l'.toArray (j / 9) (by simpa using hq)]
    simp only [List.getElem_toArray]
    rw [getElem!_pos (encH l'[j / 9]) (j % 9) hr]
    have e5 := nth_get (C := cH) hq
    congr 1
    rw [e5]
  · rw [List.getElem?_eq_none (by rw [List.length_take]; omega), List.getElem?_eq_none (by rw [flat_len]; show l'.length * 9 ≤ j; omega)]
end Go.Proofs.YtiaopafkfadmkaaGreat.G
