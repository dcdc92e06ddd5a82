/- Proved: what the document's own Decode tells of any text of up to 2048 bytes is what lines.Decode tells. -/
import Derived.Test.YtjlcmgfgbmcjpaaDoorDec4
import Derived.Test.YtjlcmgfgbmcjpaaDoorRef2
namespace Go.Proofs.YtjlcmgfgbmcjpaaDoor
open Go.RowKit
set_option linter.unusedVariables false

/-- How reading stands at the byte i: the rows RS are read, the fields FZ of the row at hand, the beginning F of the field at hand. -/
def Reads (s : ByteArray) (w wr : World) (i : Nat) (rv fv : Value) (F : ByteArray) (RS : List (List ByteArray)) (FZ : List ByteArray) : Prop :=
  Below w.heap.size w wr ∧ (∃ C, w.heap.size ≤ C ∧ C ≤ wr.heap.size ∧ OwnR w.heap.size C wr rv RS ∧ OwnS C wr fv FZ) ∧
  dec 1 [] [] s.data.toList = behind (lettersR RS) (dec (RS.length + 1) (letters FZ) F.data.toList (s.data.toList.drop i)) ∧
  ((FZ = [] ∧ F.data.toList = []) ↔ (i = 0 ∨ s.data.toList[i - 1]? = some 10)) ∧ RS.length ≤ i ∧ FZ.length ≤ i ∧ F.size ≤ i

theorem OwnR.grownS {B C n : Nat} {w w' : World} {v u : Value} {RS : List (List ByteArray)} {xs : List Value} (h : OwnR B C w v RS) (hu : w.ownsRow C 9 1 u n xs) (hg : w.grownBy w' u.ownBlock) : OwnR B C w' v RS := by
  obtain ⟨vs, h1, h2⟩ := h
  refine ⟨vs, h1.kept hg (apart' hu h1), fun i hi => ?_⟩
  obtain ⟨x, hx, ho, hk⟩ := h2 i hi
  refine ⟨x, hx, World.ownsRow.kept ho hg ?_, hk⟩
  rcases hb : x.ownBlock with _ | k
  · exact .inl rfl
  · right
    intro e
    have h3 := hk k hb
    have h4 := (hu.lt k e.symm).1
    omega
theorem letters_append (a b : List ByteArray) : letters (a ++ b) = letters a ++ letters b := by simp [letters]
theorem drop_at (s : ByteArray) (k : Nat) (h : k < s.size) : s.data.toList.drop k = s[k] :: s.data.toList.drop (k + 1) := by
  rw [List.drop_eq_getElem_cons (by simpa using h)]; rfl
theorem get_at (s : ByteArray) (k : Nat) (h : k < s.size) : s.data.toList[k + 1 - 1]? = some s[k] := by
  rw [Nat.add_sub_cancel, List.getElem?_eq_getElem (by simpa using h)]; rfl

theorem reads_start (s : ByteArray) (w : World) : Reads s w ((w.alloc (.cells #[] 42)).alloc (.cells #[] 9)) 0 (.slice (some ⟨w.heap.size, 0, none⟩) 0 0) (.slice (some ⟨w.heap.size + 1, 0, none⟩) 0 0) ⟨#[]⟩ [] [] := by
  refine ⟨((Below.refl _ _).alloc (Nat.le_refl _) _).alloc (by simp) _, ⟨w.heap.size + 1, by omega, by simp, ⟨[], ?_, fun i h => absurd h (Nat.not_lt_zero _)⟩, ?_⟩, ?_, by simp, by simp, by simp, by simp [ByteArray.size]⟩
  · exact (World.ownsRow_made (base := w.heap.size) (e := 42) (size := 1) w #[] 0 (Nat.le_refl _) (by unfold maxLen; omega) rfl).alloc _
  · have := World.ownsRow_made (base := w.heap.size + 1) (e := 9) (size := 1) (w.alloc (.cells #[] 42)) #[] 0 (by simp) (by unfold maxLen; omega) rfl
    simpa [OwnS] using this
  · simp only [lettersR, letters, List.map_nil, List.length_nil, Nat.zero_add, List.drop_zero]
    cases dec 1 [] [] s.data.toList <;> simp [behind]

/-- A comma. -/
theorem reads_comma {s : ByteArray} {w wr w2 : World} {k C : Nat} {rv fv v' : Value} {F : ByteArray} {RS : List (List ByteArray)} {FZ : List ByteArray} {o : Obj}
    (h : Reads s w wr k rv fv F RS FZ) (hk : k < s.size) (hc : s[k] = 44) (hC1 : w.heap.size ≤ C) (hC2 : C ≤ wr.heap.size) (hR : OwnR w.heap.size C wr rv RS) (hF : OwnS C wr fv FZ)
    (ho : w2.ownsRow C 9 1 v' (FZ.length + 1) (FZ.map Value.string ++ [.string F])) (hg : (wr.alloc o).grownBy w2 fv.ownBlock) : Reads s w w2 (k + 1) rv v' ⟨#[]⟩ RS (FZ ++ [F]) := by
  obtain ⟨h1, _, h3, h4, h5, h6, h7⟩ := h
  have hgs := hg.size
  simp at hgs
  refine ⟨?_, ⟨C, hC1, by omega, (hR.alloc o).grownS (World.ownsRow.alloc hF o) hg, by simpa [OwnS] using ho⟩, ?_, ?_, by omega, by simp; omega, by simp [ByteArray.size]⟩
  · refine (h1.alloc h1.size o).grown hg (by have := h1.size; simp; omega) (fun k hk => Nat.le_trans hC1 (World.ownsRow.lt hF k hk).1)
  · rw [h3, drop_at s k hk, hc, dec_comma, letters_append]; rfl
  · rw [get_at s k hk, hc]; simp
/-- A byte that stands for itself. -/
theorem reads_char {s : ByteArray} {w wr : World} {k : Nat} {rv fv : Value} {F : ByteArray} {RS : List (List ByteArray)} {FZ : List ByteArray} {o : Obj}
    (h : Reads s w wr k rv fv F RS FZ) (hk : k < s.size) (h44 : s[k] ≠ 44) (h10 : s[k] ≠ 10) (h37 : s[k] ≠ 37) : Reads s w (wr.alloc o) (k + 1) rv fv (F ++ ⟨#[s[k]]⟩) RS FZ := by
  obtain ⟨h1, ⟨C, hC1, hC2, hR, hF⟩, h3, h4, h5, h6, h7⟩ := h
  refine ⟨h1.alloc h1.size o, ⟨C, hC1, by simp; omega, hR.alloc o, World.ownsRow.alloc hF o⟩, ?_, ?_, by omega, by omega, ?_⟩
  · rw [h3, drop_at s k hk, dec_char _ _ _ _ _ h44 h10 h37, bytes_append]
  · rw [get_at s k hk, bytes_append]; simp [h10]
  · rw [ByteArray.size_append]; have e1 : (⟨#[s[k]]⟩ : ByteArray).size = 1 := rfl; omega
theorem code_at (s : ByteArray) (k : Nat) (h : k + 3 ≤ s.size) (h37 : s[k]'(by omega) = 37) :
    ∃ a b, s.data.toList.drop k = 37 :: a :: b :: s.data.toList.drop (k + 3) ∧ s.extract k (k + 3) = ⟨#[37, a, b]⟩ ∧ s.data.toList[k + 3 - 1]? = some b := by
  refine ⟨s[k + 1]'(by omega), s[k + 2]'(by omega), ?_, ?_, get_at s (k + 2) (by omega)⟩
  · rw [drop_at s k (by omega), drop_at s (k + 1) (by omega), drop_at s (k + 2) (by omega), h37]
  · have e : (s.extract k (k + 3)).data.toList = [37, s[k + 1]'(by omega), s[k + 2]'(by omega)] := by
      have h1 : (s.extract k (k + 3)).data.toList = (s.data.toList.drop k).take 3 := by
        simp [ByteArray.data_extract]
      rw [h1, drop_at s k (by omega), drop_at s (k + 1) (by omega), drop_at s (k + 2) (by omega), h37]; rfl
    exact of_toList e
/-- One of the three codes. -/
theorem reads_code {s : ByteArray} {w wr : World} {k : Nat} {rv fv : Value} {F : ByteArray} {RS : List (List ByteArray)} {FZ : List ByteArray} {a b x : UInt8}
    (h : Reads s w wr k rv fv F RS FZ) (hd : s.data.toList.drop k = 37 :: a :: b :: s.data.toList.drop (k + 3)) (hb : s.data.toList[k + 3 - 1]? = some b) (hx : code a b = some x) : Reads s w wr (k + 3) rv fv (F ++ ⟨#[x]⟩) RS FZ := by
  obtain ⟨h1, h2, h3, h4, h5, h6, h7⟩ := h
  refine ⟨h1, h2, ?_, ?_, by omega, by omega, ?_⟩
  · rw [h3, hd, dec_code, hx, bytes_append]
  · have hb10 : b ≠ 10 := by
      rintro rfl
      rw [(code_stop a (.inr rfl)).1] at hx; cases hx
    rw [hb, bytes_append]; simp [hb10]
  · rw [ByteArray.size_append]; have e1 : (⟨#[x]⟩ : ByteArray).size = 1 := rfl; omega
theorem reads_bad {s : ByteArray} {w wr : World} {k : Nat} {rv fv : Value} {F : ByteArray} {RS : List (List ByteArray)} {FZ : List ByteArray} {a b : UInt8}
    (h : Reads s w wr k rv fv F RS FZ) (hd : s.data.toList.drop k = 37 :: a :: b :: s.data.toList.drop (k + 3)) (hx : code a b = none) : dec 1 [] [] s.data.toList = .error (RS.length + 1) := by
  rw [h.2.2.1, hd, dec_code, hx]; rfl
theorem reads_short {s : ByteArray} {w wr : World} {k : Nat} {rv fv : Value} {F : ByteArray} {RS : List (List ByteArray)} {FZ : List ByteArray}
    (h : Reads s w wr k rv fv F RS FZ) (hk : k < s.size) (h37 : s[k] = 37) (h3 : s.size < k + 3) : dec 1 [] [] s.data.toList = .error (RS.length + 1) := by
  rw [h.2.2.1, drop_at s k hk, h37]
  by_cases h1 : k + 1 < s.size
  · rw [drop_at s (k + 1) h1, List.drop_eq_nil_of_le (by simp; omega), dec_short1]; rfl
  · rw [List.drop_eq_nil_of_le (by simp; omega), dec_short0]; rfl
/-- A line feed. -/
theorem reads_feed {s : ByteArray} {w wr w2 w3 : World} {k C : Nat} {rv fv u v' : Value} {F : ByteArray} {RS : List (List ByteArray)} {FZ : List ByteArray} {o o2 : Obj} {vs : List Value}
    (h : Reads s w wr k rv fv F RS FZ) (hk : k < s.size) (hc : s[k] = 10) (hC1 : w.heap.size ≤ C) (hC2 : C ≤ wr.heap.size) (hF : OwnS C wr fv FZ)
    (ho : w2.ownsRow C 9 1 u (FZ.length + 1) (FZ.map Value.string ++ [.string F])) (hg : (wr.alloc o).grownBy w2 fv.ownBlock)
    (h2 : w2.ownsRow w.heap.size 42 1 rv RS.length vs ∧ ∀ i (h : i < RS.length), ∃ u, vs[i]? = some u ∧ OwnS w.heap.size w2 u RS[i] ∧ ∀ k, u.ownBlock = some k → k < C)
    (ho2 : w3.ownsRow w.heap.size 42 1 v' (RS.length + 1) (vs ++ [u])) (hg2 : (w2.alloc o2).grownBy w3 rv.ownBlock) :
    Reads s w (w3.alloc (.cells #[] 9)) (k + 1) v' (.slice (some ⟨w3.heap.size, 0, none⟩) 0 0) ⟨#[]⟩ (RS ++ [FZ ++ [F]]) [] := by
  obtain ⟨h1, _, h3, h4, h5, h6, h7⟩ := h
  have hgs := hg.size
  have hgs2 := hg2.size
  simp at hgs hgs2
  have hs1 := h1.size
  have hu : OwnS w.heap.size w2 u (FZ ++ [F]) := by
    have := own_mono ho hC1
    simpa [OwnS] using this
  have hb2 : Below w.heap.size w w2 := (h1.alloc h1.size o).grown hg (by simp; omega) (fun k hk => Nat.le_trans hC1 (World.ownsRow.lt hF k hk).1)
  have hb3 : Below w.heap.size w w3 := (hb2.alloc hb2.size o2).grown hg2 (by have := hb2.size; simp; omega) (fun k hk => (h2.1.lt k hk).1)
  have hOR : OwnR w.heap.size w3.heap.size w3 v' (RS ++ [FZ ++ [F]]) := OwnR.push h2 hu (fun k hk => by have := (World.ownsRow.lt ho k hk).2; omega) (by omega) ho2 hg2
  refine ⟨hb3.alloc hb3.size _, ⟨w3.heap.size, by omega, by simp, hOR.alloc _, ?_⟩, ?_, ?_, by simp; omega, by simp, by simp [ByteArray.size]⟩
  · have := World.ownsRow_made (base := w3.heap.size) (e := 9) (size := 1) w3 #[] 0 (Nat.le_refl _) (by unfold maxLen; omega) rfl
    simpa [OwnS] using this
  · rw [h3, drop_at s k hk, hc, dec_lf]
    have e : lettersR (RS ++ [FZ ++ [F]]) = lettersR RS ++ [letters FZ ++ [F.data.toList]] := by simp [lettersR, letters]
    rw [e]
    simp only [List.length_append, List.length_cons, List.length_nil, letters, List.map_nil]
    cases dec (RS.length + 1 + 1) [] [] (s.data.toList.drop (k + 1)) <;> simp [behind]
  · rw [get_at s k hk, hc]; simp
theorem reads_end {s : ByteArray} {w wr : World} {k : Nat} {rv fv : Value} {F : ByteArray} {RS : List (List ByteArray)} {FZ : List ByteArray}
    (h : Reads s w wr k rv fv F RS FZ) (hk : ¬ k < s.size) (he : k = 0 ∨ s.data.toList[k - 1]? = some 10) : dec 1 [] [] s.data.toList = .ok (lettersR RS) := by
  obtain ⟨rfl, h2⟩ := h.2.2.2.1.2 he
  rw [h.2.2.1, List.drop_eq_nil_of_le (by simp; omega), h2, dec_nil]; simp [behind, letters]
theorem reads_open {s : ByteArray} {w wr : World} {k : Nat} {rv fv : Value} {F : ByteArray} {RS : List (List ByteArray)} {FZ : List ByteArray}
    (h : Reads s w wr k rv fv F RS FZ) (hk : ¬ k < s.size) (he : ¬ (k = 0 ∨ s.data.toList[k - 1]? = some 10)) : dec 1 [] [] s.data.toList = .error (RS.length + 1) := by
  have h2 : ¬ (FZ = [] ∧ F.data.toList = []) := fun e => he (h.2.2.2.1.1 e)
  rw [h.2.2.1, List.drop_eq_nil_of_le (by simp; omega), dec_nil, if_neg]
  · rfl
  · rintro ⟨e1, e2⟩
    refine h2 ⟨?_, e2⟩
    simpa [letters] using e1
end Go.Proofs.YtjlcmgfgbmcjpaaDoor
