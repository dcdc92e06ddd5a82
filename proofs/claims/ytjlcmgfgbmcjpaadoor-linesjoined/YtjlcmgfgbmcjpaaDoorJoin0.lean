/- Proved: a slice of rows that the call itself makes out of rows that came in. -/
import Derived.Test.YtjlcmgfgbmcjpaaDoorTied
import Derived.Test.YtjlcmgfgbmcjpaaDoorBack
import Derived.Laws.AppendOwnNone
namespace Go.Proofs.YtjlcmgfgbmcjpaaDoor
open Go.ChangeShapes Go.WideShapes Go.ChangeAt Go.RowKit Go.Deep
set_option linter.unusedVariables false

theorem block_add (a : Addr) (j : Nat) : (a.add j).block = a.block := by unfold Addr.add; split <;> rfl
/-- A slice of rows, with its cells' values. -/
def Vals (B : Nat) (w : World) (v : Value) (rs : List (List ByteArray)) (us : List Value) : Prop :=
  us.length = rs.length ∧ (∀ i (h : i < rs.length), ∃ u, us[i]? = some u ∧ IsStrs B w u rs[i]) ∧
  ((v = .slice none 0 0 ∧ rs = []) ∨ ∃ ad cap, v = .slice (some ad) rs.length cap ∧ ∀ j u, us[j]? = some u → w.cell? (ad.add j) = some u ∧ ad.block < B)
theorem vals_of {B : Nat} {w : World} {v : Value} {rs : List (List ByteArray)} (h : IsRows B w v rs) (hf : v = .slice none 0 0 ∨ ∃ ad n c, v = .slice (some ad) n c) : ∃ us, Vals B w v rs us := by
  obtain ⟨a, cap, rfl, hx⟩ := h
  by_cases hne : rs = []
  · subst hne
    refine ⟨[], rfl, fun i h => absurd h (Nat.not_lt_zero _), ?_⟩
    rcases hf with hf | ⟨ad, n, c, hf⟩
    · exact .inl ⟨hf, rfl⟩
    · right
      simp only [Value.slice.injEq] at hf
      obtain ⟨rfl, _, _⟩ := hf
      exact ⟨ad, cap, rfl, fun j u hu => by simp at hu⟩
  · obtain ⟨b, off, rfl, hB, hc⟩ := hx hne
    obtain ⟨V, hV⟩ := choose_lt (p := fun i u => w.cell? ⟨b, off + i, none⟩ = some u ∧ ∀ h : i < rs.length, IsStrs B w u rs[i]) (fun i (hi : i < rs.length) => (hc i hi).imp fun u hu => ⟨hu.1, fun _ => hu.2⟩)
    refine ⟨(List.range rs.length).map V, by simp, fun i hi => ⟨V i, by simp [hi], (hV i hi).2 hi⟩, .inr ⟨_, cap, rfl, fun j u hu => ?_⟩⟩
    have hj : j < rs.length := by
      have := (List.getElem?_eq_some_iff.1 hu).1
      simpa using this
    simp [hj] at hu
    subst hu
    rw [Go.WideShapes.add_plain]
    exact ⟨(hV j hj).1, hB⟩
theorem open_form {H : Type} {enc : TypeId × Value → H} {W : World} {base fuel : Nat} {held : Bool} {v : Value} {x : DataW H × List MemPlace} (h : DataW.trod enc Tryd.prog W base (fun _ => true) held fuel 22 [v] = some x) :
    v = .slice none 0 0 ∨ ∃ ad n c, v = .slice (some ad) n c := by
  rcases open_slice1 Tryd.underlying22 cells42 h with ⟨hcs, _⟩ | ⟨a, len, cap, m, n, V, D, Pl, hcs, _⟩
  · simp only [List.cons.injEq, and_true] at hcs; exact .inl hcs
  · simp only [List.cons.injEq, and_true] at hcs; exact .inr ⟨_, _, _, hcs⟩
theorem vals_one {B : Nat} {w : World} {v : Value} {rs : List (List ByteArray)} {us : List Value} (h : Vals B w v rs us) : ∀ u ∈ us, u.oneCell' = true := by
  intro u hu
  obtain ⟨i, hi, rfl⟩ := List.mem_iff_getElem.1 hu
  obtain ⟨x, hx, a, cap, rfl, _⟩ := h.2.1 i (by rw [← h.1]; exact hi)
  rw [List.getElem?_eq_getElem hi] at hx
  rw [Option.some.inj hx]; rfl
/-- The rows of both, in one slice of the call's own. -/
theorem all_rows {B : Nat} {w w2 : World} {v1 v2 v : Value} {rs ts : List (List ByteArray)} {us vs : List Value} (h1 : Vals B w v1 rs us) (h2 : Vals B w v2 ts vs) (hb : Below B w w2)
    (ho : w2.ownsRow B 42 1 v (rs.length + ts.length) (us ++ vs)) (hB : B ≤ w2.heap.size) : IsRows w2.heap.size w2 v (rs ++ ts) := by
  have hel : ∀ i (h : i < (rs ++ ts).length), ∃ u, (us ++ vs)[i]? = some u ∧ IsStrs B w u (rs ++ ts)[i] := by
    intro i hi
    by_cases hlt : i < rs.length
    · obtain ⟨u, hu, hs⟩ := h1.2.1 i hlt
      exact ⟨u, by rw [List.getElem?_append_left (by rw [h1.1]; exact hlt)]; exact hu, by rw [List.getElem_append_left hlt]; exact hs⟩
    · have hlt2 : i - rs.length < ts.length := by simp at hi; omega
      obtain ⟨u, hu, hs⟩ := h2.2.1 (i - rs.length) hlt2
      exact ⟨u, by rw [List.getElem?_append_right (by rw [h1.1]; omega), h1.1]; exact hu, by rw [List.getElem_append_right (by omega)]; exact hs⟩
  have hlen : (rs ++ ts).length = rs.length + ts.length := by simp
  rcases ho.2 with ⟨rfl, hn⟩ | ⟨g, cap, cur, rfl, hg, hgg, hnc, hcm, hcs, htake⟩
  · have : rs ++ ts = [] := List.length_eq_zero_iff.1 (by omega)
    rw [this]
    exact ⟨none, 0, rfl, fun hf => absurd rfl hf⟩
  · refine ⟨_, cap, by rw [hlen], fun _ => ⟨g, 0, rfl, (Array.getElem?_eq_some_iff.1 hgg).1, fun i hi => ?_⟩⟩
    obtain ⟨u, hu, hs⟩ := hel i hi
    rw [Nat.zero_add]
    exact ⟨u, (World.ownsRow.cellAt ho i (by omega)).trans hu, (hs.keep hb).mono hB⟩
theorem text_joined (a b : List (List ByteArray)) (ha : bare a = false) (hb : bare b = false) :
    dec 1 [] [] ((⟨(encRows (lettersR a)).toArray⟩ : ByteArray) ++ (⟨(encRows (lettersR b)).toArray⟩ : ByteArray)).data.toList = .ok (lettersR (a ++ b)) := by
  rw [bytes_append, text_letters, text_letters, ← encRows_append, show lettersR a ++ lettersR b = lettersR (a ++ b) by simp [lettersR]]
  refine dec_enc _ (full_rows ?_)
  simp only [bare, List.any_append, Bool.or_eq_false_iff] at *
  exact ⟨ha, hb⟩
theorem rowsW_append (a b : List (List ByteArray)) : rowsW (a ++ b) = rowsW a + rowsW b := by simp [rowsW]
end Go.Proofs.YtjlcmgfgbmcjpaaDoor
