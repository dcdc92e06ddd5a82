/- Proved: what is read of a text of rows that is cut off anywhere. -/
import Derived.Test.YtjlcmgfgbmcjpabDoorTied
import Derived.Test.YtjlcmgfgbmcjpabDoorBack
namespace Go.Proofs.YtjlcmgfgbmcjpabDoor
open Go.ChangeShapes Go.WideShapes Go.ChangeAt Go.RowKit Go.Deep
set_option linter.unusedVariables false

theorem feeds_none {l : List UInt8} (h : ∀ x ∈ l, x ≠ 10) : l.count 10 = 0 := List.count_eq_zero.2 (fun hm => h 10 hm rfl)
theorem feeds_rows (rs : List (List (List UInt8))) : (encRows rs).count 10 = rs.length := by
  induction rs with
  | nil => rfl
  | cons r t ih => rw [encRows_cons, encRow, List.count_append, List.count_append, feeds_none (body_no10 r), ih]; simp; omega
theorem last_rows {rs : List (List (List UInt8))} (h : rs ≠ []) : (encRows rs).getLast? = some 10 := by
  rcases List.eq_nil_or_concat rs with h0 | ⟨a, r, rfl⟩
  · exact absurd h0 h
  · simp [encRows_snoc, encRow, List.getLast?_append]
theorem last_take {l : List UInt8} {k : Nat} (h0 : 0 < k) (hk : k ≤ l.length) : (l.take k).getLast? = l[k - 1]? := by
  rw [List.getLast?_eq_getElem?, List.length_take, Nat.min_eq_left hk, List.getElem?_take_of_lt (by omega)]
theorem cut_tells (rs : List (List (List UInt8))) (h : ∀ x ∈ rs, x ≠ []) (k : Nat) (hk : k ≤ (encRows rs).length) :
    ((encRows rs).take k).count 10 ≤ rs.length ∧
    (((k = 0 ∨ (encRows rs)[k - 1]? = some 10) ∧ dec 1 [] [] ((encRows rs).take k) = .ok (rs.take (((encRows rs).take k).count 10))) ∨
     (k ≠ 0 ∧ (encRows rs)[k - 1]? ≠ some 10 ∧ dec 1 [] [] ((encRows rs).take k) = .error (((encRows rs).take k).count 10 + 1))) := by
  obtain ⟨j, p, hj, e, hp⟩ := take_rows rs k
  have hc : ((encRows rs).take k).count 10 = j := by
    rw [e, List.count_append, feeds_rows, feeds_none hp, List.length_take]; omega
  have hd := dec_rows (rs.take j) 1 p (fun x hx => h x (List.mem_of_mem_take hx))
  have hl : (rs.take j).length = j := by rw [List.length_take]; omega
  rw [hl] at hd
  rw [hc]
  refine ⟨hj, ?_⟩
  by_cases hp0 : p = []
  · subst hp0
    left
    rw [e, hd, dec_nil]
    refine ⟨?_, by simp⟩
    by_cases hk0 : k = 0
    · exact .inl hk0
    · right
      rw [← last_take (by omega) hk, e, List.append_nil]
      apply last_rows
      intro hn
      have e0 : encRows ([] : List (List (List UInt8))) = [] := rfl
      rw [hn, e0, List.append_nil] at e
      have := congrArg List.length e
      rw [List.length_take, List.length_nil] at this
      omega
  · right
    have hk0 : k ≠ 0 := by
      rintro rfl
      rw [List.take_zero] at e
      exact hp0 (List.append_eq_nil_iff.1 e.symm).2
    refine ⟨hk0, ?_, ?_⟩
    · rw [← last_take (by omega) hk, e, List.getLast?_append]
      obtain ⟨x, hx⟩ : ∃ x, p.getLast? = some x := ⟨_, List.getLast?_eq_some_getLast hp0⟩
      rw [hx]
      simp only [Option.some_or]
      intro e2
      exact hp x (List.mem_of_getLast? hx) (Option.some.inj e2)
    · rw [e, hd, dec_open _ _ _ _ hp (.inr (.inr hp0)), Nat.add_comm]
theorem feeds_snoc (s : ByteArray) (k : Nat) (h : k < s.size) : (s.data.toList.take (k + 1)).count 10 = (s.data.toList.take k).count 10 + if s[k] = 10 then 1 else 0 := by
  rw [take_snoc s k h, List.count_append]
  by_cases e : s[k] = 10
  · simp [e]
  · simp [e]
theorem feeds_le (s : ByteArray) (k : Nat) (h : k ≤ s.size) : (s.data.toList.take k).count 10 ≤ k := by
  refine Nat.le_trans List.count_le_length ?_
  rw [List.length_take]; omega
theorem take_data (s : ByteArray) (k : Nat) : (s.extract 0 k).data.toList = s.data.toList.take k := by
  simp [ByteArray.data_extract]
theorem open_cap {H : Type} {enc : TypeId × Value → H} {W : World} {base fuel : Nat} {held : Bool} {v : Value} {x : DataW H × List MemPlace} (h : DataW.trod enc Tryd.prog W base (fun _ => true) held fuel 23 [v] = some x) :
    ∃ a n c, v = .slice a n c ∧ n ≤ c := by
  rcases open_slice1 Tryd.underlying23 cells42 h with ⟨hcs, _⟩ | ⟨a, len, cap, m, n, V, D, Pl, hcs, _, hl, _⟩
  · simp only [List.cons.injEq, and_true] at hcs; exact ⟨_, _, _, hcs, Nat.le_refl _⟩
  · simp only [List.cons.injEq, and_true] at hcs; exact ⟨_, _, _, hcs, hl⟩
/-- The first rows of rows. -/
theorem IsRows.front {B : Nat} {w : World} {a : Option Addr} {cap cap' : Nat} {rs : List (List ByteArray)} (h : IsRows B w (.slice a rs.length cap) rs) (j : Nat) (hj : j ≤ rs.length) : IsRows B w (.slice a j cap') (rs.take j) := by
  obtain ⟨a', c', e, hx⟩ := h
  simp only [Value.slice.injEq] at e
  obtain ⟨rfl, _, _⟩ := e
  have hl : (rs.take j).length = j := by rw [List.length_take]; omega
  refine ⟨a, cap', by rw [hl], fun hne => ?_⟩
  obtain ⟨b, off, rfl, hB, hc⟩ := hx (by rintro rfl; simp at hne)
  refine ⟨b, off, rfl, hB, fun i hi => ?_⟩
  rw [hl] at hi
  obtain ⟨u, hu, hs⟩ := hc i (by omega)
  exact ⟨u, hu, by rw [List.getElem_take]; exact hs⟩
/-- The rest of a rest. -/
theorem mod_two (t : Int) (n : Nat) (hn : 0 < n) : ∃ (u : Int) (k : Nat), t.tmod n = u ∧ -(n : Int) < u ∧ u < n ∧ (u + n).tmod n = k ∧ (u + n) % n = k ∧ k < n := by
  have h1 := Int.tmod_lt_of_pos t (b := (n : Int)) (by omega)
  have h2 := Int.lt_tmod_of_pos t (b := (n : Int)) (by omega)
  refine ⟨t.tmod n, ((t.tmod n + n) % n).toNat, rfl, h2, h1, ?_, ?_, ?_⟩
  · rw [Int.tmod_eq_emod_of_nonneg (by omega), Int.toNat_of_nonneg (Int.emod_nonneg _ (by omega))]
  · rw [Int.toNat_of_nonneg (Int.emod_nonneg _ (by omega))]
  · have h3 := Int.emod_nonneg (t.tmod n + n) (b := (n : Int)) (by omega)
    have h4 := Int.emod_lt_of_pos (t.tmod n + n) (b := (n : Int)) (by omega)
    omega
end Go.Proofs.YtjlcmgfgbmcjpabDoor
