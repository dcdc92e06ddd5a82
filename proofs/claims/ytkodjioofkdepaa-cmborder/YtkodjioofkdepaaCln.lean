/- Proved: contracts of slices.Clone of integers, of rules, of what is done: a new row of the same cells. -/
import Derived.Test.YtkodjioofkdepaaMsk
namespace Go.Proofs.Ytkodjioofkdepaa
open Go.RowKit Go.Shelf
set_option linter.unusedVariables false

theorem infoI : (Try.prog.info? 3).map (fun i => (i.zero, i.size, i.bytes)) = some (some (.int .i64 0), 1, 8) := by kernel_rfl
theorem infoR : (Try.prog.info? 71).map (fun i => (i.zero, i.size, i.bytes)) = some (some (.agg #[.int .i64 0, .int .i64 0, .int .i64 0, .slice none 0 0]), 4, 48) := by kernel_rfl
theorem infoD : (Try.prog.info? 49).map (fun i => (i.zero, i.size, i.bytes)) = some (some (.agg #[.int .i64 0, .int .i64 0, .int .i64 0, .int .i64 0, .int .i64 0, .int .i64 0, .int .i64 0]), 7, 56) := by kernel_rfl
theorem shape_of {w' : World} {b0 e size n : Nat} {v' : Value} {ys : List Value} (h : w'.ownsRow b0 e size v' n ys) : ∃ a' c', v' = .slice a' n c' := by
  rcases h.2 with ⟨rfl, hn⟩ | ⟨g, cap, cur, rfl, _⟩
  · exact ⟨none, 0, by rw [hn]⟩
  · exact ⟨_, _, rfl⟩

theorem appI (w : World) (a : Option Addr) (n c : Nat) (ys : List Value) (hlen : ys.length = n * 1) (hn : n ≤ 10000) (hone : ∀ v ∈ ys, v.oneCell' = true)
    (hc : n ≠ 0 → ∃ b off, a = some ⟨b, off, none⟩ ∧ b < w.heap.size ∧ ∀ j u, ys[j]? = some u → w.cell? ⟨b, off + j, none⟩ = some u) (ty : TypeId) :
    ∃ a' c' w', (Builtin.append_ #[28, 28] ty #[.slice (some ⟨w.heap.size, 0, none⟩) 0 0, .slice a n c]).run Try.prog (w.alloc (.cells #[] 3)) = .ok (.slice a' n c') w' ∧ w'.ownsRow w.heap.size 3 1 (.slice a' n c') n ys ∧ Below w.heap.size w w' := by
  obtain ⟨i0, hi0, hz0, hz1, hz2⟩ := info_parts infoI
  have hm : (w.alloc (.cells #[] 3)).ownsRow w.heap.size 3 1 (.slice (some ⟨w.heap.size, 0, none⟩) 0 0) 0 [] := World.ownsRow_made w #[] 0 (Nat.le_refl _) (Nat.zero_le _) (by simp)
  have hb := al w (.cells #[] 3)
  cases a with
  | none =>
    have h0 : n = 0 := Classical.byContradiction fun g => by
      obtain ⟨b, off, e, _⟩ := hc g
      cases e
    subst h0
    have hy : ys = [] := List.length_eq_zero_iff.1 (by omega)
    subst hy
    have hr := run_append_owned_none (P := Try.prog) _ w.heap.size 28 ty 3 i0 1 Try.underlying28 hi0 _ 0 [] hm
    exact ⟨_, _, _, (by first | exact hr | (have := hr; simpa using this)), hm, hb⟩
  | some ad =>
    obtain ⟨v', w', hr, h3, h4, h5, h6⟩ := run_append_own_at (P := Try.prog) _ w.heap.size 28 ty 3 i0 _ 1 8 Try.underlying28 hi0 hz0 hz1 hz2 rfl (by decide) _ 0 [] hm ad n c ys hlen (fun j u hj => by
      have hj' : j < n * 1 := by have := (List.getElem?_eq_some_iff.1 hj).1; omega
      obtain ⟨b, off, e, hB, hcc⟩ := hc (by intro e; simp [e] at hj')
      simp at e
      subst e
      rw [Addr.add_lit]
      exact (hb.cell (p := ⟨b, off + j, none⟩) hB).trans (hcc j u hj)) hone (by unfold maxLen; omega) (by omega) hb.size
    rw [Nat.zero_add, List.nil_append] at h3
    obtain ⟨a', c', rfl⟩ := shape_of h3
    exact ⟨a', c', w', hr, h3, hb.grown h4 hb.size (fun k e => by simp [Value.ownBlock] at e; omega)⟩
set_option maxRecDepth 100000 in
set_option maxHeartbeats 400000 in
theorem cloneI_any (w : World) (a : Option Addr) (n c : Nat) (ys : List Value) (hlen : ys.length = n * 1) (hn : n ≤ 10000) (hone : ∀ v ∈ ys, v.oneCell' = true)
    (hc : n ≠ 0 → ∃ b off, a = some ⟨b, off, none⟩ ∧ b < w.heap.size ∧ ∀ j u, ys[j]? = some u → w.cell? ⟨b, off + j, none⟩ = some u) :
    Calls Try.prog 36 #[.slice a n c] w fun e w' => ∃ a' c', e = .returned (.slice a' n c') ∧ w'.ownsRow w.heap.size 3 1 (.slice a' n c') n ys ∧ Below w.heap.size w w' := by
  have q22 : ∀ (w : World) (a : Option Addr) (n c n' c' : Nat), (binOp .eql 28 (.slice a n c) (.slice none n' c')).run Try.prog w = .ok (.bool a.isNone) w := fun w a n c n' c' => Lib.run_eql_slice_nil w _ _ a n c n' c' Try.underlying28
  cases a with
  | none =>
    have h0 : n = 0 := Classical.byContradiction fun g => by
      obtain ⟨b, off, e, _⟩ := hc g
      cases e
    subst h0
    have hy : ys = [] := List.length_eq_zero_iff.1 (by omega)
    subst hy
    clear hc hone hlen
    go_enter Try.func36, Try.ntmps36
    go_wp2
    go_ret
    exact ⟨_, _, rfl, World.ownsRow_nil _ _ _ _, Below.refl _ _⟩
  | some ad =>
    obtain ⟨a', c', w', hrun, ho, hb⟩ := appI w (some ad) n c ys hlen hn hone hc 28
    have HRUN : Hid _ := hrun
    clear hc hone hlen hrun
    go_enter Try.func36, Try.ntmps36
    go_wp2_with (at_builtin; refine wpList_append_run _ rfl _ _ 28 rfl rfl rfl HRUN.out ?_)
    go_ret
    exact ⟨_, _, rfl, ho, hb⟩

theorem appR (w : World) (a : Option Addr) (n c : Nat) (ys : List Value) (hlen : ys.length = n * 4) (hn : n ≤ 10000) (hone : ∀ v ∈ ys, v.oneCell' = true)
    (hc : n ≠ 0 → ∃ b off, a = some ⟨b, off, none⟩ ∧ b < w.heap.size ∧ ∀ j u, ys[j]? = some u → w.cell? ⟨b, off + j, none⟩ = some u) (ty : TypeId) :
    ∃ a' c' w', (Builtin.append_ #[62, 62] ty #[.slice (some ⟨w.heap.size, 0, none⟩) 0 0, .slice a n c]).run Try.prog (w.alloc (.cells #[] 71)) = .ok (.slice a' n c') w' ∧ w'.ownsRow w.heap.size 71 4 (.slice a' n c') n ys ∧ Below w.heap.size w w' := by
  obtain ⟨i0, hi0, hz0, hz1, hz2⟩ := info_parts infoR
  have hm : (w.alloc (.cells #[] 71)).ownsRow w.heap.size 71 4 (.slice (some ⟨w.heap.size, 0, none⟩) 0 0) 0 [] := World.ownsRow_made w #[] 0 (Nat.le_refl _) (Nat.zero_le _) (by simp)
  have hb := al w (.cells #[] 71)
  cases a with
  | none =>
    have h0 : n = 0 := Classical.byContradiction fun g => by
      obtain ⟨b, off, e, _⟩ := hc g
      cases e
    subst h0
    have hy : ys = [] := List.length_eq_zero_iff.1 (by omega)
    subst hy
    have hr := run_append_owned_none (P := Try.prog) _ w.heap.size 62 ty 71 i0 4 Try.underlying62 hi0 _ 0 [] hm
    exact ⟨_, _, _, (by first | exact hr | (have := hr; simpa using this)), hm, hb⟩
  | some ad =>
    obtain ⟨v', w', hr, h3, h4, h5, h6⟩ := run_append_own_at (P := Try.prog) _ w.heap.size 62 ty 71 i0 _ 4 48 Try.underlying62 hi0 hz0 hz1 hz2 rfl (by decide) _ 0 [] hm ad n c ys hlen (fun j u hj => by
      have hj' : j < n * 4 := by have := (List.getElem?_eq_some_iff.1 hj).1; omega
      obtain ⟨b, off, e, hB, hcc⟩ := hc (by intro e; simp [e] at hj')
      simp at e
      subst e
      rw [Addr.add_lit]
      exact (hb.cell (p := ⟨b, off + j, none⟩) hB).trans (hcc j u hj)) hone (by unfold maxLen; omega) (by omega) hb.size
    rw [Nat.zero_add, List.nil_append] at h3
    obtain ⟨a', c', rfl⟩ := shape_of h3
    exact ⟨a', c', w', hr, h3, hb.grown h4 hb.size (fun k e => by simp [Value.ownBlock] at e; omega)⟩
theorem appD (w : World) (a : Option Addr) (n c : Nat) (ys : List Value) (hlen : ys.length = n * 7) (hn : n ≤ 10000) (hone : ∀ v ∈ ys, v.oneCell' = true)
    (hc : n ≠ 0 → ∃ b off, a = some ⟨b, off, none⟩ ∧ b < w.heap.size ∧ ∀ j u, ys[j]? = some u → w.cell? ⟨b, off + j, none⟩ = some u) (ty : TypeId) :
    ∃ a' c' w', (Builtin.append_ #[44, 44] ty #[.slice (some ⟨w.heap.size, 0, none⟩) 0 0, .slice a n c]).run Try.prog (w.alloc (.cells #[] 49)) = .ok (.slice a' n c') w' ∧ w'.ownsRow w.heap.size 49 7 (.slice a' n c') n ys ∧ Below w.heap.size w w' := by
  obtain ⟨i0, hi0, hz0, hz1, hz2⟩ := info_parts infoD
  have hm : (w.alloc (.cells #[] 49)).ownsRow w.heap.size 49 7 (.slice (some ⟨w.heap.size, 0, none⟩) 0 0) 0 [] := World.ownsRow_made w #[] 0 (Nat.le_refl _) (Nat.zero_le _) (by simp)
  have hb := al w (.cells #[] 49)
  cases a with
  | none =>
    have h0 : n = 0 := Classical.byContradiction fun g => by
      obtain ⟨b, off, e, _⟩ := hc g
      cases e
    subst h0
    have hy : ys = [] := List.length_eq_zero_iff.1 (by omega)
    subst hy
    have hr := run_append_owned_none (P := Try.prog) _ w.heap.size 44 ty 49 i0 7 Try.underlying44 hi0 _ 0 [] hm
    exact ⟨_, _, _, (by first | exact hr | (have := hr; simpa using this)), hm, hb⟩
  | some ad =>
    obtain ⟨v', w', hr, h3, h4, h5, h6⟩ := run_append_own_at (P := Try.prog) _ w.heap.size 44 ty 49 i0 _ 7 56 Try.underlying44 hi0 hz0 hz1 hz2 rfl (by decide) _ 0 [] hm ad n c ys hlen (fun j u hj => by
      have hj' : j < n * 7 := by have := (List.getElem?_eq_some_iff.1 hj).1; omega
      obtain ⟨b, off, e, hB, hcc⟩ := hc (by intro e; simp [e] at hj')
      simp at e
      subst e
      rw [Addr.add_lit]
      exact (hb.cell (p := ⟨b, off + j, none⟩) hB).trans (hcc j u hj)) hone (by unfold maxLen; omega) (by omega) hb.size
    rw [Nat.zero_add, List.nil_append] at h3
    obtain ⟨a', c', rfl⟩ := shape_of h3
    exact ⟨a', c', w', hr, h3, hb.grown h4 hb.size (fun k e => by simp [Value.ownBlock] at e; omega)⟩
set_option maxRecDepth 100000 in
set_option maxHeartbeats 400000 in
theorem cloneD_any (w : World) (a : Option Addr) (n c : Nat) (ys : List Value) (hlen : ys.length = n * 7) (hn : n ≤ 10000) (hone : ∀ v ∈ ys, v.oneCell' = true)
    (hc : n ≠ 0 → ∃ b off, a = some ⟨b, off, none⟩ ∧ b < w.heap.size ∧ ∀ j u, ys[j]? = some u → w.cell? ⟨b, off + j, none⟩ = some u) :
    Calls Try.prog 26 #[.slice a n c] w fun e w' => ∃ a' c', e = .returned (.slice a' n c') ∧ w'.ownsRow w.heap.size 49 7 (.slice a' n c') n ys ∧ Below w.heap.size w w' := by
  have q22 : ∀ (w : World) (a : Option Addr) (n c n' c' : Nat), (binOp .eql 44 (.slice a n c) (.slice none n' c')).run Try.prog w = .ok (.bool a.isNone) w := fun w a n c n' c' => Lib.run_eql_slice_nil w _ _ a n c n' c' Try.underlying44
  cases a with
  | none =>
    have h0 : n = 0 := Classical.byContradiction fun g => by
      obtain ⟨b, off, e, _⟩ := hc g
      cases e
    subst h0
    have hy : ys = [] := List.length_eq_zero_iff.1 (by omega)
    subst hy
    clear hc hone hlen
    go_enter Try.func26, Try.ntmps26
    go_wp2
    go_ret
    exact ⟨_, _, rfl, World.ownsRow_nil _ _ _ _, Below.refl _ _⟩
  | some ad =>
    obtain ⟨a', c', w', hrun, ho, hb⟩ := appD w (some ad) n c ys hlen hn hone hc 44
    have HRUN : Hid _ := hrun
    clear hc hone hlen hrun
    go_enter Try.func26, Try.ntmps26
    go_wp2_with (at_builtin; refine wpList_append_run _ rfl _ _ 44 rfl rfl rfl HRUN.out ?_)
    go_ret
    exact ⟨_, _, rfl, ho, hb⟩

/-! ### Integers -/
theorem getI (l : List Int) (j : Nat) (u : Value) (h : (l.map (Value.int .i64))[j]? = some u) : j < l.length ∧ u = .int .i64 (nthI l j) := by
  rw [List.getElem?_map] at h
  obtain ⟨x, hx, rfl⟩ := Option.map_eq_some_iff.1 h
  obtain ⟨hj, e⟩ := List.getElem?_eq_some_iff.1 hx
  exact ⟨hj, by simp [nthI, hj, e]⟩
theorem cloneInts (w : World) (a : Option Addr) (c : Nat) (l : List Int) (h : RdI w w.heap.size a l) (hl : l.length ≤ 10000) :
    Calls Try.prog 36 #[.slice a l.length c] w fun e w' => ∃ a' c', e = .returned (.slice a' l.length c') ∧ w'.ownsRow w.heap.size 3 1 (.slice a' l.length c') l.length (l.map (Value.int .i64)) ∧ Below w.heap.size w w' :=
  cloneI_any w a l.length c _ (by simp) hl (fun v hv => by obtain ⟨x, _, rfl⟩ := List.mem_map.1 hv; rfl) (fun g => by
    obtain ⟨b, off, e, hB, hc⟩ := h (fun e => g (by simp [e]))
    refine ⟨b, off, e, hB, fun j u hj => ?_⟩
    obtain ⟨h1, rfl⟩ := getI l j u hj
    exact hc j h1)
theorem rdI_row {w' : World} {b0 : Nat} {a' : Option Addr} {c' : Nat} {l : List Int} (h : w'.ownsRow b0 3 1 (.slice a' l.length c') l.length (l.map (Value.int .i64))) : RdI w' w'.heap.size a' l := by
  have h0 := h
  rcases h.2 with ⟨e, hn⟩ | ⟨g, cap, cur, e, _, hg, _⟩
  · exact fun g => absurd (List.length_eq_zero_iff.1 hn) g
  · simp at e
    obtain ⟨rfl, rfl⟩ := e
    refine fun _ => ⟨g, 0, rfl, (Array.getElem?_eq_some_iff.1 hg).1, fun i hi => ?_⟩
    rw [Nat.zero_add, World.ownsRow.cellAt h0 _ (by omega)]
    simp [nthI, hi]

/-! ### Rules -/
theorem encR_len (r : Rl) : (encR r).length = 4 := rfl
theorem encR_one (r : Rl) : ∀ v ∈ encR r, v.oneCell' = true := by
  intro v hv
  simp [encR] at hv
  rcases hv with rfl | rfl | rfl | rfl <;> rfl
def flatR (l : List Rl) : List Value := l.flatMap encR
theorem flatR_len (l : List Rl) : (flatR l).length = l.length * 4 := by
  induction l with
  | nil => rfl
  | cons x r ih => simp only [flatR, List.flatMap_cons, List.length_append, encR_len, List.length_cons] at *; omega
theorem flatR_get (l : List Rl) (i c : Nat) (hi : i < l.length) (hc : c < 4) : (flatR l)[i * 4 + c]? = (encR (nthR l i))[c]? := by
  induction l generalizing i with
  | nil => simp at hi
  | cons x r ih =>
    rw [show flatR (x :: r) = encR x ++ flatR r by simp [flatR]]
    cases i with
    | zero => rw [List.getElem?_append_left (by rw [encR_len]; omega)]; simp [nthR]
    | succ j =>
      rw [List.getElem?_append_right (by rw [encR_len]; omega), encR_len, show (j + 1) * 4 + c - 4 = j * 4 + c by omega, ih j (by simpa using hi)]
      simp [nthR]
theorem flatR_one (l : List Rl) : ∀ v ∈ flatR l, v.oneCell' = true := by
  intro v hv
  obtain ⟨m, _, h⟩ := List.mem_flatMap.1 hv
  exact encR_one m v h
theorem flat_div {j n k : Nat} (h : j < n * k) (hk : 0 < k) : j / k < n ∧ j % k < k ∧ j / k * k + j % k = j :=
  ⟨Nat.div_lt_of_lt_mul (by rw [Nat.mul_comm]; exact h), Nat.mod_lt _ hk, by rw [Nat.mul_comm]; exact Nat.div_add_mod _ _⟩
theorem csR_row {w' : World} {b0 : Nat} {a' : Option Addr} {c' : Nat} {l : List Rl} (h : w'.ownsRow b0 71 4 (.slice a' l.length c') l.length (flatR l)) : CsR w' a' l := by
  have h0 := h
  rcases h.2 with ⟨e, hn⟩ | ⟨g, cap, cur, e, _, hg, _⟩
  · exact fun g => absurd (List.length_eq_zero_iff.1 hn) g
  · simp at e
    obtain ⟨rfl, rfl⟩ := e
    refine fun _ => ⟨g, 0, rfl, (Array.getElem?_eq_some_iff.1 hg).1, fun i hi c hc => ?_⟩
    rw [Nat.zero_add, World.ownsRow.cellAt h0 _ (by omega), flatR_get l i c hi hc]
theorem nthR_set (l : List Rl) (i j : Nat) (r : Rl) (hi : i < l.length) : nthR (l.set i r) j = if i = j then r else nthR l j := by
  unfold nthR
  by_cases h : i = j
  · subst h
    simp [hi]
  · simp [h]
theorem flatR_set (l : List Rl) (i : Nat) (hi : i < l.length) (a' : Option Addr) (c' : Nat) : (flatR l).set (i * 4 + 3) (.slice a' (nthR l i).os.length c') = flatR (l.set i ⟨(nthR l i).st, (nthR l i).cl, (nthR l i).nx, a', c', (nthR l i).os⟩) := by
  apply List.ext_getElem?
  intro j
  by_cases hj : j < l.length * 4
  · obtain ⟨h1, h2, h3⟩ := flat_div hj (by omega)
    have e1 := flatR_get (l.set i ⟨(nthR l i).st, (nthR l i).cl, (nthR l i).nx, a', c', (nthR l i).os⟩) (j / 4) (j % 4) (by simpa using h1) h2
    rw [h3] at e1
    rw [e1, nthR_set _ _ _ _ hi, List.getElem?_set]
    have e2 := flatR_get l (j / 4) (j % 4) h1 h2
    rw [h3] at e2
    by_cases e : i * 4 + 3 = j
    · have e3 : i = j / 4 := by omega
      have e4 : j % 4 = 3 := by omega
      rw [if_pos e, if_pos (by rw [flatR_len]; omega), if_pos e3, e4]
      rfl
    · rw [if_neg e, e2]
      by_cases e3 : i = j / 4
      · rw [if_pos e3, ← e3]
        rcases (by omega : j % 4 = 0 ∨ j % 4 = 1 ∨ j % 4 = 2) with g | g | g <;> rw [g] <;> rfl
      · rw [if_neg e3]
  · rw [List.getElem?_eq_none (by rw [List.length_set, flatR_len]; omega), List.getElem?_eq_none (by rw [flatR_len, List.length_set]; omega)]
end Go.Proofs.Ytkodjioofkdepaa
