/- Proved: contracts of sideOfTime, sideOfKey, of slices.Clone of messages and of entries, and of copied. -/
import Derived.Test.YtgifanioeeacdaaEnt
namespace Go.Proofs.Ytgifanioeeacdaa
open Go.RowKit Go.Shelf Go.Sort
set_option linter.unusedVariables false

set_option maxHeartbeats 1000000 in
theorem side_time (x : E) (t : Int) (w : World) :
    Calls Try.prog 26 #[ev x, .int .i64 t] w fun e w' => e = .returned (.int .i64 (cmpI x.p.m.1.1 t)) ∧ ∃ q os, w' = grow (w.drewN q) os := by
  obtain ⟨⟨⟨⟨a1, a2, a3⟩, a4, a5, a6⟩, a7, a8, a9, os⟩, oa, oc⟩ := x
  have hc := fun W => compare_any a1 t W
  dsimp only at hc ⊢
  generalize cmpI a1 t = r at hc ⊢
  go_enter Try.func26, Try.ntmps26
  go_wp2_with (go_at_call 33; refine (hc _).mono ?_; rintro e w' ⟨rfl, rfl⟩)
  go_ret
  exact ⟨rfl, 0, _, by rw [alloc_eq_grow]; rfl⟩
set_option maxHeartbeats 1000000 in
theorem side_key (x : E) (k : K) (w : World) :
    Calls Try.prog 27 #[ev x, kv k] w fun e w' => e = .returned (.int .i64 (kcmp x.p.m.1 k)) ∧ ∃ q os, w' = grow (w.drewN q) os := by
  obtain ⟨⟨⟨⟨a1, a2, a3⟩, a4, a5, a6⟩, a7, a8, a9, os⟩, oa, oc⟩ := x
  obtain ⟨b1, b2, b3⟩ := k
  have hc := fun W => cmp_any (a1, a2, a3) (b1, b2, b3) W
  dsimp only at hc ⊢
  generalize kcmp (a1, a2, a3) (b1, b2, b3) = r at hc ⊢
  go_enter Try.func27, Try.ntmps27
  go_wp2_with (go_at_call 34; refine (hc _).mono ?_; rintro e w' ⟨rfl, q, os, rfl⟩)
  go_ret
  exact ⟨rfl, q, _, grow2_drewN _ _ _ _ _⟩
/-- A row is made, and what a slice tells is put into it. -/
theorem made_append {α : Type} {C : Cd α} {t e : TypeId} (T : Ty C t e) {N : Nat → Prop} {w : World} {a : Option Addr} {c : Nat} {l : List α} (h : RdN C N w a l) (hl : l.length ≤ 100000) (ty : TypeId) :
    ∃ a' c' w', (Builtin.append_ #[t, t] ty #[.slice (some ⟨w.heap.size, 0, none⟩) 0 0, .slice a l.length c]).run Try.prog (w.alloc (.cells #[] e)) = .ok (.slice a' l.length c') w' ∧ OwR C e w' (.slice a' l.length c') l ∧ (∀ k, (Value.slice a' l.length c').ownBlock = some k → w.heap.size ≤ k) ∧ Below w.heap.size w w' := by
  obtain ⟨a', c', w', hr, ho, hm⟩ := append_R (c := c) T (OwR.made C e w) (h.below (al w _)) (by simp) hl ty l (by simp)
  refine ⟨a', c', w', hr, ho, fun k hk => ?_, (al w _).trans (hm.fr.below (by simp) (fun i e => ?_))⟩
  · rcases Nat.lt_or_ge k w.heap.size with g | g
    · have := hm.new k (by simp; omega) hk
      simp [Value.ownBlock] at this
      omega
    · exact g
  · simp [Value.ownBlock] at e
    omega
set_option maxRecDepth 100000 in
set_option maxHeartbeats 400000 in
theorem cloneM_any {N : Nat → Prop} (w : World) (a : Option Addr) (c : Nat) (l : List M) (h : RdN cM N w a l) (hl : l.length ≤ 100000) :
    Calls Try.prog 35 #[.slice a l.length c] w fun e w' => ∃ a' c', e = .returned (.slice a' l.length c') ∧ OwR cM 31 w' (.slice a' l.length c') l ∧ (∀ k, (Value.slice a' l.length c').ownBlock = some k → w.heap.size ≤ k) ∧ Below w.heap.size w w' := by
  have q22 : ∀ (w : World) (a : Option Addr) (n c n' c' : Nat), (binOp .eql 32 (.slice a n c) (.slice none n' c')).run Try.prog w = .ok (.bool a.isNone) w := fun w a n c n' c' => Lib.run_eql_slice_nil w _ _ a n c n' c' Try.underlying32
  cases a with
  | none =>
    have h0 : l = [] := Classical.byContradiction fun g => by
      obtain ⟨b, off, e, _⟩ := h g
      cases e
    subst h0
    clear h hl
    go_enter Try.func35, Try.ntmps35
    go_wp2
    go_ret
    exact ⟨none, 0, rfl, OwR.nil _ _ _, fun k e => by simp [Value.ownBlock] at e, Below.refl _ _⟩
  | some ad =>
    obtain ⟨a', c', w', hrun, ho, hn, hb⟩ := made_append (c := c) tyM h hl 32
    have HRUN : Hid _ := hrun
    obtain ⟨n, hnn⟩ : ∃ n, l.length = n := ⟨_, rfl⟩
    have HO : Hid (OwR cM 31 w' (.slice a' l.length c') l) := ho
    have HN : Hid (∀ k, (Value.slice a' l.length c').ownBlock = some k → w.heap.size ≤ k) := hn
    rw [hnn] at HRUN HO HN ⊢
    clear h hl hrun hnn ho hn
    go_enter Try.func35, Try.ntmps35
    go_wp2_with (at_builtin; refine wpList_append_run _ rfl _ _ 32 rfl rfl rfl HRUN.out ?_)
    go_ret
    exact ⟨_, _, rfl, HO.out, HN.out, hb⟩
set_option maxRecDepth 100000 in
set_option maxHeartbeats 400000 in
theorem cloneE_any {N : Nat → Prop} (w : World) (a : Option Addr) (c : Nat) (l : List E) (h : RdN cE N w a l) (hl : l.length ≤ 100000) :
    Calls Try.prog 36 #[.slice a l.length c] w fun e w' => ∃ a' c', e = .returned (.slice a' l.length c') ∧ OwR cE 34 w' (.slice a' l.length c') l ∧ (∀ k, (Value.slice a' l.length c').ownBlock = some k → w.heap.size ≤ k) ∧ Below w.heap.size w w' := by
  have q22 : ∀ (w : World) (a : Option Addr) (n c n' c' : Nat), (binOp .eql 42 (.slice a n c) (.slice none n' c')).run Try.prog w = .ok (.bool a.isNone) w := fun w a n c n' c' => Lib.run_eql_slice_nil w _ _ a n c n' c' Try.underlying42
  cases a with
  | none =>
    have h0 : l = [] := Classical.byContradiction fun g => by
      obtain ⟨b, off, e, _⟩ := h g
      cases e
    subst h0
    clear h hl
    go_enter Try.func36, Try.ntmps36
    go_wp2
    go_ret
    exact ⟨none, 0, rfl, OwR.nil _ _ _, fun k e => by simp [Value.ownBlock] at e, Below.refl _ _⟩
  | some ad =>
    obtain ⟨a', c', w', hrun, ho, hn, hb⟩ := made_append (c := c) tyE h hl 42
    have HRUN : Hid _ := hrun
    obtain ⟨n, hnn⟩ : ∃ n, l.length = n := ⟨_, rfl⟩
    have HO : Hid (OwR cE 34 w' (.slice a' l.length c') l) := ho
    have HN : Hid (∀ k, (Value.slice a' l.length c').ownBlock = some k → w.heap.size ≤ k) := hn
    rw [hnn] at HRUN HO HN ⊢
    clear h hl hrun hnn ho hn
    go_enter Try.func36, Try.ntmps36
    go_wp2_with (at_builtin; refine wpList_append_run _ rfl _ _ 42 rfl rfl rfl HRUN.out ?_)
    go_ret
    exact ⟨_, _, rfl, HO.out, HN.out, hb⟩
end Go.Proofs.Ytgifanioeeacdaa
