/- Proved: contracts of Clone of sends, of Step (the program's and the document's), of Same at one list, and of the statements' heavy. -/
import Derived.Test.YtddjfjecamcfnaaFnd
import Derived.Deep.RegionLaw
namespace Go.Proofs.Ytddjfjecamcfnaa
open Go.RowKit Go.Shelf
set_option linter.unusedVariables false

/-- Sends behind the sends of a row that a call has made. -/
theorem append_O {w W : World} {v : Value} {a : Option Addr} {c : Nat} {l1 l2 : List O} (h1 : RowO w W v l1) (h2 : RdO W a l2) (hl1 : l1.length ≤ 100000) (hl2 : l2.length ≤ 100000) (ty : TypeId) (X : List O) (hX : l1 ++ l2 = X) :
    ∃ a' c' w', (Builtin.append_ #[24, 24] ty #[v, .slice a l2.length c]).run Try.prog W = .ok (.slice a' X.length c') w' ∧ RowO w w' (.slice a' X.length c') X := by
  obtain ⟨i0, hi0, hz0, hz1, hz2⟩ := info_parts infoO
  have fin : ∀ v' w', RowO w w' v' X → (Builtin.append_ #[24, 24] ty #[v, .slice a l2.length c]).run Try.prog W = .ok v' w' → ∃ a' c' w', (Builtin.append_ #[24, 24] ty #[v, .slice a l2.length c]).run Try.prog W = .ok (.slice a' X.length c') w' ∧ RowO w w' (.slice a' X.length c') X := fun v' w' h hr => by
    obtain ⟨a', c', rfl, _⟩ := h.rd
    exact ⟨a', c', w', hr, h⟩
  cases a with
  | none =>
    have hd : l2 = [] := Classical.byContradiction fun g => by
      obtain ⟨b, off, e, _⟩ := h2 g
      cases e
    subst hd
    rw [List.append_nil] at hX
    subst hX
    have hr := run_append_owned_none (P := Try.prog) W w.heap.size 24 ty 33 i0 3 Try.underlying24 hi0 v l1.length (flatO l1) h1.1
    exact fin _ _ h1 (by first | exact hr | (have := hr; simpa using this))
  | some ad =>
    obtain ⟨v', w', hr, h3, h4, h5, h6⟩ := run_append_own_at (P := Try.prog) W w.heap.size 24 ty 33 i0 _ 3 24 Try.underlying24 hi0 hz0 hz1 hz2 rfl (by decide) v l1.length (flatO l1) h1.1 ad l2.length c (flatO l2) (flatO_len l2) (fun j u hj => by
      have hj' : j < l2.length * 3 := by have := (List.getElem?_eq_some_iff.1 hj).1; rwa [flatO_len] at this
      obtain ⟨b, off, e, _⟩ := h2 (by intro e; simp [e] at hj')
      simp at e
      subst e
      rw [Addr.add_lit]
      exact h2.flat j u hj) (flatO_one _) (by unfold maxLen; omega) (by omega) h1.2.size
    refine fin v' w' ⟨?_, h1.2.grown h4 h1.2.size (fun k e => rowO_ge h1 e)⟩ hr
    rw [← hX, flatO_append, List.length_append]
    exact h3
theorem wpList_append_O (W : World) {ops : Array Oper} {rest : List Oper} {o : Oper} {a : Act} {Q : Exit → Act → World → Prop} (hgd : o.guard = none) (s x : Operand)
    (ho : o.op = .call { callee := .builtin .append, args := #[s, x], argTypes := #[24, 24] })
    (w : World) (v : Value) (ad : Option Addr) (c : Nat) (l1 l2 : List O) (hs : a.eval s = v) (hx : a.eval x = .slice ad l2.length c) (h1 : RowO w W v l1) (h2 : RdO W ad l2) (hl1 : l1.length ≤ 100000) (hl2 : l2.length ≤ 100000) (X : List O) (hX : l1 ++ l2 = X)
    (h : ∀ a' c' w', RowO w w' (.slice a' X.length c') X → wpList Try.prog ops Q rest (a.put o.dst (.slice a' X.length c')) w') :
    wpList Try.prog ops Q (o :: rest) a W := by
  refine wpList_plain hgd fun K hK => ?_
  obtain ⟨a', c', w', hr, h3⟩ := append_O (c := c) h1 h2 hl1 hl2 o.type X hX
  unfold Oper.wp execOp
  simp only [ho, resolve, invoke, builtin, Sem.run_bind, Sem.run_pure, Result.andThen_ok, List.map_toArray, List.map_cons, List.map_nil, hs, hx, hr]
  exact hK _ _ (h a' c' w' h3)

set_option maxRecDepth 100000 in
set_option maxHeartbeats 400000 in
theorem clone_any (w : World) (a : Option Addr) (c : Nat) (l : List O) (h : RdO w a l) (hl : l.length ≤ 1000) :
    Calls Try.prog 21 #[.slice a l.length c] w fun e w' => ∃ a' c', e = .returned (.slice a' l.length c') ∧ RowO w w' (.slice a' l.length c') l := by
  have q22 : ∀ (w : World) (a : Option Addr) (n c n' c' : Nat), (binOp .eql 24 (.slice a n c) (.slice none n' c')).run Try.prog w = .ok (.bool a.isNone) w := fun w a n c n' c' => Lib.run_eql_slice_nil w _ _ a n c n' c' Try.underlying24
  cases a with
  | none =>
    have hd : l = [] := Classical.byContradiction fun g => by
      obtain ⟨b, off, e, _⟩ := h g
      cases e
    subst hd
    have HN : Hid _ := RowO.nil w
    clear h
    go_enter Try.func21, Try.ntmps21
    go_wp2
    go_ret
    exact ⟨_, _, rfl, HN.out⟩
  | some ad =>
    have HE : Hid _ := RowO.empty w
    have H2 : Hid _ := h.below (RowO.empty w).2
    clear h
    go_enter Try.func21, Try.ntmps21
    go_wp2_with (at_builtin; refine wpList_append_O _ rfl _ _ rfl w _ _ _ [] l rfl rfl (Hid.out HE) (Hid.out H2) (by simp) (by omega) l rfl ?_; intro a' c' w' hr; have HR : Hid _ := hr; clear hr)
    go_ret
    exact ⟨_, _, rfl, HR.out⟩

/-! ### Rules that are not heavy -/
def Lt (l : List Rl) : Prop := l.length ≤ 60 ∧ ∀ r ∈ l, r.os.length ≤ 20
def hvy (l : List Rl) : Bool := decide (60 < l.length) || l.any (fun r => decide (20 < r.os.length))
theorem lt_of {l : List Rl} (h : hvy l = false) : Lt l := by
  unfold hvy at h
  rw [Bool.or_eq_false_iff, decide_eq_false_iff_not, List.any_eq_false] at h
  refine ⟨by omega, fun r hr => ?_⟩
  have := h.2 r hr
  rw [decide_eq_true_iff] at this
  omega

set_option maxRecDepth 100000 in
set_option maxHeartbeats 400000 in
theorem heavy_any (w : World) (a : Option Addr) (cp : Nat) (l : List Rl) (h : RdR w a l) (hl : l.length ≤ maxLen) :
    Calls Try.prog 9 #[.slice a l.length cp] w fun e w' => e = .returned (.bool (hvy l)) ∧ w = w' := by
  have HR : Hid (RdR w a l) := h
  unfold maxLen at hl
  clear h
  by_cases hq : (60 : Int) < (l.length : Int)
  · rw [show hvy l = true by unfold hvy; rw [decide_eq_true (by omega)]; rfl]
    go_enter Try.func9, Try.ntmps9
    go_wp2
    go_ret
    exact ⟨rfl, rfl⟩
  · have HV : Hid (hvy l = l.any (fun r => decide (20 < r.os.length))) := by show hvy l = _; unfold hvy; rw [decide_eq_false (by omega)]; rfl
    go_enter Try.func9, Try.ntmps9
    go_wp2_with fail
    go_loopw [3] (fun s3 wr => ∃ k : Nat, k ≤ l.length ∧ s3 = .int .i64 k ∧ Hid (∀ i, i < k → (nthR l i).os.length ≤ 20) ∧ wr = w) (fun s3 _ => l.length - (intOf s3).toNat)
    case atStart => exact ⟨0, Nat.zero_le _, rfl, (fun i hi => absurd hi (Nat.not_lt_zero _) : ∀ i, i < 0 → (nthR l i).os.length ≤ 20), rfl⟩
    case round =>
      obtain ⟨k, hk, rfl, HJ, rfl⟩ := hrel
      by_cases hkl : k < l.length
      · have hk' : (k : Int) < (l.length : Int) := by omega
        obtain ⟨r, hr⟩ : ∃ r, nthR l k = r := ⟨_, rfl⟩
        obtain ⟨b, off, rfl, hB, x0, x1, x2, x3⟩ := HR.out.cells hkl hr
        have HRE : Hid _ := hr
        clear hr x0 x1 x2
        by_cases e1 : (20 : Int) < (r.os.length : Int)
        · have HE1 : Hid (20 < r.os.length) := by show 20 < _; omega
          go_wp2
          go_ret
          refine ⟨?_, rfl⟩
          rw [HV.out, List.any_eq_true.2 ⟨r, HRE.out ▸ nthR_mem hkl, decide_eq_true HE1.out⟩]
          rfl
        · have HE1 : Hid (r.os.length ≤ 20) := by show _ ≤ 20; omega
          go_wp2
          go_roundw
          case rel =>
            refine ⟨k + 1, by omega, by go_num, ?_, by first | rfl | trivial⟩
            refine (fun i hi => ?_ : ∀ i, i < k + 1 → (nthR l i).os.length ≤ 20)
            by_cases e : i = k
            · rw [e, HRE.out]; exact HE1.out
            · exact HJ.out i (by omega)
          case measure => simp [intOf]; omega
      · obtain rfl : k = l.length := by omega
        go_wp2
        go_ret
        refine ⟨?_, rfl⟩
        rw [HV.out, List.any_eq_false.2 (fun r hr => by obtain ⟨i, hi, rfl⟩ := (memR l r).1 hr; have := HJ.out i hi; simp; omega)]
        rfl
end Go.Proofs.Ytddjfjecamcfnaa
