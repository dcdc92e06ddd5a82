/- Proved: what the statements ask of the program's table, as one list of contracts; the statements' own does, by them. -/
import Derived.Test.YtkbldbbhcdiihaaSpc
import Derived.Test.YtkbldbbhcdiihaaSam
namespace Go.Proofs.Ytkbldbbhcdiihaa
open Go.RowKit Go.Shelf
set_option linter.unusedVariables false

theorem Below.on {w W W1 : World} (h : Below w.heap.size w W) (g : Below W.heap.size W W1) : Below w.heap.size w W1 := h.trans (g.mono h.size)
/-- The program's table PT, by what it tells, and its calls. -/
structure PI (PT : Nat → List Int → Tab → Tab → World → (Nat → Prop) → Prop) : Prop where
  th : ∀ tb zs p s, Th (PT tb zs p s)
  new : ∀ (w : World) (a : Option Addr) (c : Nat) (zs : List Int), RdI w w.heap.size a zs → OKT zs → Calls Try.prog 8 #[.slice a zs.length c] w fun e w' => ∃ tb F, e = .returned (.tuple #[.pointer (some ⟨tb, 0, none⟩), .int .i64 0]) ∧ PT tb zs noB noB w' F ∧ (∀ k, F k → w.heap.size ≤ k) ∧ Below w.heap.size w w'
  no : ∀ (w : World) (a : Option Addr) (c : Nat) (zs : List Int), RdI w w.heap.size a zs → zs.length ≤ 1000 → ¬ OKT zs → Calls Try.prog 8 #[.slice a zs.length c] w fun e w' => e = .returned (.tuple #[.pointer none, .int .i64 50]) ∧ Below w.heap.size w w'
  pub : ∀ {w F tb zs p s}, PT tb zs p s w F → ∀ (f c : Int) (is : Bool), Calls Try.prog 21 #[.pointer (some ⟨tb, 0, none⟩), .int .i64 f, .int .i64 c, .bool is] w fun e w' => e = .returned (.int .i64 (okFC zs.length f c)) ∧ ∃ F2, PT tb zs (putB zs.length p f c is) s w' F2 ∧ Step F F2 w w'
  sub : ∀ {w F tb zs p s}, PT tb zs p s w F → ∀ (f c : Int) (is : Bool), Calls Try.prog 22 #[.pointer (some ⟨tb, 0, none⟩), .int .i64 f, .int .i64 c, .bool is] w fun e w' => e = .returned (.int .i64 (okFC zs.length f c)) ∧ ∃ F2, PT tb zs p (putB zs.length s f c is) w' F2 ∧ Step F F2 w w'
  leave : ∀ {w F tb zs p s}, PT tb zs p s w F → ∀ (f : Int), Calls Try.prog 23 #[.pointer (some ⟨tb, 0, none⟩), .int .i64 f] w fun e w' => e = .returned (.int .i64 (okF f)) ∧ ∃ F2, PT tb zs (outB p f) (outB s f) w' F2 ∧ Step F F2 w w'
  pubs : ∀ {w F tb zs p s}, PT tb zs p s w F → ∀ (f c : Int), Calls Try.prog 17 #[.pointer (some ⟨tb, 0, none⟩), .int .i64 f, .int .i64 c] w fun e w' => e = .returned (.bool (pubB zs.length p f c)) ∧ Below w.heap.size w w'
  hears : ∀ {w F tb zs p s}, PT tb zs p s w F → ∀ (f c : Int), Calls Try.prog 19 #[.pointer (some ⟨tb, 0, none⟩), .int .i64 f, .int .i64 c] w fun e w' => e = .returned (.bool (hearB zs s f c)) ∧ Below w.heap.size w w'
  route : ∀ {w F tb zs p s}, PT tb zs p s w F → ∀ (f c : Int), Calls Try.prog 14 #[.pointer (some ⟨tb, 0, none⟩), .int .i64 f, .int .i64 c] w fun e w' => ∃ a' c', e = .returned (.tuple #[.slice a' (toB zs p s f c).length c', .int .i64 (errB zs p f c)]) ∧ RdI w' w'.heap.size a' (toB zs p s f c) ∧ Below w.heap.size w w'

/-! ### A call as data -/
def stE (n : Nat) (k f c : Int) : Int := if k = 0 then okFC n f c else if k = 1 then okFC n f c else if k = 2 then okF f else 0
def stP (n : Nat) (p : Tab) (k f c : Int) (is : Bool) : Tab := if k = 0 then putB n p f c is else if k = 1 then p else if k = 2 then outB p f else p
def stS (n : Nat) (s : Tab) (k f c : Int) (is : Bool) : Tab := if k = 0 then s else if k = 1 then putB n s f c is else if k = 2 then outB s f else s
theorem Step.after {F F2 : Nat → Prop} {w W W2 : World} (hb : Below w.heap.size w W) (h : Step F F2 W W2) : Step F F2 w W2 :=
  ⟨(Fr.of_below (S := F) hb).trans h.1 (fun _ _ g => g), fun k hk => (h.2 k hk).elim .inl (fun g => .inr (Nat.le_trans hb.size g))⟩

set_option maxRecDepth 100000 in
theorem does_any {PT : Nat → List Int → Tab → Tab → World → (Nat → Prop) → Prop} (I : PI PT) {w : World} {F : Nat → Prop} {tb : Nat} {zs : List Int} {p s : Tab} (h : PT tb zs p s w F) (k f c : Int) (is : Bool) :
    Calls Try.prog 13 #[.pointer (some ⟨tb, 0, none⟩), .agg #[.int .i64 k, .int .i64 f, .int .i64 c, .bool is]] w fun e w' => e = .returned (.int .i64 (stE zs.length k f c)) ∧ ∃ F2, PT tb zs (stP zs.length p k f c is) (stS zs.length s k f c is) w' F2 ∧ Step F F2 w w' := by
  have hb : Below w.heap.size w (w.alloc (.cells #[.int .i64 k, .int .i64 f, .int .i64 c, .bool is] 32)) := (Below.refl _ _).alloc (Nat.le_refl _) _
  have h1 := (I.th tb zs p s).below h hb
  have P1 := (I.pub h1 f c is).mono (R' := fun e w' => e = .returned (.int .i64 (okFC zs.length f c)) ∧ ∃ F2, PT tb zs (putB zs.length p f c is) s w' F2 ∧ Step F F2 w w') (fun e w' ⟨he, F2, g1, g2⟩ => ⟨he, F2, g1, Step.after hb g2⟩)
  have S1 := (I.sub h1 f c is).mono (R' := fun e w' => e = .returned (.int .i64 (okFC zs.length f c)) ∧ ∃ F2, PT tb zs p (putB zs.length s f c is) w' F2 ∧ Step F F2 w w') (fun e w' ⟨he, F2, g1, g2⟩ => ⟨he, F2, g1, Step.after hb g2⟩)
  have L1 := (I.leave h1 f).mono (R' := fun e w' => e = .returned (.int .i64 (okF f)) ∧ ∃ F2, PT tb zs (outB p f) (outB s f) w' F2 ∧ Step F F2 w w') (fun e w' ⟨he, F2, g1, g2⟩ => ⟨he, F2, g1, Step.after hb g2⟩)
  have H1 : Hid _ := h1
  have HB : Hid _ := hb
  clear h1 hb h
  unfold stE stP stS
  by_cases k0 : k = 0
  · subst k0
    rw [if_pos rfl, if_pos rfl, if_pos rfl]
    obtain ⟨r, hr⟩ : ∃ r, okFC zs.length f c = r := ⟨_, rfl⟩
    rw [hr] at P1 ⊢
    clear S1 L1 hr
    go_enter Try.func13, Try.ntmps13
    go_wp2_with (go_at_call 21; refine P1.mono ?_; rintro e w' ⟨rfl, hh⟩; have HH : Hid _ := hh; clear P1 hh)
    go_ret
    exact ⟨rfl, HH.out⟩
  · have d0 : (k == 0) = false := by simpa using k0
    rw [if_neg k0, if_neg k0, if_neg k0]
    by_cases k1 : k = 1
    · subst k1
      rw [if_pos rfl, if_pos rfl, if_pos rfl]
      obtain ⟨r, hr⟩ : ∃ r, okFC zs.length f c = r := ⟨_, rfl⟩
      rw [hr] at S1 ⊢
      clear P1 L1 hr
      go_enter Try.func13, Try.ntmps13
      go_wp2_with (go_at_call 22; refine S1.mono ?_; rintro e w' ⟨rfl, hh⟩; have HH : Hid _ := hh; clear S1 hh)
      go_ret
      exact ⟨rfl, HH.out⟩
    · have d1 : (k == 1) = false := by simpa using k1
      rw [if_neg k1, if_neg k1, if_neg k1]
      by_cases k2 : k = 2
      · subst k2
        rw [if_pos rfl, if_pos rfl, if_pos rfl]
        obtain ⟨r, hr⟩ : ∃ r, okF f = r := ⟨_, rfl⟩
        rw [hr] at L1 ⊢
        clear P1 S1 hr
        go_enter Try.func13, Try.ntmps13
        go_wp2_with (go_at_call 23; refine L1.mono ?_; rintro e w' ⟨rfl, hh⟩; have HH : Hid _ := hh; clear L1 hh)
        go_ret
        exact ⟨rfl, HH.out⟩
      · have d2 : (k == 2) = false := by simpa using k2
        rw [if_neg k2, if_neg k2, if_neg k2]
        clear P1 S1 L1
        go_enter Try.func13, Try.ntmps13
        go_wp2
        go_ret
        exact ⟨rfl, F, H1.out, Step.same HB.out⟩
end Go.Proofs.Ytkbldbbhcdiihaa
