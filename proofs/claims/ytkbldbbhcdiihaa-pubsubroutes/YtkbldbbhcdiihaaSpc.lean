/- Proved: who publishes and who hears what, as plain data; the document's table told by it. -/
import Derived.Test.YtkbldbbhcdiihaaDt4
namespace Go.Proofs.Ytkbldbbhcdiihaa
open Go.RowKit Go.Shelf
set_option linter.unusedVariables false

/-- Of each federate: of each class, whether. -/
abbrev Tab := Nat → Int → Bool
def noB : Tab := fun _ _ => false
def updB (p : Tab) (f : Nat) (c : Int) (is : Bool) : Tab := fun g d => if g = f ∧ d = c then is else p g d
def clrB (p : Tab) (f : Nat) : Tab := fun g d => if g = f then false else p g d
def putB (n : Nat) (p : Tab) (f c : Int) (is : Bool) : Tab := if okFC n f c = 0 then updB p f.toNat c is else p
def outB (p : Tab) (f : Int) : Tab := if okF f = 0 then clrB p f.toNat else p
def pubB (n : Nat) (p : Tab) (f c : Int) : Bool := decide (okFC n f c = 0) && p f.toNat c
def hearB (zs : List Int) (s : Tab) (f c : Int) : Bool := decide (okFC zs.length f c = 0) && (abv zs c).any (fun x => s f.toNat x)
def routeG (zs : List Int) (s : Tab) (f c : Int) (n : Nat) : List Int := ((List.range n).filter (fun g : Nat => !(Int.ofNat g == f) && hearB zs s (Int.ofNat g) c)).map Int.ofNat
def errB (zs : List Int) (p : Tab) (f c : Int) : Int := if okFC zs.length f c ≠ 0 then okFC zs.length f c else if pubB zs.length p f c = true then 0 else 211
def toB (zs : List Int) (p s : Tab) (f c : Int) : List Int := if pubB zs.length p f c = true then routeG zs s f c 8 else []
theorem toB_len (zs : List Int) (p s : Tab) (f c : Int) : (toB zs p s f c).length ≤ 8 := by
  unfold toB routeG
  split
  · rw [List.length_map]
    exact Nat.le_trans (List.length_filter_le _ _) (by simp)
  · simp
def tabOf (P : Nat → List Int) : Tab := fun f c => decide (c ∈ P f)
theorem tabOf_put (P : Nat → List Int) (f : Nat) (c : Int) (is : Bool) : tabOf (updN P f (setL (P f) c is)) = updB (tabOf P) f c is := by
  funext g d
  unfold tabOf updB updN
  by_cases e : g = f
  · subst e
    rw [if_pos rfl]
    by_cases e2 : d = c
    · rw [if_pos ⟨rfl, e2⟩]
      have := setL_mem (P g) c is d
      rw [if_pos e2] at this
      cases is
      · exact decide_eq_false (fun g => by simpa using this.1 g)
      · exact decide_eq_true (this.2 rfl)
    · rw [if_neg (fun g => e2 g.2)]
      have := setL_mem (P g) c is d
      rw [if_neg e2] at this
      simp only [this]
  · rw [if_neg e, if_neg (fun g => e g.1)]
theorem tabOf_clear (P : Nat → List Int) (f : Nat) : tabOf (updN P f []) = clrB (tabOf P) f := by
  funext g d
  unfold tabOf clrB updN
  by_cases e : g = f
  · rw [if_pos e, if_pos e]; simp
  · rw [if_neg e, if_neg e]
theorem tabOf_nil : tabOf nilL = noB := by
  funext g d
  simp [tabOf, nilL, noB]

/-- The document's table, by what it tells; it took B calls at most. -/
def RB (tb : Nat) (zs : List Int) (p s : Tab) (B : Nat) : World → (Nat → Prop) → Prop := fun w F => ∃ P S, RT tb zs P S B w F ∧ tabOf P = p ∧ tabOf S = s
theorem thB (tb : Nat) (zs : List Int) (p s : Tab) (B : Nat) : Th (RB tb zs p s B) where
  lt := by rintro w F ⟨P, S, h, _, _⟩; exact (thR tb zs P S B).lt h
  keep := by rintro T w w' F ⟨P, S, h, h1, h2⟩ hf hd; exact ⟨P, S, (thR tb zs P S B).keep h hf hd, h1, h2⟩
theorem bpub {w : World} {F : Nat → Prop} {tb : Nat} {zs : List Int} {p s : Tab} {B : Nat} (h : RB tb zs p s B w F) (hB : B ≤ 900) (f c : Int) (is : Bool) :
    Calls Try.prog 10 #[.pointer (some ⟨tb, 0, none⟩), .int .i64 f, .int .i64 c, .bool is] w fun e w' => e = .returned (.int .i64 (okFC zs.length f c)) ∧ ∃ F2, RB tb zs (putB zs.length p f c is) s (B + 1) w' F2 ∧ Step F F2 w w' := by
  obtain ⟨P, S, h, rfl, rfl⟩ := h
  refine (dpub_any w F tb zs P S B f c is h hB).mono fun e w' ⟨he, F2, h1, h2⟩ => ⟨he, F2, ⟨_, _, h1, ?_, rfl⟩, h2⟩
  unfold putB
  split
  · exact tabOf_put P f.toNat c is
  · rfl
theorem bsub {w : World} {F : Nat → Prop} {tb : Nat} {zs : List Int} {p s : Tab} {B : Nat} (h : RB tb zs p s B w F) (hB : B ≤ 900) (f c : Int) (is : Bool) :
    Calls Try.prog 11 #[.pointer (some ⟨tb, 0, none⟩), .int .i64 f, .int .i64 c, .bool is] w fun e w' => e = .returned (.int .i64 (okFC zs.length f c)) ∧ ∃ F2, RB tb zs p (putB zs.length s f c is) (B + 1) w' F2 ∧ Step F F2 w w' := by
  obtain ⟨P, S, h, rfl, rfl⟩ := h
  refine (dsub_any w F tb zs P S B f c is h hB).mono fun e w' ⟨he, F2, h1, h2⟩ => ⟨he, F2, ⟨_, _, h1, rfl, ?_⟩, h2⟩
  unfold putB
  split
  · exact tabOf_put S f.toNat c is
  · rfl
theorem RT.more {tb : Nat} {zs : List Int} {P S : Nat → List Int} {B B2 : Nat} {w : World} {F : Nat → Prop} (h : RT tb zs P S B w F) (hB : B ≤ B2) : RT tb zs P S B2 w F := by
  obtain ⟨az, cz, pu, su, h⟩ := h
  exact ⟨az, cz, pu, su, { h with lp := h.lp.wide (fun _ g => g) hB, ls := h.ls.wide (fun _ g => g) hB }⟩
theorem bleave {w : World} {F : Nat → Prop} {tb : Nat} {zs : List Int} {p s : Tab} {B : Nat} (h : RB tb zs p s B w F) (f : Int) :
    Calls Try.prog 12 #[.pointer (some ⟨tb, 0, none⟩), .int .i64 f] w fun e w' => e = .returned (.int .i64 (okF f)) ∧ ∃ F2, RB tb zs (outB p f) (outB s f) (B + 1) w' F2 ∧ Step F F2 w w' := by
  obtain ⟨P, S, h, rfl, rfl⟩ := h
  refine (dleave_any w F tb zs P S B f h).mono fun e w' ⟨he, F2, h1, h2⟩ => ⟨he, F2, ⟨_, _, h1.more (by omega), ?_, ?_⟩, h2⟩
  · unfold outB
    split
    · exact tabOf_clear P f.toNat
    · rfl
  · unfold outB
    split
    · exact tabOf_clear S f.toNat
    · rfl
theorem bpubs {w : World} {F : Nat → Prop} {tb : Nat} {zs : List Int} {p s : Tab} {B : Nat} (h : RB tb zs p s B w F) (hB : B ≤ 1000) (f c : Int) :
    Calls Try.prog 18 #[.pointer (some ⟨tb, 0, none⟩), .int .i64 f, .int .i64 c] w fun e w' => e = .returned (.bool (pubB zs.length p f c)) ∧ Below w.heap.size w w' := by
  obtain ⟨P, S, h, rfl, rfl⟩ := h
  exact (dpubs_any w F tb zs P S B f c h hB).mono fun e w' ⟨he, h1⟩ => ⟨he, h1 ▸ Below.refl _ _⟩
theorem bhears {w : World} {F : Nat → Prop} {tb : Nat} {zs : List Int} {p s : Tab} {B : Nat} (h : RB tb zs p s B w F) (hB : B ≤ 1000) (hz : zs.length ≤ 1000) (f c : Int) :
    Calls Try.prog 20 #[.pointer (some ⟨tb, 0, none⟩), .int .i64 f, .int .i64 c] w fun e w' => e = .returned (.bool (hearB zs s f c)) ∧ Below w.heap.size w w' := by
  obtain ⟨P, S, h, rfl, rfl⟩ := h
  exact dhears_any w F tb zs P S B f c h hB hz
theorem broute {w : World} {F : Nat → Prop} {tb : Nat} {zs : List Int} {p s : Tab} {B : Nat} (h : RB tb zs p s B w F) (hB : B ≤ 1000) (hz : zs.length ≤ 1000) (f c : Int) :
    Calls Try.prog 15 #[.pointer (some ⟨tb, 0, none⟩), .int .i64 f, .int .i64 c] w fun e w' => ∃ a' c', e = .returned (.tuple #[.slice a' (toB zs p s f c).length c', .int .i64 (errB zs p f c)]) ∧ RdI w' w'.heap.size a' (toB zs p s f c) ∧ Below w.heap.size w w' := by
  obtain ⟨P, S, h, rfl, rfl⟩ := h
  exact droute_any w F tb zs P S B f c h hB hz
theorem bnew (w : World) (a : Option Addr) (c : Nat) (zs : List Int) (h : RdI w w.heap.size a zs) (hok : OKT zs) :
    Calls Try.prog 9 #[.slice a zs.length c] w fun e w' => ∃ tb F, e = .returned (.tuple #[.pointer (some ⟨tb, 0, none⟩), .int .i64 0]) ∧ RB tb zs noB noB 0 w' F ∧ (∀ k, F k → w.heap.size ≤ k) ∧ Below w.heap.size w w' :=
  (dnew_ok w a c zs h hok).mono fun e w' ⟨tb, he, h1, h2⟩ => ⟨tb, _, he, ⟨_, _, h1, tabOf_nil, tabOf_nil⟩, fun k hk => hk.1, h2⟩
end Go.Proofs.Ytkbldbbhcdiihaa
