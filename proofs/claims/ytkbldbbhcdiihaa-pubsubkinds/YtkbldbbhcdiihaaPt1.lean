/- Proved: how the program's table lies in memory; its Publish, Subscribe and Leave. -/
import Derived.Test.YtkbldbbhcdiihaaPt0
namespace Go.Proofs.Ytkbldbbhcdiihaa
open Go.RowKit Go.Shelf
set_option linter.unusedVariables false

/-- The program's table: of each federate two numbers, whose bits are its classes. -/
structure PTb (w : World) (F : Nat → Prop) (tb : Nat) (zs : List Int) (p s : Tab) (U V : Nat → Nat) (az : Option Addr) (cz : Nat) : Prop where
  c0 : w.cell? ⟨tb, 0, none⟩ = some (.slice az zs.length cz)
  cu : ∀ f, f < 8 → w.cell? ⟨tb, 1 + f, none⟩ = some (.int .u32 (U f : Int))
  cv : ∀ f, f < 8 → w.cell? ⟨tb, 9 + f, none⟩ = some (.int .u32 (V f : Int))
  fz : ∀ j, w.frozen? ⟨tb, j, none⟩ = false
  rd : RdF w (fun k => F k ∧ k ≠ tb) az zs
  ft : F tb
  lt : ∀ k, F k → k < w.heap.size
  bu : ∀ f, f < 8 → U f < 4294967296
  bv : ∀ f, f < 8 → V f < 4294967296
  tu : ∀ f i : Nat, f < 8 → i < zs.length → (U f).testBit i = p f (i : Int)
  tv : ∀ f i : Nat, f < 8 → i < zs.length → (V f).testBit i = s f (i : Int)
  ok : OKT zs
def PT (tb : Nat) (zs : List Int) (p s : Tab) : World → (Nat → Prop) → Prop := fun w F => ∃ U V az cz, PTb w F tb zs p s U V az cz
theorem PTb.keep {w w' : World} {T F : Nat → Prop} {tb : Nat} {zs : List Int} {p s : Tab} {U V : Nat → Nat} {az : Option Addr} {cz : Nat} (h : PTb w F tb zs p s U V az cz) (hf : Fr T w w') (hd : ∀ k, F k → ¬ T k) : PTb w' F tb zs p s U V az cz :=
  { h with
    c0 := (hf.cell (p := ⟨tb, 0, none⟩) (h.lt _ h.ft) (hd _ h.ft)).trans h.c0
    cu := fun f hf8 => (hf.cell (p := ⟨tb, 1 + f, none⟩) (h.lt _ h.ft) (hd _ h.ft)).trans (h.cu f hf8)
    cv := fun f hf8 => (hf.cell (p := ⟨tb, 9 + f, none⟩) (h.lt _ h.ft) (hd _ h.ft)).trans (h.cv f hf8)
    fz := fun j => (hf.frozen (p := ⟨tb, j, none⟩) (h.lt _ h.ft) (hd _ h.ft)).trans (h.fz j)
    rd := h.rd.keep hf (fun k hk => hd k hk.1)
    lt := fun k hk => Nat.lt_of_lt_of_le (h.lt k hk) hf.size }
theorem thP (tb : Nat) (zs : List Int) (p s : Tab) : Th (PT tb zs p s) where
  lt := by rintro w F ⟨U, V, az, cz, h⟩; exact h.lt
  keep := by rintro T w w' F ⟨U, V, az, cz, h⟩ hf hd; exact ⟨U, V, az, cz, h.keep hf hd⟩
def updU (U : Nat → Nat) (k u : Nat) : Nat → Nat := fun f => if f = k then u else U f
theorem updU_at (U : Nat → Nat) (k u : Nat) : updU U k u k = u := by simp [updU]
theorem updU_ne (U : Nat → Nat) {f k : Nat} (u : Nat) (h : f ≠ k) : updU U k u f = U f := by simp [updU, h]
/-- Another number of a federate's published classes. -/
theorem PTb.setU {w W : World} {F : Nat → Prop} {tb : Nat} {zs : List Int} {p s q : Tab} {U V : Nat → Nat} {az : Option Addr} {cz : Nat} (h : PTb w F tb zs p s U V az cz) (hb : Below w.heap.size w W) {k u : Nat} (hk : k < 8) (hu : u < 4294967296)
    (h1 : ∀ i : Nat, i < zs.length → u.testBit i = q k (i : Int)) (h2 : ∀ f c, f ≠ k → q f c = p f c) : PTb (W.setCell ⟨tb, 1 + k, none⟩ (.int .u32 (u : Int))) F tb zs q s (updU U k u) V az cz := by
  have g := h.keep (Fr.of_below (S := fun _ => False) hb) (fun _ _ e => e)
  have hfr : Fr (fun j => j = tb) W (W.setCell ⟨tb, 1 + k, none⟩ (.int .u32 (u : Int))) := (Fr.refl _ W).setCell _ _ (.inl rfl)
  exact { g with
    c0 := (cell_set_ne (by omega)).trans g.c0
    cu := fun f hf => by
      by_cases e : f = k
      · rw [e, updU_at]; exact cell_set (g.cu k hk)
      · rw [updU_ne U u e, cell_set_ne (by omega)]; exact g.cu f hf
    cv := fun f hf => (cell_set_ne (by omega)).trans (g.cv f hf)
    fz := fun j => by rw [World.frozen?_setCell]; exact g.fz j
    rd := g.rd.keep hfr (fun k hk e => hk.2 e)
    lt := fun j hj => by simpa using g.lt j hj
    bu := fun f hf => by
      by_cases e : f = k
      · rw [e, updU_at]; exact hu
      · rw [updU_ne U u e]; exact g.bu f hf
    tu := fun f i hf hi => by
      by_cases e : f = k
      · rw [e, updU_at]; exact h1 i hi
      · rw [updU_ne U u e, h2 f _ e]; exact g.tu f i hf hi }
theorem PTb.setV {w W : World} {F : Nat → Prop} {tb : Nat} {zs : List Int} {p s q : Tab} {U V : Nat → Nat} {az : Option Addr} {cz : Nat} (h : PTb w F tb zs p s U V az cz) (hb : Below w.heap.size w W) {k u : Nat} (hk : k < 8) (hu : u < 4294967296)
    (h1 : ∀ i : Nat, i < zs.length → u.testBit i = q k (i : Int)) (h2 : ∀ f c, f ≠ k → q f c = s f c) : PTb (W.setCell ⟨tb, 9 + k, none⟩ (.int .u32 (u : Int))) F tb zs p q U (updU V k u) az cz := by
  have g := h.keep (Fr.of_below (S := fun _ => False) hb) (fun _ _ e => e)
  have hfr : Fr (fun j => j = tb) W (W.setCell ⟨tb, 9 + k, none⟩ (.int .u32 (u : Int))) := (Fr.refl _ W).setCell _ _ (.inl rfl)
  exact { g with
    c0 := (cell_set_ne (by omega)).trans g.c0
    cv := fun f hf => by
      by_cases e : f = k
      · rw [e, updU_at]; exact cell_set (g.cv k hk)
      · rw [updU_ne V u e, cell_set_ne (by omega)]; exact g.cv f hf
    cu := fun f hf => (cell_set_ne (by omega)).trans (g.cu f hf)
    fz := fun j => by rw [World.frozen?_setCell]; exact g.fz j
    rd := g.rd.keep hfr (fun k hk e => hk.2 e)
    lt := fun j hj => by simpa using g.lt j hj
    bv := fun f hf => by
      by_cases e : f = k
      · rw [e, updU_at]; exact hu
      · rw [updU_ne V u e]; exact g.bv f hf
    tv := fun f i hf hi => by
      by_cases e : f = k
      · rw [e, updU_at]; exact h1 i hi
      · rw [updU_ne V u e, h2 f _ e]; exact g.tv f i hf hi }

/-! ### turn -/
set_option maxRecDepth 100000 in
theorem turn_no (w : World) (tb off : Nat) (az : Option Addr) (cz : Nat) (zs : List Int) (f c : Int) (is : Bool) (h0 : w.cell? ⟨tb, 0, none⟩ = some (.slice az zs.length cz)) (hne : okFC zs.length f c ≠ 0) :
    Calls Try.prog 35 #[.pointer (some ⟨tb, 0, none⟩), .pointer (some ⟨tb, off, none⟩), .int .i64 f, .int .i64 c, .bool is] w fun e w' => e = .returned (.int .i64 (okFC zs.length f c)) ∧ w = w' := by
  have C := pchk_any w tb az cz zs f c h0
  obtain ⟨r, hr⟩ : ∃ r, okFC zs.length f c = r := ⟨_, rfl⟩
  rw [hr] at C hne ⊢
  have d0 : (r == 0) = false := by simpa using hne
  clear hr
  go_enter Try.func35, Try.ntmps35
  go_wp2_with (go_at_call 29; refine C.mono ?_; rintro e w' ⟨rfl, rfl⟩)
  go_ret
  exact ⟨rfl, rfl⟩
set_option maxRecDepth 100000 in
set_option maxHeartbeats 2000000 in
theorem turn_any (w : World) (tb off k i u : Nat) (az : Option Addr) (cz : Nat) (zs : List Int) (is : Bool) (h0 : w.cell? ⟨tb, 0, none⟩ = some (.slice az zs.length cz)) (hk : k < 8) (hi : i < zs.length) (hz : zs.length ≤ 16) (hu : u < 4294967296)
    (h1 : w.cell? ⟨tb, off + k, none⟩ = some (.int .u32 (u : Int))) (h2 : w.frozen? ⟨tb, off + k, none⟩ = false) :
    Calls Try.prog 35 #[.pointer (some ⟨tb, 0, none⟩), .pointer (some ⟨tb, off, none⟩), .int .i64 (k : Int), .int .i64 (i : Int), .bool is] w fun e w' => e = .returned (.int .i64 0) ∧ ∃ W, Below w.heap.size w W ∧ w' = W.setCell ⟨tb, off + k, none⟩ (.int .u32 (turnN u i is : Nat)) := by
  have C := pchk_any w tb az cz zs (k : Int) (i : Int) h0
  rw [show okFC zs.length (k : Int) (i : Int) = 0 by unfold okFC; rw [if_neg (by omega), if_neg (by omega)]] at C
  have hlt : tb < w.heap.size := clt h1
  have v1 : (0 : Int) ≤ (k : Int) := by omega
  have v2 : (k : Int) < 8 := by omega
  have O1 := out_any w i
  obtain ⟨W1, hW1⟩ : ∃ W1, w.alloc (.cells #[.int .i64 (i : Int)] 3) = W1 := ⟨_, rfl⟩
  have hB1 : Below w.heap.size w W1 := by rw [← hW1]; exact (Below.refl _ _).alloc (Nat.le_refl _) _
  have b1 : W1.cell? ⟨w.heap.size, 0, none⟩ = some (.int .i64 (i : Int)) := by rw [← hW1]; exact cell_one_new _ _ _ 0 _ rfl
  rw [hW1] at O1
  have HF : Hid (∀ W, Below w.heap.size w W → W.cell? ⟨tb, off + k, none⟩ = some (.int .u32 (u : Int)) ∧ W.frozen? ⟨tb, off + k, none⟩ = false) := fun W (hW : Below w.heap.size w W) => ⟨(hW.cell (p := ⟨tb, off + k, none⟩) hlt).trans h1, (World.frozen?_of_block (hW.block tb hlt)).trans h2⟩
  cases is with
  | false =>
    have T1 := takes_any W1.drew w.heap.size u i hu (by omega) b1
    have hb1 : Below w.heap.size w W1.drew := hB1.drew
    obtain ⟨g1, g2⟩ := HF.out W1 hB1
    obtain ⟨t, ht⟩ : ∃ t, turnN u i false = t := ⟨_, rfl⟩
    rw [ht] at T1 ⊢
    clear ht hW1 b1 h0 h1 h2 HF
    go_enter Try.func35, Try.ntmps35
    go_wp2_with (first | (go_at_call 29; refine C.mono ?_; rintro e w' ⟨rfl, rfl⟩) | (go_at_call 40; refine O1.mono ?_; rintro e w' ⟨rfl, rfl⟩))
    go_region_with (first | (go_at_call 44; refine T1.mono ?_; rintro e w' ⟨rfl, rfl⟩))
    all_goals go_wp2
    all_goals go_ret
    all_goals exact ⟨rfl, _, hb1, rfl⟩
  | true =>
    have I1 := in_any W1 i
    obtain ⟨W2, hW2⟩ : ∃ W2, W1.alloc (.cells #[.int .i64 (i : Int)] 3) = W2 := ⟨_, rfl⟩
    have hB2 : Below w.heap.size w W2 := by rw [← hW2]; exact hB1.alloc hB1.size _
    have b2 : W2.cell? ⟨W1.heap.size, 0, none⟩ = some (.int .i64 (i : Int)) := by rw [← hW2]; exact cell_one_new _ _ _ 0 _ rfl
    rw [hW2] at I1
    have T1 := puts_any W2.drew W1.heap.size u i hu (by omega) b2
    have hb2 : Below w.heap.size w W2.drew := hB2.drew
    obtain ⟨g1, g2⟩ := HF.out W2 hB2
    obtain ⟨t, ht⟩ : ∃ t, turnN u i true = t := ⟨_, rfl⟩
    rw [ht] at T1 ⊢
    clear ht hW1 b1 h0 h1 h2 HF hW2 b2
    go_enter Try.func35, Try.ntmps35
    go_wp2_with (first | (go_at_call 29; refine C.mono ?_; rintro e w' ⟨rfl, rfl⟩) | (go_at_call 40; refine O1.mono ?_; rintro e w' ⟨rfl, rfl⟩) | (go_at_call 41; refine I1.mono ?_; rintro e w' ⟨rfl, rfl⟩))
    go_region_with (first | (go_at_call 45; refine T1.mono ?_; rintro e w' ⟨rfl, rfl⟩))
    all_goals go_wp2
    all_goals go_ret
    all_goals exact ⟨rfl, _, hb2, rfl⟩
end Go.Proofs.Ytkbldbbhcdiihaa
