/- Proved: the document's Publish, Subscribe and Leave at its table. -/
import Derived.Test.YtkbldbbhcdiihaaDt0
namespace Go.Proofs.Ytkbldbbhcdiihaa
open Go.RowKit Go.Shelf
set_option linter.unusedVariables false

theorem okFC_cases (n : Nat) (f c : Int) : (okFC n f c ≠ 0 ∧ ¬ (0 ≤ f ∧ f < 8 ∧ 0 ≤ c ∧ c < n)) ∨ (okFC n f c = 0 ∧ 0 ≤ f ∧ f < 8 ∧ 0 ≤ c ∧ c < n) := by
  unfold okFC
  by_cases h1 : f < 0 ∨ 8 ≤ f
  · rw [if_pos h1]; exact .inl ⟨by decide, by omega⟩
  · rw [if_neg h1]
    by_cases h2 : c < 0 ∨ (n : Int) ≤ c
    · rw [if_pos h2]; exact .inl ⟨by decide, by omega⟩
    · rw [if_neg h2]; exact .inr ⟨rfl, by omega, by omega, by omega, by omega⟩
theorem cell_set_ne {W : World} {b i j : Nat} {v : Value} (h : i ≠ j) : (W.setCell ⟨b, i, none⟩ v).cell? ⟨b, j, none⟩ = W.cell? ⟨b, j, none⟩ := by
  apply World.cell?_setCell_other
  intro e
  exact h (by injection e)
theorem cell_set_far {W : World} {b d i j : Nat} {v : Value} (h : ¬ b = d) : (W.setCell ⟨b, i, none⟩ v).cell? ⟨d, j, none⟩ = W.cell? ⟨d, j, none⟩ := by
  apply World.cell?_setCell_other
  intro e
  exact h (by injection e)
/-- A list is put at its place among the eight; it lies in a block that is new. -/
theorem Lst.put {w W : World} {G G2 : Nat → Prop} {pu : Nat} {P : Nat → List Int} {B k : Nat} {u : Value} {l : List Int} (h : Lst w G pu P B) (hk : k < 8) (hp : ¬ G pu) (hG : ∀ j, G j → G2 j) (hN : ∀ j, w.heap.size ≤ j → j < W.heap.size → G2 j) (hr : Row w W u l) (hl : l.length ≤ B + 1) : Lst (W.setCell ⟨pu, k, none⟩ u) G2 pu (updN P k l) (B + 1) := by
  have hlt : pu < w.heap.size := by
    obtain ⟨a, c, h1, _⟩ := h k hk
    exact clt h1
  have hfr : Fr (fun j => j = pu) w (W.setCell ⟨pu, k, none⟩ u) := (Fr.of_below (S := fun j => j = pu) hr.2).setCell _ _ (.inl rfl)
  have hck : ∃ v, W.cell? ⟨pu, k, none⟩ = some v := by
    obtain ⟨a, c, h1, _⟩ := h k hk
    exact ⟨_, (hr.2.cell (p := ⟨pu, k, none⟩) hlt).trans h1⟩
  obtain ⟨v0, hck⟩ := hck
  intro f hf
  obtain ⟨a, c, h1, h2, h3, h4⟩ := h f hf
  have hfz : (W.setCell ⟨pu, k, none⟩ u).frozen? ⟨pu, f, none⟩ = false := by
    rw [World.frozen?_setCell]
    exact (World.frozen?_of_block (hr.2.block pu hlt)).trans h2
  by_cases e : f = k
  · subst e
    obtain ⟨a2, c2, rfl, hrd⟩ := hr.rd
    have e2 : updN P f l f = l := by simp [updN]
    rw [e2]
    refine ⟨a2, c2, cell_set hck, hfz, hl, fun hz => ?_⟩
    rcases hr.1.2 with ⟨g, hk0⟩ | ⟨g, cap, cur, hv, hg0, hg1, hg2⟩
    · exact absurd (List.eq_nil_of_length_eq_zero hk0) hz
    · obtain ⟨b, off, hab, hb, hc⟩ := hrd hz
      have hbg : b = g ∧ off = 0 := by
        rw [hab] at hv
        simp at hv
        exact ⟨hv.1.1, hv.1.2⟩
      obtain ⟨rfl, rfl⟩ := hbg
      refine ⟨b, 0, hab, hN b hg0 hb, by simpa using hb, fun i hi => ?_⟩
      rw [World.cell?_of_block (Below.heap_setCell _ _ _ _ (by show b ≠ pu; omega))]
      exact hc i hi
  · have e2 : updN P k l f = P f := by simp [updN, e]
    rw [e2]
    refine ⟨a, c, ?_, hfz, by omega, (h4.keep hfr (fun j hj g => hp (g ▸ hj))).wide hG⟩
    rw [cell_set_ne (fun g => e g.symm)]
    exact (hr.2.cell (p := ⟨pu, f, none⟩) hlt).trans h1
/-- The blocks of a table behind a call. -/
def F2 (F : Nat → Prop) (w W : World) : Nat → Prop := fun k => F k ∨ (w.heap.size ≤ k ∧ k < W.heap.size)
theorem pub_end {w W : World} {F : Nat → Prop} {tb : Nat} {zs : List Int} {P S : Nat → List Int} {B : Nat} {az : Option Addr} {cz pu su k : Nat} {u : Value} {l : List Int} (h : RTb w F tb zs P S B az cz pu su) (hk : k < 8) (hr : Row w W u l) (hl : l.length ≤ B + 1) :
    RT tb zs (updN P k l) S (B + 1) (W.setCell ⟨pu, k, none⟩ u) (F2 F w W) ∧ Step F (F2 F w W) w (W.setCell ⟨pu, k, none⟩ u) := by
  have hfr : Fr (fun j => j = pu) w (W.setCell ⟨pu, k, none⟩ u) := (Fr.of_below (S := fun j => j = pu) hr.2).setCell _ _ (.inl rfl)
  have hN : ∀ j, w.heap.size ≤ j → j < W.heap.size → F2 F w W j ∧ j ≠ tb ∧ j ≠ pu ∧ j ≠ su := fun j h1 h2 => ⟨.inr ⟨h1, h2⟩, fun e => by have := h.lt _ h.ft; omega, fun e => by have := h.lt _ h.fp; omega, fun e => by have := h.lt _ h.fs; omega⟩
  have hlt := h.lt _ h.ft
  refine ⟨⟨az, cz, pu, su, ?_⟩, hfr.wide (fun j e => by rw [e]; exact h.fp), fun j hj => hj.elim .inl (fun g => .inr g.1)⟩
  exact {
    c0 := (hfr.cell (p := ⟨tb, 0, none⟩) hlt h.n1).trans h.c0
    c1 := (hfr.cell (p := ⟨tb, 1, none⟩) hlt h.n1).trans h.c1
    c2 := (hfr.cell (p := ⟨tb, 2, none⟩) hlt h.n1).trans h.c2
    rd := (h.rd.keep hfr (fun j hj e => hj.2.2.1 e)).wide (fun j hj => ⟨.inl hj.1, hj.2⟩)
    lp := h.lp.put hk (fun g => g.2.2.1 rfl) (fun j hj => ⟨.inl hj.1, hj.2⟩) hN hr hl
    ls := (h.ls.keep hfr (fun j hj e => hj.2.2.1 e) (fun e => h.n3 e.symm)).wide (fun j hj => ⟨.inl hj.1, hj.2⟩) (by omega)
    ft := .inl h.ft
    fp := .inl h.fp
    fs := .inl h.fs
    n1 := h.n1
    n2 := h.n2
    n3 := h.n3
    lt := fun j hj => by
      have := hr.2.size
      rw [World.size_setCell]
      rcases hj with g | g
      · have := h.lt j g; omega
      · exact g.2 }
theorem sub_end {w W : World} {F : Nat → Prop} {tb : Nat} {zs : List Int} {P S : Nat → List Int} {B : Nat} {az : Option Addr} {cz pu su k : Nat} {u : Value} {l : List Int} (h : RTb w F tb zs P S B az cz pu su) (hk : k < 8) (hr : Row w W u l) (hl : l.length ≤ B + 1) :
    RT tb zs P (updN S k l) (B + 1) (W.setCell ⟨su, k, none⟩ u) (F2 F w W) ∧ Step F (F2 F w W) w (W.setCell ⟨su, k, none⟩ u) := by
  have hfr : Fr (fun j => j = su) w (W.setCell ⟨su, k, none⟩ u) := (Fr.of_below (S := fun j => j = su) hr.2).setCell _ _ (.inl rfl)
  have hN : ∀ j, w.heap.size ≤ j → j < W.heap.size → F2 F w W j ∧ j ≠ tb ∧ j ≠ pu ∧ j ≠ su := fun j h1 h2 => ⟨.inr ⟨h1, h2⟩, fun e => by have := h.lt _ h.ft; omega, fun e => by have := h.lt _ h.fp; omega, fun e => by have := h.lt _ h.fs; omega⟩
  have hlt := h.lt _ h.ft
  refine ⟨⟨az, cz, pu, su, ?_⟩, hfr.wide (fun j e => by rw [e]; exact h.fs), fun j hj => hj.elim .inl (fun g => .inr g.1)⟩
  exact {
    c0 := (hfr.cell (p := ⟨tb, 0, none⟩) hlt h.n2).trans h.c0
    c1 := (hfr.cell (p := ⟨tb, 1, none⟩) hlt h.n2).trans h.c1
    c2 := (hfr.cell (p := ⟨tb, 2, none⟩) hlt h.n2).trans h.c2
    rd := (h.rd.keep hfr (fun j hj e => hj.2.2.2 e)).wide (fun j hj => ⟨.inl hj.1, hj.2⟩)
    lp := (h.lp.keep hfr (fun j hj e => hj.2.2.2 e) h.n3).wide (fun j hj => ⟨.inl hj.1, hj.2⟩) (by omega)
    ls := h.ls.put hk (fun g => g.2.2.2 rfl) (fun j hj => ⟨.inl hj.1, hj.2⟩) hN hr hl
    ft := .inl h.ft
    fp := .inl h.fp
    fs := .inl h.fs
    n1 := h.n1
    n2 := h.n2
    n3 := h.n3
    lt := fun j hj => by
      have := hr.2.size
      rw [World.size_setCell]
      rcases hj with g | g
      · have := h.lt j g; omega
      · exact g.2 }
theorem updN_same (P : Nat → List Int) (k : Nat) : updN P k (P k) = P := by
  funext g
  unfold updN
  split
  · rename_i e; rw [e]
  · rfl

set_option maxRecDepth 100000 in
set_option maxHeartbeats 2000000 in
theorem dpub_any (w : World) (F : Nat → Prop) (tb : Nat) (zs : List Int) (P S : Nat → List Int) (B : Nat) (f c : Int) (is : Bool) (h : RT tb zs P S B w F) (hB : B ≤ 900) :
    Calls Try.prog 10 #[.pointer (some ⟨tb, 0, none⟩), .int .i64 f, .int .i64 c, .bool is] w fun e w' => e = .returned (.int .i64 (okFC zs.length f c)) ∧ ∃ F2, RT tb zs (if okFC zs.length f c = 0 then updN P f.toNat (setL (P f.toNat) c is) else P) S (B + 1) w' F2 ∧ Step F F2 w w' := by
  obtain ⟨az, cz, pu, su, h⟩ := h
  have C := dchk_any w tb az cz zs f c h.c0
  rcases okFC_cases zs.length f c with ⟨e, _⟩ | ⟨e, hf0, hf8, hc0, hcl⟩
  · rw [if_neg e]
    obtain ⟨r, hr⟩ : ∃ r, okFC zs.length f c = r := ⟨_, rfl⟩
    rw [hr] at C e ⊢
    have d0 : (r == 0) = false := by simpa using e
    go_enter Try.func10, Try.ntmps10
    go_wp2_with (go_at_call 27; refine C.mono ?_; rintro e w' ⟨rfl, rfl⟩)
    go_ret
    exact ⟨rfl, F, ⟨az, cz, pu, su, { h with lp := h.lp.wide (fun _ g => g) (by omega), ls := h.ls.wide (fun _ g => g) (by omega) }⟩, Step.same (Below.refl _ _)⟩
  · rw [e] at C
    rw [e, if_pos rfl]
    obtain ⟨k, rfl⟩ := Int.eq_ofNat_of_zero_le hf0
    have hk8 : k < 8 := by omega
    obtain ⟨a, cc, h1, h2, h3, h4⟩ := h.lp k hk8
    have hb0 : Below w.heap.size w w.drew := (Below.refl _ _).drew
    have S1 := dset_any w.drew w.heap.size a cc (P k) c is (Nat.le_refl _) (RdI.below h4.rd hb0) (by omega)
    have hkk : ((k : Int)).toNat = k := by simp
    rw [hkk]
    obtain ⟨l, hl⟩ : ∃ l, setL (P k) c is = l := ⟨_, rfl⟩
    have hll : l.length ≤ B + 1 := by rw [← hl]; exact Nat.le_trans (setL_len _ _ _) (by omega)
    rw [hl] at S1 ⊢
    obtain ⟨q, hq⟩ : ∃ q, P k = q := ⟨_, rfl⟩
    rw [hq] at S1 h1
    have c1 := h.c1
    have F1 : Hid (∀ W, Below w.heap.size w W → W.cell? ⟨tb, 1, none⟩ = some (.slice (some ⟨pu, 0, none⟩) 8 8) ∧ W.cell? ⟨pu, k, none⟩ = some (.slice a q.length cc) ∧ W.frozen? ⟨pu, k, none⟩ = false) := fun W (hW : Below w.heap.size w W) => ⟨(hW.cell (p := ⟨tb, 1, none⟩) (h.lt _ h.ft)).trans c1, (hW.cell (p := ⟨pu, k, none⟩) (h.lt _ h.fp)).trans h1, (World.frozen?_of_block (hW.block pu (h.lt _ h.fp))).trans h2⟩
    have HT : Hid _ := h
    have v1 : (0 : Int) ≤ (k : Int) := by omega
    have v2 : (k : Int) < 8 := by omega
    clear hl hq h3 h4 e h hkk
    go_enter Try.func10, Try.ntmps10
    go_wp2_with (go_at_call 27; refine C.mono ?_; rintro e w' ⟨rfl, rfl⟩)
    go_region_with (first | (go_at_call 28; refine S1.mono ?_; rintro e w2 ⟨u, rfl, hr⟩; obtain ⟨a2, c2, rfl, hrd⟩ := Row.rd hr; obtain ⟨g1, g2, g3⟩ := F1.out w2 (Below.trans hb0 hr.2)))
    all_goals go_wp2
    all_goals go_ret
    all_goals exact ⟨rfl, _, pub_end HT.out hk8 ⟨hr.1, Below.trans hb0 hr.2⟩ hll⟩

set_option maxRecDepth 100000 in
set_option maxHeartbeats 2000000 in
theorem dsub_any (w : World) (F : Nat → Prop) (tb : Nat) (zs : List Int) (P S : Nat → List Int) (B : Nat) (f c : Int) (is : Bool) (h : RT tb zs P S B w F) (hB : B ≤ 900) :
    Calls Try.prog 11 #[.pointer (some ⟨tb, 0, none⟩), .int .i64 f, .int .i64 c, .bool is] w fun e w' => e = .returned (.int .i64 (okFC zs.length f c)) ∧ ∃ F2, RT tb zs P (if okFC zs.length f c = 0 then updN S f.toNat (setL (S f.toNat) c is) else S) (B + 1) w' F2 ∧ Step F F2 w w' := by
  obtain ⟨az, cz, pu, su, h⟩ := h
  have C := dchk_any w tb az cz zs f c h.c0
  rcases okFC_cases zs.length f c with ⟨e, _⟩ | ⟨e, hf0, hf8, hc0, hcl⟩
  · rw [if_neg e]
    obtain ⟨r, hr⟩ : ∃ r, okFC zs.length f c = r := ⟨_, rfl⟩
    rw [hr] at C e ⊢
    have d0 : (r == 0) = false := by simpa using e
    go_enter Try.func11, Try.ntmps11
    go_wp2_with (go_at_call 27; refine C.mono ?_; rintro e w' ⟨rfl, rfl⟩)
    go_ret
    exact ⟨rfl, F, ⟨az, cz, pu, su, { h with lp := h.lp.wide (fun _ g => g) (by omega), ls := h.ls.wide (fun _ g => g) (by omega) }⟩, Step.same (Below.refl _ _)⟩
  · rw [e] at C
    rw [e, if_pos rfl]
    obtain ⟨k, rfl⟩ := Int.eq_ofNat_of_zero_le hf0
    have hk8 : k < 8 := by omega
    obtain ⟨a, cc, h1, h2, h3, h4⟩ := h.ls k hk8
    have hb0 : Below w.heap.size w w.drew := (Below.refl _ _).drew
    have S1 := dset_any w.drew w.heap.size a cc (S k) c is (Nat.le_refl _) (RdI.below h4.rd hb0) (by omega)
    have hkk : ((k : Int)).toNat = k := by simp
    rw [hkk]
    obtain ⟨l, hl⟩ : ∃ l, setL (S k) c is = l := ⟨_, rfl⟩
    have hll : l.length ≤ B + 1 := by rw [← hl]; exact Nat.le_trans (setL_len _ _ _) (by omega)
    rw [hl] at S1 ⊢
    obtain ⟨q, hq⟩ : ∃ q, S k = q := ⟨_, rfl⟩
    rw [hq] at S1 h1
    have c1 := h.c2
    have F1 : Hid (∀ W, Below w.heap.size w W → W.cell? ⟨tb, 2, none⟩ = some (.slice (some ⟨su, 0, none⟩) 8 8) ∧ W.cell? ⟨su, k, none⟩ = some (.slice a q.length cc) ∧ W.frozen? ⟨su, k, none⟩ = false) := fun W (hW : Below w.heap.size w W) => ⟨(hW.cell (p := ⟨tb, 2, none⟩) (h.lt _ h.ft)).trans c1, (hW.cell (p := ⟨su, k, none⟩) (h.lt _ h.fs)).trans h1, (World.frozen?_of_block (hW.block su (h.lt _ h.fs))).trans h2⟩
    have HT : Hid _ := h
    have v1 : (0 : Int) ≤ (k : Int) := by omega
    have v2 : (k : Int) < 8 := by omega
    clear hl hq h3 h4 e h hkk
    go_enter Try.func11, Try.ntmps11
    go_wp2_with (go_at_call 27; refine C.mono ?_; rintro e w' ⟨rfl, rfl⟩)
    go_region_with (first | (go_at_call 28; refine S1.mono ?_; rintro e w2 ⟨u, rfl, hr⟩; obtain ⟨a2, c2, rfl, hrd⟩ := Row.rd hr; obtain ⟨g1, g2, g3⟩ := F1.out w2 (Below.trans hb0 hr.2)))
    all_goals go_wp2
    all_goals go_ret
    all_goals exact ⟨rfl, _, sub_end HT.out hk8 ⟨hr.1, Below.trans hb0 hr.2⟩ hll⟩

theorem Lst.clear {w : World} {G : Nat → Prop} {pu : Nat} {P : Nat → List Int} {B k : Nat} (h : Lst w G pu P B) (hk : k < 8) (hp : ¬ G pu) : Lst (w.setCell ⟨pu, k, none⟩ (.slice none 0 0)) G pu (updN P k []) B := by
  have hfr : Fr (fun j => j = pu) w (w.setCell ⟨pu, k, none⟩ (.slice none 0 0)) := (Fr.refl _ w).setCell _ _ (.inl rfl)
  intro f hf
  obtain ⟨a, c, h1, h2, h3, h4⟩ := h f hf
  have hfz : (w.setCell ⟨pu, k, none⟩ (.slice none 0 0)).frozen? ⟨pu, f, none⟩ = false := by
    rw [World.frozen?_setCell]
    exact h2
  by_cases e : f = k
  · subst e
    have e2 : updN P f [] f = [] := by simp [updN]
    rw [e2]
    exact ⟨none, 0, cell_set h1, hfz, Nat.zero_le _, fun g => absurd rfl g⟩
  · have e2 : updN P k [] f = P f := by simp [updN, e]
    rw [e2]
    refine ⟨a, c, ?_, hfz, h3, h4.keep hfr (fun j hj g => hp (g ▸ hj))⟩
    rw [cell_set_ne (fun g => e g.symm)]
    exact h1
theorem RTb.leave {w : World} {F : Nat → Prop} {tb : Nat} {zs : List Int} {P S : Nat → List Int} {B : Nat} {az : Option Addr} {cz pu su k : Nat} (h : RTb w F tb zs P S B az cz pu su) (hk : k < 8) :
    RTb ((w.setCell ⟨pu, k, none⟩ (.slice none 0 0)).setCell ⟨su, k, none⟩ (.slice none 0 0)) F tb zs (updN P k []) (updN S k []) B az cz pu su := by
  have f1 : Fr (fun j => j = pu) w (w.setCell ⟨pu, k, none⟩ (.slice none 0 0)) := (Fr.refl _ w).setCell _ _ (.inl rfl)
  have f2 : Fr (fun j => j = su) (w.setCell ⟨pu, k, none⟩ (.slice none 0 0)) ((w.setCell ⟨pu, k, none⟩ (.slice none 0 0)).setCell ⟨su, k, none⟩ (.slice none 0 0)) := (Fr.refl _ _).setCell _ _ (.inl rfl)
  have hlt := h.lt _ h.ft
  have hlt1 : tb < (w.setCell ⟨pu, k, none⟩ (.slice none 0 0)).heap.size := by simpa using hlt
  exact {
    c0 := (f2.cell (p := ⟨tb, 0, none⟩) hlt1 h.n2).trans ((f1.cell (p := ⟨tb, 0, none⟩) hlt h.n1).trans h.c0)
    c1 := (f2.cell (p := ⟨tb, 1, none⟩) hlt1 h.n2).trans ((f1.cell (p := ⟨tb, 1, none⟩) hlt h.n1).trans h.c1)
    c2 := (f2.cell (p := ⟨tb, 2, none⟩) hlt1 h.n2).trans ((f1.cell (p := ⟨tb, 2, none⟩) hlt h.n1).trans h.c2)
    rd := (h.rd.keep f1 (fun j hj e => hj.2.2.1 e)).keep f2 (fun j hj e => hj.2.2.2 e)
    lp := (h.lp.clear hk (fun g => g.2.2.1 rfl)).keep f2 (fun j hj e => hj.2.2.2 e) h.n3
    ls := (h.ls.keep f1 (fun j hj e => hj.2.2.1 e) (fun e => h.n3 e.symm)).clear hk (fun g => g.2.2.2 rfl)
    ft := h.ft
    fp := h.fp
    fs := h.fs
    n1 := h.n1
    n2 := h.n2
    n3 := h.n3
    lt := fun j hj => by simpa using h.lt j hj }
def okF (f : Int) : Int := if f < 0 ∨ 8 ≤ f then 1 else 0
set_option maxRecDepth 100000 in
theorem dleave_any (w : World) (F : Nat → Prop) (tb : Nat) (zs : List Int) (P S : Nat → List Int) (B : Nat) (f : Int) (h : RT tb zs P S B w F) :
    Calls Try.prog 12 #[.pointer (some ⟨tb, 0, none⟩), .int .i64 f] w fun e w' => e = .returned (.int .i64 (okF f)) ∧ ∃ F2, RT tb zs (if okF f = 0 then updN P f.toNat [] else P) (if okF f = 0 then updN S f.toNat [] else S) B w' F2 ∧ Step F F2 w w' := by
  unfold okF
  by_cases h1 : f < 0
  · have d1 : decide (f < 0) = true := by simpa using h1
    rw [if_pos (.inl h1), if_neg (by decide), if_neg (by decide)]
    go_enter Try.func12, Try.ntmps12
    go_wp2
    go_ret
    exact ⟨rfl, F, h, Step.same (Below.refl _ _)⟩
  · have d1 : decide (f < 0) = false := by simpa using h1
    by_cases h2 : 8 ≤ f
    · have d2 : decide (8 ≤ f) = true := by simpa using h2
      rw [if_pos (.inr h2), if_neg (by decide), if_neg (by decide)]
      go_enter Try.func12, Try.ntmps12
      go_wp2
      go_ret
      exact ⟨rfl, F, h, Step.same (Below.refl _ _)⟩
    · have d2 : decide (8 ≤ f) = false := by simpa using h2
      rw [if_neg (by omega), if_pos rfl, if_pos rfl]
      obtain ⟨k, rfl⟩ := Int.eq_ofNat_of_zero_le (show 0 ≤ f by omega)
      have hk8 : k < 8 := by omega
      have hkk : ((k : Int)).toNat = k := by simp
      rw [hkk]
      obtain ⟨az, cz, pu, su, h⟩ := h
      obtain ⟨a, cc, p1, p2, _, _⟩ := h.lp k hk8
      obtain ⟨a', cc', s1, s2, _, _⟩ := h.ls k hk8
      have c1 := h.c1
      have c2 := h.c2
      have v1 : (0 : Int) ≤ (k : Int) := by omega
      have v2 : (k : Int) < 8 := by omega
      have n1 := h.n1
      have n1' : ¬ pu = tb := fun e => h.n1 e.symm
      have n3' : ¬ pu = su := h.n3
      have HE : Hid _ := h.leave hk8
      have HF : Hid (Step F F w ((w.setCell ⟨pu, k, none⟩ (.slice none 0 0)).setCell ⟨su, k, none⟩ (.slice none 0 0))) := ⟨((Fr.refl F w).setCell ⟨pu, k, none⟩ (.slice none 0 0) (.inl h.fp)).setCell ⟨su, k, none⟩ (.slice none 0 0) (.inl h.fs), fun _ g => .inl g⟩
      have t2 : (w.setCell ⟨pu, k, none⟩ (.slice none 0 0)).cell? ⟨tb, 2, none⟩ = some (.slice (some ⟨su, 0, none⟩) 8 8) := (cell_set_far n1').trans c2
      have t3 : (w.setCell ⟨pu, k, none⟩ (.slice none 0 0)).cell? ⟨su, k, none⟩ = some (.slice a' (S k).length cc') := (cell_set_far n3').trans s1
      clear h hkk
      go_enter Try.func12, Try.ntmps12
      go_wp2
      go_ret
      exact ⟨rfl, F, ⟨az, cz, pu, su, HE.out⟩, HF.out⟩
end Go.Proofs.Ytkbldbbhcdiihaa
