/- Proved: how the document's table of who publishes and hears lies in memory; its check, its set. -/
import Derived.Test.YtkbldbbhcdiihaaMem
import Derived.Test.YtkbldbbhcdiihaaRfa
import Derived.Deep.RegionHeld3
import Derived.BigQuiet
namespace Go.Proofs.Ytkbldbbhcdiihaa
open Go.RowKit Go.Shelf
set_option linter.unusedVariables false

/-! ### Plain data -/
/-- Is there such a federate, and such a class of n? -/
def okFC (n : Nat) (f c : Int) : Int := if f < 0 ∨ 8 ≤ f then 1 else if c < 0 ∨ (n : Int) ≤ c then 81 else 0
def setL (l : List Int) (c : Int) (is : Bool) : List Int := l.filter (fun x => !(x == c)) ++ (if is then [c] else [])
def updN (P : Nat → List Int) (f : Nat) (l : List Int) : Nat → List Int := fun g => if g = f then l else P g
theorem setL_len (l : List Int) (c : Int) (is : Bool) : (setL l c is).length ≤ l.length + 1 := by
  unfold setL
  rw [List.length_append]
  have := List.length_filter_le (fun x => !(x == c)) l
  cases is <;> simp <;> omega
theorem setL_mem (l : List Int) (c : Int) (is : Bool) (x : Int) : x ∈ setL l c is ↔ if x = c then is = true else x ∈ l := by
  unfold setL
  by_cases e : x = c
  · subst e
    cases is <;> simp
  · cases is <;> simp [e]

/-! ### How it lies in memory -/
def RdF (w : World) (G : Nat → Prop) (a : Option Addr) (xs : List Int) : Prop := xs ≠ [] → ∃ b off, a = some ⟨b, off, none⟩ ∧ G b ∧ b < w.heap.size ∧ ∀ i, i < xs.length → w.cell? ⟨b, off + i, none⟩ = some (.int .i64 (nthI xs i))
theorem RdF.rd {w : World} {G : Nat → Prop} {a : Option Addr} {xs : List Int} (h : RdF w G a xs) : RdI w w.heap.size a xs := fun hz => by
  obtain ⟨b, off, e, _, hb, hc⟩ := h hz
  exact ⟨b, off, e, hb, hc⟩
theorem RdF.keep {w w' : World} {S G : Nat → Prop} {a : Option Addr} {xs : List Int} (h : RdF w G a xs) (hf : Fr S w w') (hd : ∀ k, G k → ¬ S k) : RdF w' G a xs := fun hz => by
  obtain ⟨b, off, e, hg, hb, hc⟩ := h hz
  exact ⟨b, off, e, hg, Nat.lt_of_lt_of_le hb hf.size, fun i hi => (hf.cell (p := ⟨b, off + i, none⟩) hb (hd b hg)).trans (hc i hi)⟩
theorem RdF.wide {w : World} {G G2 : Nat → Prop} {a : Option Addr} {xs : List Int} (h : RdF w G a xs) (hd : ∀ k, G k → G2 k) : RdF w G2 a xs := fun hz => by
  obtain ⟨b, off, e, hg, hb, hc⟩ := h hz
  exact ⟨b, off, e, hd b hg, hb, hc⟩
/-- Eight lists. -/
def Lst (w : World) (G : Nat → Prop) (pu : Nat) (P : Nat → List Int) (B : Nat) : Prop :=
  ∀ f, f < 8 → ∃ a c, w.cell? ⟨pu, f, none⟩ = some (.slice a (P f).length c) ∧ w.frozen? ⟨pu, f, none⟩ = false ∧ (P f).length ≤ B ∧ RdF w G a (P f)
theorem Lst.keep {w w' : World} {S G : Nat → Prop} {pu : Nat} {P : Nat → List Int} {B : Nat} (h : Lst w G pu P B) (hf : Fr S w w') (hd : ∀ k, G k → ¬ S k) (hp : ¬ S pu) : Lst w' G pu P B := fun f hf8 => by
  obtain ⟨a, c, h1, h2, h3, h4⟩ := h f hf8
  have hlt : pu < w.heap.size := clt h1
  exact ⟨a, c, (hf.cell (p := ⟨pu, f, none⟩) hlt hp).trans h1, (hf.frozen (p := ⟨pu, f, none⟩) hlt hp).trans h2, h3, h4.keep hf hd⟩
theorem Lst.wide {w : World} {G G2 : Nat → Prop} {pu : Nat} {P : Nat → List Int} {B B2 : Nat} (h : Lst w G pu P B) (hd : ∀ k, G k → G2 k) (hB : B ≤ B2) : Lst w G2 pu P B2 := fun f hf8 => by
  obtain ⟨a, c, h1, h2, h3, h4⟩ := h f hf8
  exact ⟨a, c, h1, h2, Nat.le_trans h3 hB, h4.wide hd⟩
/-- The document's table. -/
structure RTb (w : World) (F : Nat → Prop) (tb : Nat) (zs : List Int) (P S : Nat → List Int) (B : Nat) (az : Option Addr) (cz pu su : Nat) : Prop where
  c0 : w.cell? ⟨tb, 0, none⟩ = some (.slice az zs.length cz)
  c1 : w.cell? ⟨tb, 1, none⟩ = some (.slice (some ⟨pu, 0, none⟩) 8 8)
  c2 : w.cell? ⟨tb, 2, none⟩ = some (.slice (some ⟨su, 0, none⟩) 8 8)
  rd : RdF w (fun k => F k ∧ k ≠ tb ∧ k ≠ pu ∧ k ≠ su) az zs
  lp : Lst w (fun k => F k ∧ k ≠ tb ∧ k ≠ pu ∧ k ≠ su) pu P B
  ls : Lst w (fun k => F k ∧ k ≠ tb ∧ k ≠ pu ∧ k ≠ su) su S B
  ft : F tb
  fp : F pu
  fs : F su
  n1 : tb ≠ pu
  n2 : tb ≠ su
  n3 : pu ≠ su
  lt : ∀ k, F k → k < w.heap.size
def RT (tb : Nat) (zs : List Int) (P S : Nat → List Int) (B : Nat) : World → (Nat → Prop) → Prop := fun w F => ∃ az cz pu su, RTb w F tb zs P S B az cz pu su
theorem RTb.keep {w w' : World} {T F : Nat → Prop} {tb : Nat} {zs : List Int} {P S : Nat → List Int} {B : Nat} {az : Option Addr} {cz pu su : Nat} (h : RTb w F tb zs P S B az cz pu su) (hf : Fr T w w') (hd : ∀ k, F k → ¬ T k) : RTb w' F tb zs P S B az cz pu su where
  c0 := (hf.cell (p := ⟨tb, 0, none⟩) (h.lt _ h.ft) (hd _ h.ft)).trans h.c0
  c1 := (hf.cell (p := ⟨tb, 1, none⟩) (h.lt _ h.ft) (hd _ h.ft)).trans h.c1
  c2 := (hf.cell (p := ⟨tb, 2, none⟩) (h.lt _ h.ft) (hd _ h.ft)).trans h.c2
  rd := h.rd.keep hf (fun k hk => hd k hk.1)
  lp := h.lp.keep hf (fun k hk => hd k hk.1) (hd _ h.fp)
  ls := h.ls.keep hf (fun k hk => hd k hk.1) (hd _ h.fs)
  ft := h.ft
  fp := h.fp
  fs := h.fs
  n1 := h.n1
  n2 := h.n2
  n3 := h.n3
  lt := fun k hk => Nat.lt_of_lt_of_le (h.lt k hk) hf.size
theorem thR (tb : Nat) (zs : List Int) (P S : Nat → List Int) (B : Nat) : Th (RT tb zs P S B) where
  lt := by rintro w F ⟨az, cz, pu, su, h⟩; exact h.lt
  keep := by rintro T w w' F ⟨az, cz, pu, su, h⟩ hf hd; exact ⟨az, cz, pu, su, h.keep hf hd⟩

/-! ### Its check -/
set_option maxRecDepth 100000 in
theorem dchk_any (w : World) (tb : Nat) (az : Option Addr) (cz : Nat) (zs : List Int) (f c : Int) (h0 : w.cell? ⟨tb, 0, none⟩ = some (.slice az zs.length cz)) :
    Calls Try.prog 27 #[.pointer (some ⟨tb, 0, none⟩), .int .i64 f, .int .i64 c] w fun e w' => e = .returned (.int .i64 (okFC zs.length f c)) ∧ w = w' := by
  unfold okFC
  by_cases h1 : f < 0
  · have d1 : decide (f < 0) = true := by simpa using h1
    rw [if_pos (.inl h1)]
    go_enter Try.func27, Try.ntmps27
    go_wp2
    go_ret
    exact ⟨rfl, rfl⟩
  · have d1 : decide (f < 0) = false := by simpa using h1
    by_cases h2 : 8 ≤ f
    · have d2 : decide (8 ≤ f) = true := by simpa using h2
      rw [if_pos (.inr h2)]
      go_enter Try.func27, Try.ntmps27
      go_wp2
      go_ret
      exact ⟨rfl, rfl⟩
    · have d2 : decide (8 ≤ f) = false := by simpa using h2
      rw [if_neg (by omega)]
      by_cases h3 : c < 0
      · have d3 : decide (c < 0) = true := by simpa using h3
        rw [if_pos (.inl h3)]
        go_enter Try.func27, Try.ntmps27
        go_wp2
        go_ret
        exact ⟨rfl, rfl⟩
      · have d3 : decide (c < 0) = false := by simpa using h3
        by_cases h4 : (zs.length : Int) ≤ c
        · have d4 : decide ((zs.length : Int) ≤ c) = true := by simpa using h4
          rw [if_pos (.inr h4)]
          go_enter Try.func27, Try.ntmps27
          go_wp2
          go_ret
          exact ⟨rfl, rfl⟩
        · have d4 : decide ((zs.length : Int) ≤ c) = false := by simpa using h4
          rw [if_neg (by omega)]
          go_enter Try.func27, Try.ntmps27
          go_wp2
          go_ret
          exact ⟨rfl, rfl⟩

/-! ### Its set -/
set_option maxRecDepth 100000 in
set_option maxHeartbeats 2000000 in
theorem dset_any (w : World) (n0 : Nat) (a : Option Addr) (c : Nat) (xs : List Int) (v : Int) (is : Bool) (hn : n0 ≤ w.heap.size) (h : RdI w n0 a xs) (hl : xs.length ≤ 1000) :
    Calls Try.prog 28 #[.slice a xs.length c, .int .i64 v, .bool is] w fun e w' => ∃ u, e = .returned u ∧ Row w w' u (setL xs v is) := by
  obtain ⟨i0, hi, hz0, hz1, hz2⟩ := info_parts info3
  have HRD : Hid _ := h
  clear h
  obtain ⟨f, hf⟩ : ∃ f : Nat → List Int, f = fun k => (xs.take k).filter (fun x => !(x == v)) := ⟨_, rfl⟩
  have hs : ∀ k, k < xs.length → f (k + 1) = f k ++ (if nthI xs k = v then [] else [nthI xs k]) := fun k hk => by
    rw [hf]
    show (xs.take (k + 1)).filter _ = _
    rw [List.take_succ_eq_append_getElem hk, List.filter_append]
    congr 1
    have e : nthI xs k = xs[k] := by simp [nthI, hk]
    rw [e]
    by_cases g : xs[k] = v <;> simp [g]
  have hfl : ∀ k, (f k).length ≤ 1000 := fun k => by
    rw [hf]
    exact Nat.le_trans (List.length_filter_le _ _) (by simp; omega)
  have HE : Hid (f xs.length = xs.filter (fun x => !(x == v))) := by show f xs.length = _; rw [hf]; simp
  have H0 : Hid (f 0 = []) := by show f 0 = []; rw [hf]; simp
  have HS : Hid _ := hs
  have HFL : Hid _ := hfl
  clear hf hs hfl
  go_enter Try.func28, Try.ntmps28
  go_wp2_with fail
  go_loopw [7, 8] (fun s7 s8 wr => ∃ k : Nat, k ≤ xs.length ∧ s8 = .int .i64 k ∧ Hid (Row w wr s7 (f k))) (fun _ s8 _ => xs.length - (intOf s8).toNat)
  case atStart => exact ⟨0, Nat.zero_le _, rfl, by show Row _ _ _ _; rw [H0.out]; exact Row.empty w⟩
  case round =>
    obtain ⟨k, hk, rfl, HW⟩ := hrel
    by_cases hkl : k < xs.length
    · have hk' : (k : Int) < (xs.length : Int) := by omega
      obtain ⟨b, off, rfl, hb, hc⟩ := HRD.out (by intro e; simp [e] at hkl)
      have x0 := (Below.cell (p := ⟨b, off + k, none⟩) (Hid.out HW).2 (Nat.lt_of_lt_of_le hb hn)).trans (hc k hkl)
      have hs := HS.out k hkl
      obtain ⟨x, hx⟩ : ∃ x, nthI xs k = x := ⟨_, rfl⟩
      rw [hx] at x0 hs
      clear hx hc
      by_cases t0 : x = v
      · rw [if_pos t0, List.append_nil] at hs
        have HN : Hid _ := hs
        clear hs
        subst t0
        go_wp2
        go_roundw
        case rel => exact ⟨k + 1, by omega, by go_num, by show Row _ _ _ _; rw [HN.out]; exact HW.out⟩
        case measure => simp [intOf]; omega
      · rw [if_neg t0] at hs
        have HN : Hid _ := hs
        have d0 : (x == v) = false := by simpa using t0
        have hlen := HFL.out k
        obtain ⟨L, hL⟩ : ∃ L, f k = L := ⟨_, rfl⟩
        rw [hL] at HN HW hlen
        clear hs hL
        go_wp2_with (at_builtin; refine wpList_append_own _ rfl _ _ 22 rfl w.heap.size 3 i0 (.int .i64 0) 1 8 Try.underlying22 hi hz0 hz1 hz2 rfl (by decide) _ _ _ rfl (World.ownsRow.alloc (Hid.out HW).1 _) ⟨wr.heap.size, 0, none⟩ 1 1 [.int .i64 x] rfl rfl (cell_one_new _ _ _) (by simp [Value.oneCell']) (by unfold maxLen; omega) (by omega) (by have := (Hid.out HW).2.size; simp; omega) ?_)
        intro v' w2 hown' hgrow _
        have HW2 : Hid _ := Row.app HW.out hown' hgrow
        clear hown' hgrow
        go_wp2
        go_roundw
        case rel => exact ⟨k + 1, by omega, by go_num, by show Row _ _ _ _; rw [HN.out]; exact HW2.out⟩
        case measure => simp [intOf]; omega
    · obtain rfl : k = xs.length := by omega
      have hlen := HFL.out xs.length
      cases is with
      | false =>
        go_wp2
        go_ret
        refine ⟨_, rfl, ?_⟩
        unfold setL
        rw [← HE.out]
        simpa using HW.out
      | true =>
        obtain ⟨L, hL⟩ : ∃ L, f xs.length = L := ⟨_, rfl⟩
        rw [hL] at HW hlen HE
        clear hL
        go_wp2_with (at_builtin; refine wpList_append_own _ rfl _ _ 22 rfl w.heap.size 3 i0 (.int .i64 0) 1 8 Try.underlying22 hi hz0 hz1 hz2 rfl (by decide) _ _ _ rfl (World.ownsRow.alloc (Hid.out HW).1 _) ⟨wr.heap.size, 0, none⟩ 1 1 [.int .i64 v] rfl rfl (cell_one_new _ _ _) (by simp [Value.oneCell']) (by unfold maxLen; omega) (by omega) (by have := (Hid.out HW).2.size; simp; omega) ?_)
        intro v' w2 hown' hgrow _
        have HW2 : Hid _ := Row.app HW.out hown' hgrow
        clear hown' hgrow
        go_wp2
        go_ret
        refine ⟨_, rfl, ?_⟩
        unfold setL
        rw [← HE.out]
        show Row _ _ _ (L ++ [v])
        exact HW2.out
end Go.Proofs.Ytkbldbbhcdiihaa
