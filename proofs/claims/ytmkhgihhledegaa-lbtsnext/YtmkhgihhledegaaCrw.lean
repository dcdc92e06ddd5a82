/- Proved: a row of members of one's own, cell by cell; one of its cells written. -/
import Derived.Test.YtmkhgihhledegaaMkl
namespace Go.Proofs.Ytmkhgihhledegaa
open Go.RowKit Go.Shelf
open L (Mb IsG lbt oth outM cnt vadd)
set_option linter.unusedVariables false

structure Cr (w W : World) (g n : Nat) (l : List Mb) : Prop where
  bel : Below w.heap.size w W
  ge : w.heap.size ≤ g
  lt : g < W.heap.size
  len : l.length = n
  c : ∀ i, i < n → ∀ k, k < 7 → W.cell? ⟨g, i * 7 + k, none⟩ = (encB (L.nth l i))[k]? ∧ W.frozen? ⟨g, i * 7 + k, none⟩ = false
theorem Cr.of {w W : World} {e : TypeId} {a : Option Addr} {n k c : Nat} {l : List Mb} (h : Rmk e w W (.slice a k c) l) (hn : l.length = n) (h0 : 0 < n) : ∃ g, a = some ⟨g, 0, none⟩ ∧ Cr w W g n l := by
  obtain ⟨a', c', e1, hr⟩ := h.own.rd (N := fun _ => True) (fun _ _ => trivial)
  simp at e1
  obtain ⟨rfl, rfl, rfl⟩ := e1
  rcases h.own.2 with ⟨e2, e3⟩ | ⟨g, cap, cur, e2, _, hh, _⟩
  · omega
  · simp at e2
    obtain ⟨rfl, _⟩ := e2
    obtain ⟨b, off, e4, hb, _, hc⟩ := hr (by intro e; rw [e] at hn; simp at hn; omega)
    simp at e4
    obtain ⟨rfl, rfl⟩ := e4
    refine ⟨g, rfl, h.bel, h.new g rfl, hb, hn, fun i hi k hk => ⟨?_, ?_⟩⟩
    · have := hc i (by rw [hn]; exact hi) k hk
      rw [Nat.zero_add] at this
      exact this
    · simp [World.frozen?, hh]
theorem Cr.keep {S : Nat → Prop} {w W W2 : World} {g n : Nat} {l : List Mb} (h : Cr w W g n l) (hf : Fr S W W2) (hn : ¬ S g) (hs : ∀ i, S i → w.heap.size ≤ i) : Cr w W2 g n l :=
  ⟨h.bel.trans (hf.below h.bel.size hs), h.ge, Nat.lt_of_lt_of_le h.lt hf.size, h.len, fun i hi k hk => ⟨(hf.cell (p := ⟨g, i * 7 + k, none⟩) h.lt hn).trans (h.c i hi k hk).1, (hf.frozen (p := ⟨g, i * 7 + k, none⟩) h.lt hn).trans (h.c i hi k hk).2⟩⟩
theorem Cr.on {w W W2 : World} {g n : Nat} {l : List Mb} (h : Cr w W g n l) (b : Below W.heap.size W W2) : Cr w W2 g n l := h.keep (Fr.of_below (S := fun _ => False) b) (fun e => e) (fun _ e => e.elim)
theorem Cr.rd {w W : World} {g n : Nat} {l : List Mb} (h : Cr w W g n l) : RdN cB (fun _ => True) W (some ⟨g, 0, none⟩) l := fun _ => ⟨g, 0, rfl, h.lt, trivial, fun i hi k hk => by rw [Nat.zero_add]; exact (h.c i (by rw [← h.len]; exact hi) k hk).1⟩
theorem Cr.set {w W : World} {g n : Nat} {l : List Mb} (h : Cr w W g n l) {k c : Nat} (hk : k < n) (hc : c < 7) (v : Value) (m : Mb) (hm : encB m = (encB (L.nth l k)).set c v) : Cr w (W.setCell ⟨g, k * 7 + c, none⟩ v) g n (l.set k m) := by
  have hf : Fr (fun q => q = g) W (W.setCell ⟨g, k * 7 + c, none⟩ v) := (Fr.refl _ _).setCell _ _ (.inl rfl)
  refine ⟨h.bel.trans (hf.below h.bel.size (fun i e => by rw [e]; exact h.ge)), h.ge, Nat.lt_of_lt_of_le h.lt hf.size, by rw [List.length_set]; exact h.len, fun i hi q hq => ⟨?_, ?_⟩⟩
  · rw [L.nth_set (by rw [h.len]; exact hk)]
    by_cases e : i = k ∧ q = c
    · obtain ⟨rfl, rfl⟩ := e
      rw [World.cell?_setCell_same' _ _ _ (by
        rw [(h.c i hi q hq).1]
        have : q < (encB (L.nth l i)).length := hq
        simp [this]), if_pos rfl, hm]
      have : q < (encB (L.nth l i)).length := hq
      simp [this]
    · rw [World.cell?_setCell_other _ _ _ _ (by intro e2; have e3 := congrArg Addr.off e2; simp only at e3; exact e ⟨by omega, by omega⟩), (h.c i hi q hq).1]
      by_cases e3 : i = k
      · subst e3
        rw [if_pos rfl, hm, List.getElem?_set_ne (fun e2 => e ⟨rfl, e2.symm⟩)]
      · rw [if_neg e3]
  · rw [World.frozen?_setCell]; exact (h.c i hi q hq).2
theorem Cr.at {w W : World} {g n : Nat} {l : List Mb} (h : Cr w W g n l) {k : Nat} (hk : k < n) {m : Mb} (hm : L.nth l k = m) :
    (W.cell? ⟨g, k * 7, none⟩ = some (.bool m.re) ∧ W.cell? ⟨g, k * 7 + 1, none⟩ = some (.bool m.co) ∧ W.cell? ⟨g, k * 7 + 2, none⟩ = some (.int .i64 m.ti) ∧ W.cell? ⟨g, k * 7 + 3, none⟩ = some (.int .i64 m.lo) ∧ W.cell? ⟨g, k * 7 + 4, none⟩ = some (.int .i64 m.ki) ∧ W.cell? ⟨g, k * 7 + 5, none⟩ = some (.int .i64 m.ak) ∧ W.cell? ⟨g, k * 7 + 6, none⟩ = some (.int .i64 m.fi)) ∧
    (W.frozen? ⟨g, k * 7, none⟩ = false ∧ W.frozen? ⟨g, k * 7 + 1, none⟩ = false ∧ W.frozen? ⟨g, k * 7 + 2, none⟩ = false ∧ W.frozen? ⟨g, k * 7 + 3, none⟩ = false ∧ W.frozen? ⟨g, k * 7 + 4, none⟩ = false ∧ W.frozen? ⟨g, k * 7 + 5, none⟩ = false ∧ W.frozen? ⟨g, k * 7 + 6, none⟩ = false) := by
  have q := fun j hj => h.c k hk j hj
  rw [hm] at q
  exact ⟨⟨(q 0 (by omega)).1, (q 1 (by omega)).1, (q 2 (by omega)).1, (q 3 (by omega)).1, (q 4 (by omega)).1, (q 5 (by omega)).1, (q 6 (by omega)).1⟩, (q 0 (by omega)).2, (q 1 (by omega)).2, (q 2 (by omega)).2, (q 3 (by omega)).2, (q 4 (by omega)).2, (q 5 (by omega)).2, (q 6 (by omega)).2⟩
/-- A member written whole. -/
theorem Cr.put {w W : World} {g n : Nat} {l : List Mb} (h : Cr w W g n l) {k : Nat} (hk : k < n) (r co : Bool) (ti lo ki ak fi : Int) :
    Cr w (((((((W.setCell ⟨g, k * 7, none⟩ (.bool r)).setCell ⟨g, k * 7 + 1, none⟩ (.bool co)).setCell ⟨g, k * 7 + 2, none⟩ (.int .i64 ti)).setCell ⟨g, k * 7 + 3, none⟩ (.int .i64 lo)).setCell ⟨g, k * 7 + 4, none⟩ (.int .i64 ki)).setCell ⟨g, k * 7 + 5, none⟩ (.int .i64 ak)).setCell ⟨g, k * 7 + 6, none⟩ (.int .i64 fi)) g n (l.set k ⟨r, co, ti, lo, ki, ak, fi⟩) := by
  obtain ⟨m, hm⟩ : ∃ m, L.nth l k = m := ⟨_, rfl⟩
  have hl : ∀ (l' : List Mb) (m' : Mb), l'.length = n → L.nth (l'.set k m') k = m' := fun l' m' e => by rw [L.nth_set (by rw [e]; exact hk), if_pos rfl]
  have h0 := h.set (c := 0) hk (by omega) (.bool r) ⟨r, m.co, m.ti, m.lo, m.ki, m.ak, m.fi⟩ (by rw [hm]; rfl)
  have h1 := h0.set (c := 1) hk (by omega) (.bool co) ⟨r, co, m.ti, m.lo, m.ki, m.ak, m.fi⟩ (by rw [hl _ _ h.len]; rfl)
  have h2 := h1.set (c := 2) hk (by omega) (.int .i64 ti) ⟨r, co, ti, m.lo, m.ki, m.ak, m.fi⟩ (by rw [hl _ _ h0.len]; rfl)
  have h3 := h2.set (c := 3) hk (by omega) (.int .i64 lo) ⟨r, co, ti, lo, m.ki, m.ak, m.fi⟩ (by rw [hl _ _ h1.len]; rfl)
  have h4 := h3.set (c := 4) hk (by omega) (.int .i64 ki) ⟨r, co, ti, lo, ki, m.ak, m.fi⟩ (by rw [hl _ _ h2.len]; rfl)
  have h5 := h4.set (c := 5) hk (by omega) (.int .i64 ak) ⟨r, co, ti, lo, ki, ak, m.fi⟩ (by rw [hl _ _ h3.len]; rfl)
  have h6 := h5.set (c := 6) hk (by omega) (.int .i64 fi) ⟨r, co, ti, lo, ki, ak, fi⟩ (by rw [hl _ _ h4.len]; rfl)
  simp only [List.set_set] at h6
  exact h6
end Go.Proofs.Ytmkhgihhledegaa
