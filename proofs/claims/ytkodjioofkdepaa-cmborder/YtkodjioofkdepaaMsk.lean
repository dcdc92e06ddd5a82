/- Proved: worlds of which some blocks are left out, what can be read in them; federations that are alike but for where they lie. -/
import Derived.Test.YtkodjioofkdepaaJPln
import Derived.Test.YtkodjioofkdepaaJSpD

namespace Go.Proofs.Ytkodjioofkdepaa
open Go.RowKit Go.Shelf
set_option linter.unusedVariables false

/-- All cells of w are cells of w2. -/
structure Sub (w w' : World) : Prop where
  size : w.heap.size ≤ w'.heap.size
  cell : ∀ p v, w.cell? p = some v → w'.cell? p = some v
theorem Sub.refl (w : World) : Sub w w := ⟨Nat.le_refl _, fun _ _ h => h⟩
theorem Sub.trans {a b c : World} (h : Sub a b) (k : Sub b c) : Sub a c := ⟨Nat.le_trans h.size k.size, fun p v e => k.cell p v (h.cell p v e)⟩
theorem RdI.sub {w w' : World} {a : Option Addr} {zs : List Int} (h : RdI w w.heap.size a zs) (hs : Sub w w') : RdI w' w'.heap.size a zs := fun g => by
  obtain ⟨b, off, rfl, hB, hc⟩ := h g
  exact ⟨b, off, rfl, Nat.lt_of_lt_of_le hB hs.size, fun i hi => hs.cell _ _ (hc i hi)⟩
theorem some_of {l : List Value} {c n : Nat} (hl : l.length = n) (hc : c < n) : ∃ v, l[c]? = some v := ⟨_, List.getElem?_eq_getElem (by omega)⟩
theorem RdO.sub {w w' : World} {a : Option Addr} {l : List O} (h : RdO w a l) (hs : Sub w w') : RdO w' a l := fun g => by
  obtain ⟨b, off, rfl, hB, hc⟩ := h g
  refine ⟨b, off, rfl, Nat.lt_of_lt_of_le hB hs.size, fun i hi c hc3 => ?_⟩
  obtain ⟨v, hv⟩ := some_of (l := encO (nthO l i)) (n := 3) rfl hc3
  rw [hv]
  exact hs.cell _ _ ((hc i hi c hc3).trans hv)
theorem RdR.sub {w w' : World} {a : Option Addr} {l : List Rl} (h : RdR w a l) (hs : Sub w w') : RdR w' a l := by
  refine ⟨fun g => ?_, fun r hr => ⟨(h.2 r hr).1, (h.2 r hr).2.1, (h.2 r hr).2.2.sub hs⟩⟩
  obtain ⟨b, off, rfl, hB, hc⟩ := h.1 g
  refine ⟨b, off, rfl, Nat.lt_of_lt_of_le hB hs.size, fun i hi c hc3 => ?_⟩
  obtain ⟨v, hv⟩ := some_of (l := encR (nthR l i)) (n := 4) rfl hc3
  rw [hv]
  exact hs.cell _ _ ((hc i hi c hc3).trans hv)
theorem okF.sub {w w' : World} {f : Fd} (h : okF w f) (hs : Sub w w') : okF w' f := ⟨h.r.sub hs, h.p.sub hs, h.s.sub hs, h.i.sub hs⟩
theorem RdF.sub {w w' : World} {a : Option Addr} {l : List Fd} (h : RdF w a l) (hs : Sub w w') : RdF w' a l := by
  refine ⟨fun g => ?_, fun f hf => (h.2 f hf).sub hs⟩
  obtain ⟨b, off, rfl, hB, hc⟩ := h.1 g
  refine ⟨b, off, rfl, Nat.lt_of_lt_of_le hB hs.size, fun i hi c hc3 => ?_⟩
  obtain ⟨v, hv⟩ := some_of (l := encF (nthF l i)) (n := 7) rfl hc3
  rw [hv]
  exact hs.cell _ _ ((hc i hi c hc3).trans hv)
theorem Ww.sub {w w' : World} {d : Wd} (h : Ww w d) (hs : Sub w w') : Ww w' d := ⟨h.p.sub hs, h.f.sub hs, h.pl, h.fl, h.lt⟩

/-- W without the blocks of S. -/
def mask (S : Nat → Bool) (W : World) : World := { W with heap := W.heap.mapIdx (fun i o => if S i = true then .cells #[] 0 else o) }
theorem mask_size (S : Nat → Bool) (W : World) : (mask S W).heap.size = W.heap.size := by simp [mask]
theorem mask_get {S : Nat → Bool} {W : World} {k : Nat} (h : S k = false) : (mask S W).heap[k]? = W.heap[k]? := by
  simp [mask, h]
theorem mask_cell {S : Nat → Bool} {W : World} {p : Addr} {v : Value} (h : (mask S W).cell? p = some v) : S p.block = false ∧ W.cell? p = some v := by
  cases hS : S p.block with
  | false => exact ⟨rfl, (World.cell?_of_block (mask_get hS)).symm.trans h⟩
  | true =>
    exfalso
    have hl := clt h
    rw [mask_size] at hl
    have e : (mask S W).heap[p.block]? = some (.cells #[] 0) := by simp [mask, hS, hl]
    simp [World.cell?, e] at h
theorem mask_cell_of {S : Nat → Bool} {W : World} {p : Addr} (h : S p.block = false) : (mask S W).cell? p = W.cell? p := World.cell?_of_block (mask_get h)
theorem sub_mask {S S' : Nat → Bool} {W W' : World} (hs : W.heap.size ≤ W'.heap.size) (h : ∀ k, k < W.heap.size → S k = false → S' k = false ∧ W'.heap[k]? = W.heap[k]?) : Sub (mask S W) (mask S' W') := by
  refine ⟨by rw [mask_size, mask_size]; exact hs, fun p v e => ?_⟩
  obtain ⟨h1, h2⟩ := mask_cell e
  obtain ⟨h3, h4⟩ := h p.block (clt h2) h1
  rw [mask_cell_of h3, World.cell?_of_block h4]
  exact h2
theorem sub_of_mask {S : Nat → Bool} {W W' : World} (hs : W.heap.size ≤ W'.heap.size) (h : ∀ k, k < W.heap.size → S k = false → W'.heap[k]? = W.heap[k]?) : Sub (mask S W) W' := by
  refine ⟨by rw [mask_size]; exact hs, fun p v e => ?_⟩
  obtain ⟨h1, h2⟩ := mask_cell e
  rw [World.cell?_of_block (h p.block (clt h2) h1)]
  exact h2
theorem RdI.mask {S : Nat → Bool} {W : World} {a : Option Addr} {zs : List Int} (h : RdI W W.heap.size a zs) (hS : ∀ g off, a = some ⟨g, off, none⟩ → S g = false) : RdI (mask S W) (mask S W).heap.size a zs := fun g => by
  obtain ⟨b, off, rfl, hB, hc⟩ := h g
  exact ⟨b, off, rfl, by rw [mask_size]; exact hB, fun i hi => (mask_cell_of (p := ⟨b, off + i, none⟩) (hS b off rfl)).trans (hc i hi)⟩
theorem RdO.mask {S : Nat → Bool} {W : World} {a : Option Addr} {l : List O} (h : RdO W a l) (hS : ∀ g off, a = some ⟨g, off, none⟩ → S g = false) : RdO (mask S W) a l := fun g => by
  obtain ⟨b, off, rfl, hB, hc⟩ := h g
  exact ⟨b, off, rfl, by rw [mask_size]; exact hB, fun i hi c hc3 => (mask_cell_of (p := ⟨b, off + i * 3 + c, none⟩) (hS b off rfl)).trans (hc i hi c hc3)⟩
/-- The cells of rules, whatever they send. -/
def CsR (w : World) (a : Option Addr) (l : List Rl) : Prop := l ≠ [] → ∃ b off, a = some ⟨b, off, none⟩ ∧ b < w.heap.size ∧ ∀ i, i < l.length → ∀ c, c < 4 → w.cell? ⟨b, off + i * 4 + c, none⟩ = (encR (nthR l i))[c]?
theorem CsR.mask {S : Nat → Bool} {W : World} {a : Option Addr} {l : List Rl} (h : CsR W a l) (hS : ∀ g off, a = some ⟨g, off, none⟩ → S g = false) : CsR (mask S W) a l := fun g => by
  obtain ⟨b, off, rfl, hB, hc⟩ := h g
  exact ⟨b, off, rfl, by rw [mask_size]; exact hB, fun i hi c hc3 => (mask_cell_of (p := ⟨b, off + i * 4 + c, none⟩) (hS b off rfl)).trans (hc i hi c hc3)⟩
theorem RdG.mask {S : Nat → Bool} {W : World} {a : Option Addr} {l : List G} (h : RdG W a l) (hS : ∀ g off, a = some ⟨g, off, none⟩ → S g = false) : RdG (mask S W) a l := fun g => by
  obtain ⟨b, off, rfl, hB, hc⟩ := h g
  exact ⟨b, off, rfl, by rw [mask_size]; exact hB, fun i hi c hc3 => (mask_cell_of (p := ⟨b, off + i * 7 + c, none⟩) (hS b off rfl)).trans (hc i hi c hc3)⟩

/-! ### Alike -/
def LikR (r' r : Rl) : Prop := r'.st = r.st ∧ r'.cl = r.cl ∧ r'.nx = r.nx ∧ r'.os = r.os
structure LikF (f' f : Fd) : Prop where
  st : f'.st = f.st
  ss : f'.ss = f.ss
  rl : f'.rs.length = f.rs.length
  rs : ∀ i, i < f.rs.length → LikR (nthR f'.rs i) (nthR f.rs i)
  lt : LtF f'
/-- The same federation, but for where it lies, and for its first messages. -/
structure Lik (D' D : Wd) : Prop where
  ps : D'.ps = D.ps
  en : D'.en = D.en
  fl : D'.fs.length = D.fs.length
  fs : ∀ i, i < D.fs.length → LikF (nthF D'.fs i) (nthF D.fs i)
theorem stp_lik {l' l : List Rl} (hl : l'.length = l.length) (h : ∀ i, i < l.length → LikR (nthR l' i) (nthR l i)) (s c : Int) : stp l' s c = stp l s c := by
  have hb : ∀ i, i < l.length → isB s c (nthR l' i) = isB s c (nthR l i) := fun i hi => by
    obtain ⟨h1, h2, _, _⟩ := h i hi
    unfold isB
    rw [h1, h2]
  have hf : fnd l' s c = fnd l s c := by
    rw [fnd_idx, fnd_idx]
    rcases idxP_cases (isB s c) l with ⟨e, hn⟩ | ⟨k, hk, e, h1, h2⟩
    · rw [e]
      exact idxP_no (fun i hi => by rw [hb i (by omega)]; exact hn _ (nthR_mem (by omega)))
    · rw [e]
      exact idxP_at (fun i hi => by rw [hb i (by omega)]; exact h2 i hi) (by omega) (by rw [hb k hk]; exact h1)
  unfold stp
  rw [hf]
  split
  · rfl
  · rename_i hneg
    rcases idxP_cases (isB s c) l with ⟨e, hn⟩ | ⟨k, hk, e, h1, h2⟩
    · exfalso
      rw [fnd_idx, e] at hneg
      omega
    · rw [fnd_idx, e]
      obtain ⟨_, _, h3, h4⟩ := h k hk
      simp only [Int.toNat_natCast]
      rw [h3, h4]
theorem spr_lik {D' D : Wd} (h : Lik D' D) (f q n b : Int) (os : List O) : spr D' f q n b os = spr D f q n b os := by
  have hr : ∀ f c, rts D' f c = rts D f c := fun f c => by
    unfold rts
    rw [h.fl]
    exact rtsF_congr h.ps (fun i hi => (h.fs i hi).ss) f c _ (Nat.le_refl _)
  unfold spr sprF oneM
  simp only [hr]
end Go.Proofs.Ytkodjioofkdepaa
