/- Joined: the texts that follow, each with its own sentence. -/
import Derived.Test.YtiaopafkfadmkaaGreatZJf
set_option linter.unusedVariables false
set_option maxRecDepth 100000
namespace Go.Proofs.YtiaopafkfadmkaaGreat
open Go.RowKit Go.Shelf
structure Sub (w w' : World) : Prop where
 size : w.heap.size ≤ w'.heap.size
 cell : ∀ p v, w.cell? p = some v → w'.cell? p = some v
theorem RdI.sub {w w' : World} {a : Option Addr} {zs : List Int} (h : RdI w w.heap.size a zs) (hs : Sub w w') : RdI w' w'.heap.size a zs := fun g => by
 obtain ⟨b, off, rfl, hB, hc⟩ := h g
 exact ⟨b, off, rfl, Nat.lt_of_lt_of_le hB hs.size, fun i hi => hs.cell _ _ (hc i hi)⟩
theorem some_of {l : List Value} {c n : Nat} (hl : l.length = n) (hc : c < n) : ∃ v, l[c]? = some v := ⟨_, List.getElem?_eq_getElem (by omega)⟩
theorem RdO.sub {w w' : World} {a : Option Addr} {l : List O} (h : RdO w a l) (hs : Sub w w') : RdO w' a l := fun g => by
 obtain ⟨b, off, rfl, hB, hc⟩ := h g
 refine ⟨b, off, rfl, Nat.lt_of_lt_of_le hB hs.size, fun i hi c hc3 => ?_⟩
 obtain ⟨v, hv⟩ := some_of (l := encO (nthO l i)) (n := 3) rfl hc3
 rw [hv]
 exact hs.cell _ _ ((hc i hi c hc3).trans hv)
theorem RdR.sub {w w' : World} {a : Option Addr} {l : List Rl} (h : RdR w a l) (hs : Sub w w') : RdR w' a l := by
 refine ⟨fun g => ?_, fun r hr => ⟨(h.2 r hr).1, (h.2 r hr).2.1, (h.2 r hr).2.2.sub hs⟩⟩
 obtain ⟨b, off, rfl, hB, hc⟩ := h.1 g
 refine ⟨b, off, rfl, Nat.lt_of_lt_of_le hB hs.size, fun i hi c hc3 => ?_⟩
 obtain ⟨v, hv⟩ := some_of (l := encR (nthR l i)) (n := 4) rfl hc3
 rw [hv]
 exact hs.cell _ _ ((hc i hi c hc3).trans hv)
theorem okF.sub {w w' : World} {f : Fd} (h : okF w f) (hs : Sub w w') : okF w' f := ⟨h.r.sub hs, h.p.sub hs, h.s.sub hs, h.i.sub hs⟩
theorem RdF.sub {w w' : World} {a : Option Addr} {l : List Fd} (h : RdF w a l) (hs : Sub w w') : RdF w' a l := by
 refine ⟨fun g => ?_, fun f hf => (h.2 f hf).sub hs⟩
 obtain ⟨b, off, rfl, hB, hc⟩ := h.1 g
 refine ⟨b, off, rfl, Nat.lt_of_lt_of_le hB hs.size, fun i hi c hc3 => ?_⟩
 obtain ⟨v, hv⟩ := some_of (l := encF (nthF l i)) (n := 7) rfl hc3
 rw [hv]
 exact hs.cell _ _ ((hc i hi c hc3).trans hv)
theorem Ww.sub {w w' : World} {d : Wd} (h : Ww w d) (hs : Sub w w') : Ww w' d := ⟨h.p.sub hs, h.f.sub hs, h.pl, h.fl, h.lt⟩
def mask (S : Nat → Bool) (W : World) : World := { W with heap := W.heap.mapIdx (fun i o => if S i = true then .cells #[] 0 else o) }
theorem mask_size (S : Nat → Bool) (W : World) : (mask S W).heap.size = W.heap.size := by simp [mask]
theorem mask_get {S : Nat → Bool} {W : World} {k : Nat} (h : S k = false) : (mask S W).heap[k]? = W.heap[k]? := by
 simp [mask, h]
theorem mask_cell {S : Nat → Bool} {W : World} {p : Addr} {v : Value} (h : (mask S W).cell? p = some v) : S p.block = false ∧ W.cell? p = some v := by
 cases hS : S p.block with
 | false => exact ⟨rfl, (World.cell?_of_block (mask_get hS)).symm.trans h⟩
 | true =>
  exfalso
  have hl := clt h
  rw [mask_size] at hl
  have e : (mask S W).heap[p.block]? = some (.cells #[] 0) := by simp [mask, hS, hl]
  simp [World.cell?, e] at h
theorem mask_cell_of {S : Nat → Bool} {W : World} {p : Addr} (h : S p.block = false) : (mask S W).cell? p = W.cell? p := World.cell?_of_block (mask_get h)
theorem sub_mask {S S' : Nat → Bool} {W W' : World} (hs : W.heap.size ≤ W'.heap.size) (h : ∀ k, k < W.heap.size → S k = false → S' k = false ∧ W'.heap[k]? = W.heap[k]?) : Sub (mask S W) (mask S' W') := by
 refine ⟨by rw [mask_size, mask_size]; exact hs, fun p v e => ?_⟩
 obtain ⟨h1, h2⟩ := mask_cell e
 obtain ⟨h3, h4⟩ := h p.block (clt h2) h1
 rw [mask_cell_of h3, World.cell?_of_block h4]
 exact h2
theorem sub_of_mask {S : Nat → Bool} {W W' : World} (hs : W.heap.size ≤ W'.heap.size) (h : ∀ k, k < W.heap.size → S k = false → W'.heap[k]? = W.heap[k]?) : Sub (mask S W) W' := by
 refine ⟨by rw [mask_size]; exact hs, fun p v e => ?_⟩
 obtain ⟨h1, h2⟩ := mask_cell e
 rw [World.cell?_of_block (h p.block (clt h2) h1)]
 exact h2
theorem RdI.mask {S : Nat → Bool} {W : World} {a : Option Addr} {zs : List Int} (h : RdI W W.heap.size a zs) (hS : ∀ g off, a = some ⟨g, off, none⟩ → S g = false) : RdI (mask S W) (mask S W).heap.size a zs := fun g => by
 obtain ⟨b, off, rfl, hB, hc⟩ := h g
 exact ⟨b, off, rfl, by rw [mask_size]; exact hB, fun i hi => (mask_cell_of (p := ⟨b, off + i, none⟩) (hS b off rfl)).trans (hc i hi)⟩
theorem RdO.mask {S : Nat → Bool} {W : World} {a : Option Addr} {l : List O} (h : RdO W a l) (hS : ∀ g off, a = some ⟨g, off, none⟩ → S g = false) : RdO (mask S W) a l := fun g => by
 obtain ⟨b, off, rfl, hB, hc⟩ := h g
 exact ⟨b, off, rfl, by rw [mask_size]; exact hB, fun i hi c hc3 => (mask_cell_of (p := ⟨b, off + i * 3 + c, none⟩) (hS b off rfl)).trans (hc i hi c hc3)⟩
def CsR (w : World) (a : Option Addr) (l : List Rl) : Prop := l ≠ [] → ∃ b off, a = some ⟨b, off, none⟩ ∧ b < w.heap.size ∧ ∀ i, i < l.length → ∀ c, c < 4 → w.cell? ⟨b, off + i * 4 + c, none⟩ = (encR (nthR l i))[c]?
theorem CsR.mask {S : Nat → Bool} {W : World} {a : Option Addr} {l : List Rl} (h : CsR W a l) (hS : ∀ g off, a = some ⟨g, off, none⟩ → S g = false) : CsR (mask S W) a l := fun g => by
 obtain ⟨b, off, rfl, hB, hc⟩ := h g
 exact ⟨b, off, rfl, by rw [mask_size]; exact hB, fun i hi c hc3 => (mask_cell_of (p := ⟨b, off + i * 4 + c, none⟩) (hS b off rfl)).trans (hc i hi c hc3)⟩
def LikR (r' r : Rl) : Prop := r'.st = r.st ∧ r'.cl = r.cl ∧ r'.nx = r.nx ∧ r'.os = r.os
structure LikF (f' f : Fd) : Prop where
 st : f'.st = f.st
 ss : f'.ss = f.ss
 rl : f'.rs.length = f.rs.length
 rs : ∀ i, i < f.rs.length → LikR (nthR f'.rs i) (nthR f.rs i)
 lt : LtF f'
structure Lik (D' D : Wd) : Prop where
 ps : D'.ps = D.ps
 en : D'.en = D.en
 fl : D'.fs.length = D.fs.length
 fs : ∀ i, i < D.fs.length → LikF (nthF D'.fs i) (nthF D.fs i)
theorem stp_lik {l' l : List Rl} (hl : l'.length = l.length) (h : ∀ i, i < l.length → LikR (nthR l' i) (nthR l i)) (s c : Int) : stp l' s c = stp l s c := by
 have hb : ∀ i, i < l.length → isB s c (nthR l' i) = isB s c (nthR l i) := fun i hi => by
  obtain ⟨h1, h2, _, _⟩ := h i hi
  unfold isB
  rw [h1, h2]
 have hf : fnd l' s c = fnd l s c := by
  rw [fnd_idx, fnd_idx]
  rcases idxP_cases (isB s c) l with ⟨e, hn⟩ | ⟨k, hk, e, h1, h2⟩
  ·rw [e]
   exact idxP_no (fun i hi => by rw [hb i (by omega)]; exact hn _ (nthR_mem (by omega)))
  ·rw [e]
   exact idxP_at (fun i hi => by rw [hb i (by omega)]; exact h2 i hi) (by omega) (by rw [hb k hk]; exact h1)
 unfold stp
 rw [hf]
 split
 ·rfl
 ·rename_i hneg
  rcases idxP_cases (isB s c) l with ⟨e, hn⟩ | ⟨k, hk, e, h1, h2⟩
  ·exfalso
   rw [fnd_idx, e] at hneg
   omega
  ·rw [fnd_idx, e]
   obtain ⟨_, _, h3, h4⟩ := h k hk
   simp only [Int.toNat_natCast]
   rw [h3, h4]
end Go.Proofs.YtiaopafkfadmkaaGreat
namespace Go.Proofs.YtiaopafkfadmkaaGreat
open Go.RowKit Go.Shelf
theorem infoI : (Tryz.prog.info? 3).map (fun i => (i.zero, i.size, i.bytes)) = some (some (.int .i64 0), 1, 8) := by kernel_rfl
theorem infoR : (Tryz.prog.info? 86).map (fun i => (i.zero, i.size, i.bytes)) = some (some (.agg #[.int .i64 0, .int .i64 0, .int .i64 0, .slice none 0 0]), 4, 48) := by kernel_rfl
theorem shape_of {w' : World} {b0 e size n : Nat} {v' : Value} {ys : List Value} (h : w'.ownsRow b0 e size v' n ys) : ∃ a' c', v' = .slice a' n c' := by
 rcases h.2 with ⟨rfl, hn⟩ | ⟨g, cap, cur, rfl, _⟩
 ·exact ⟨none, 0, by rw [hn]⟩
 ·exact ⟨_, _, rfl⟩
theorem appI (w : World) (a : Option Addr) (n c : Nat) (ys : List Value) (hlen : ys.length = n * 1) (hn : n ≤ 10000) (hone : ∀ v ∈ ys, v.oneCell' = true)
  (hc : n ≠ 0 → ∃ b off, a = some ⟨b, off, none⟩ ∧ b < w.heap.size ∧ ∀ j u, ys[j]? = some u → w.cell? ⟨b, off + j, none⟩ = some u) (ty : TypeId) :
  ∃ a' c' w', (Builtin.append_ #[22, 22] ty #[.slice (some ⟨w.heap.size, 0, none⟩) 0 0, .slice a n c]).run Tryz.prog (w.alloc (.cells #[] 3)) = .ok (.slice a' n c') w' ∧ w'.ownsRow w.heap.size 3 1 (.slice a' n c') n ys ∧ Below w.heap.size w w' := by
 obtain ⟨i0, hi0, hz0, hz1, hz2⟩ := info_parts infoI
 have hm : (w.alloc (.cells #[] 3)).ownsRow w.heap.size 3 1 (.slice (some ⟨w.heap.size, 0, none⟩) 0 0) 0 [] := World.ownsRow_made w #[] 0 (Nat.le_refl _) (Nat.zero_le _) (by simp)
 have hb := al w (.cells #[] 3)
 cases a with
 | none =>
  have h0 : n = 0 := Classical.byContradiction fun g => by
   obtain ⟨b, off, e, _⟩ := hc g
   cases e
  subst h0
  have hy : ys = [] := List.length_eq_zero_iff.1 (by omega)
  subst hy
  have hr := run_append_owned_none (P := Tryz.prog) _ w.heap.size 22 ty 3 i0 1 Tryz.underlying22 hi0 _ 0 [] hm
  exact ⟨_, _, _, (by first | exact hr | (have := hr; simpa using this)), hm, hb⟩
 | some ad =>
  obtain ⟨v', w', hr, h3, h4, h5, h6⟩ := run_append_own_at (P := Tryz.prog) _ w.heap.size 22 ty 3 i0 _ 1 8 Tryz.underlying22 hi0 hz0 hz1 hz2 rfl (by decide) _ 0 [] hm ad n c ys hlen (fun j u hj => by
   have hj' : j < n * 1 := by have := (List.getElem?_eq_some_iff.1 hj).1; omega
   obtain ⟨b, off, e, hB, hcc⟩ := hc (by intro e; simp [e] at hj')
   simp at e
   subst e
   rw [Addr.add_lit]
   exact (hb.cell (p := ⟨b, off + j, none⟩) hB).trans (hcc j u hj)) hone (by unfold maxLen; omega) (by omega) hb.size
  rw [Nat.zero_add, List.nil_append] at h3
  obtain ⟨a', c', rfl⟩ := shape_of h3
  exact ⟨a', c', w', hr, h3, hb.grown h4 hb.size (fun k e => by simp [Value.ownBlock] at e; omega)⟩
set_option maxHeartbeats 400000 in
theorem cloneI_any (w : World) (a : Option Addr) (n c : Nat) (ys : List Value) (hlen : ys.length = n * 1) (hn : n ≤ 10000) (hone : ∀ v ∈ ys, v.oneCell' = true)
  (hc : n ≠ 0 → ∃ b off, a = some ⟨b, off, none⟩ ∧ b < w.heap.size ∧ ∀ j u, ys[j]? = some u → w.cell? ⟨b, off + j, none⟩ = some u) :
  Calls Tryz.prog 97 #[.slice a n c] w fun e w' => ∃ a' c', e = .returned (.slice a' n c') ∧ w'.ownsRow w.heap.size 3 1 (.slice a' n c') n ys ∧ Below w.heap.size w w' := by
 have q22 : ∀ (w : World) (a : Option Addr) (n c n' c' : Nat), (binOp .eql 22 (.slice a n c) (.slice none n' c')).run Tryz.prog w = .ok (.bool a.isNone) w := fun w a n c n' c' => Lib.run_eql_slice_nil w _ _ a n c n' c' Tryz.underlying22
 cases a with
 | none =>
  have h0 : n = 0 := Classical.byContradiction fun g => by
   obtain ⟨b, off, e, _⟩ := hc g
   cases e
  subst h0
  have hy : ys = [] := List.length_eq_zero_iff.1 (by omega)
  subst hy
  clear hc hone hlen
  go_enter Tryz.func97, Tryz.ntmps97
  go_wp2
  go_ret
  exact ⟨_, _, rfl, World.ownsRow_nil _ _ _ _, Below.refl _ _⟩
 | some ad =>
  obtain ⟨a', c', w', hrun, ho, hb⟩ := appI w (some ad) n c ys hlen hn hone hc 22
  have HRUN : Hid _ := hrun
  clear hc hone hlen hrun
  go_enter Tryz.func97, Tryz.ntmps97
  go_wp2_with (at_builtin; refine wpList_append_run _ rfl _ _ 22 rfl rfl rfl HRUN.out ?_)
  go_ret
  exact ⟨_, _, rfl, ho, hb⟩
theorem getI (l : List Int) (j : Nat) (u : Value) (h : (l.map (Value.int .i64))[j]? = some u) : j < l.length ∧ u = .int .i64 (nthI l j) := by
 rw [List.getElem?_map] at h
 obtain ⟨x, hx, rfl⟩ := Option.map_eq_some_iff.1 h
 obtain ⟨hj, e⟩ := List.getElem?_eq_some_iff.1 hx
 exact ⟨hj, by simp [nthI, hj, e]⟩
theorem cloneInts (w : World) (a : Option Addr) (c : Nat) (l : List Int) (h : RdI w w.heap.size a l) (hl : l.length ≤ 10000) :
  Calls Tryz.prog 97 #[.slice a l.length c] w fun e w' => ∃ a' c', e = .returned (.slice a' l.length c') ∧ w'.ownsRow w.heap.size 3 1 (.slice a' l.length c') l.length (l.map (Value.int .i64)) ∧ Below w.heap.size w w' :=
 cloneI_any w a l.length c _ (by simp) hl (fun v hv => by obtain ⟨x, _, rfl⟩ := List.mem_map.1 hv; rfl) (fun g => by
  obtain ⟨b, off, e, hB, hc⟩ := h (fun e => g (by simp [e]))
  refine ⟨b, off, e, hB, fun j u hj => ?_⟩
  obtain ⟨h1, rfl⟩ := getI l j u hj
  exact hc j h1)
theorem rdI_row {w' : World} {b0 : Nat} {a' : Option Addr} {c' : Nat} {l : List Int} (h : w'.ownsRow b0 3 1 (.slice a' l.length c') l.length (l.map (Value.int .i64))) : RdI w' w'.heap.size a' l := by
 have h0 := h
 rcases h.2 with ⟨e, hn⟩ | ⟨g, cap, cur, e, _, hg, _⟩
 ·exact fun g => absurd (List.length_eq_zero_iff.1 hn) g
 ·simp at e
  obtain ⟨rfl, rfl⟩ := e
  refine fun _ => ⟨g, 0, rfl, (Array.getElem?_eq_some_iff.1 hg).1, fun i hi => ?_⟩
  rw [Nat.zero_add, World.ownsRow.cellAt h0 _ (by omega)]
  simp [nthI, hi]
theorem encR_len (r : Rl) : (encR r).length = 4 := rfl
theorem encR_one (r : Rl) : ∀ v ∈ encR r, v.oneCell' = true := by
 intro v hv
 simp [encR] at hv
 rcases hv with rfl | rfl | rfl | rfl <;> rfl
def flatR (l : List Rl) : List Value := l.flatMap encR
theorem flatR_len (l : List Rl) : (flatR l).length = l.length * 4 := by
 induction l with
 | nil => rfl
 | cons x r ih => simp only [flatR, List.flatMap_cons, List.length_append, encR_len, List.length_cons] at *; omega
theorem flatR_get (l : List Rl) (i c : Nat) (hi : i < l.length) (hc : c < 4) : (flatR l)[i * 4 + c]? = (encR (nthR l i))[c]? := by
 induction l generalizing i with
 | nil => simp at hi
 | cons x r ih =>
  rw [show flatR (x :: r) = encR x ++ flatR r by simp [flatR]]
  cases i with
  | zero => rw [List.getElem?_append_left (by rw [encR_len]; omega)]; simp [nthR]
  | succ j =>
   rw [List.getElem?_append_right (by rw [encR_len]; omega), encR_len, show (j + 1) * 4 + c - 4 = j * 4 + c by omega, ih j (by simpa using hi)]
   simp [nthR]
theorem flatR_one (l : List Rl) : ∀ v ∈ flatR l, v.oneCell' = true := by
 intro v hv
 obtain ⟨m, _, h⟩ := List.mem_flatMap.1 hv
 exact encR_one m v h
theorem flat_div {j n k : Nat} (h : j < n * k) (hk : 0 < k) : j / k < n ∧ j % k < k ∧ j / k * k + j % k = j :=
 ⟨Nat.div_lt_of_lt_mul (by rw [Nat.mul_comm]; exact h), Nat.mod_lt _ hk, by rw [Nat.mul_comm]; exact Nat.div_add_mod _ _⟩
theorem csR_row {w' : World} {b0 : Nat} {a' : Option Addr} {c' : Nat} {l : List Rl} (h : w'.ownsRow b0 86 4 (.slice a' l.length c') l.length (flatR l)) : CsR w' a' l := by
 have h0 := h
 rcases h.2 with ⟨e, hn⟩ | ⟨g, cap, cur, e, _, hg, _⟩
 ·exact fun g => absurd (List.length_eq_zero_iff.1 hn) g
 ·simp at e
  obtain ⟨rfl, rfl⟩ := e
  refine fun _ => ⟨g, 0, rfl, (Array.getElem?_eq_some_iff.1 hg).1, fun i hi c hc => ?_⟩
  rw [Nat.zero_add, World.ownsRow.cellAt h0 _ (by omega), flatR_get l i c hi hc]
end Go.Proofs.YtiaopafkfadmkaaGreat
namespace Go.Proofs.YtiaopafkfadmkaaGreat
open Go.RowKit Go.Shelf
theorem own_lt {w : World} {b0 e size n : Nat} {v : Value} {xs : List Value} (h : w.ownsRow b0 e size v n xs) {g : Nat} (hg : v.ownBlock = some g) : g < w.heap.size ∧ b0 ≤ g := by
 rcases h.2 with ⟨rfl, hn⟩ | ⟨g', cap, cur, rfl, hb, hh, _⟩
 ·simp [Value.ownBlock] at hg
 ·simp [Value.ownBlock] at hg
  subst hg
  exact ⟨(Array.getElem?_eq_some_iff.1 hh).1, hb⟩
theorem own_below {w W : World} {b0 e size n : Nat} {v : Value} {xs : List Value} (h : w.ownsRow b0 e size v n xs) (hb : Below w.heap.size w W) : W.ownsRow b0 e size v n xs := by
 refine ⟨h.1, ?_⟩
 rcases h.2 with g | ⟨g, cap, cur, h1, h2, h3, h4⟩
 ·exact .inl g
 ·exact .inr ⟨g, cap, cur, h1, h2, (hb.block g (Array.getElem?_eq_some_iff.1 h3).1).trans h3, h4⟩
theorem own_keep {S : Nat → Prop} {w W : World} {b0 e size n : Nat} {v : Value} {xs : List Value} (h : w.ownsRow b0 e size v n xs) (hf : Fr S w W) (hs : ∀ g, v.ownBlock = some g → ¬ S g) : W.ownsRow b0 e size v n xs := by
 refine ⟨h.1, ?_⟩
 rcases h.2 with g | ⟨g, cap, cur, h1, h2, h3, h4⟩
 ·exact .inl g
 ·subst h1
  exact .inr ⟨g, cap, cur, rfl, h2, (hf.block g (Array.getElem?_eq_some_iff.1 h3).1 (hs g rfl)).trans h3, h4⟩
abbrev dv (x : Dn) : Value := .agg #[.int .i64 x.m.t, .int .i64 x.m.fr, .int .i64 x.m.sq, .int .i64 x.m.dst, .int .i64 x.m.cl, .int .i64 x.m.bd, .int .i64 x.s]
abbrev dcs (x : Dn) : Array Value := #[.int .i64 x.m.t, .int .i64 x.m.fr, .int .i64 x.m.sq, .int .i64 x.m.dst, .int .i64 x.m.cl, .int .i64 x.m.bd, .int .i64 x.s]
def encD (x : Dn) : List Value := [.int .i64 x.m.t, .int .i64 x.m.fr, .int .i64 x.m.sq, .int .i64 x.m.dst, .int .i64 x.m.cl, .int .i64 x.m.bd, .int .i64 x.s]
def RdD (w : World) (a : Option Addr) (l : List Dn) : Prop :=
 l ≠ [] → ∃ b off, a = some ⟨b, off, none⟩ ∧ b < w.heap.size ∧ ∀ i, i < l.length → ∀ c, c < 7 → w.cell? ⟨b, off + i * 7 + c, none⟩ = (encD (nthD l i))[c]?
theorem RdD.below {w w' : World} {a : Option Addr} {l : List Dn} (h : RdD w a l) (hb : Below w.heap.size w w') : RdD w' a l := fun g => by
 obtain ⟨b, off, rfl, hB, hc⟩ := h g
 exact ⟨b, off, rfl, Nat.lt_of_lt_of_le hB hb.size, fun i hi c hc3 => (hb.cell (p := ⟨b, off + i * 7 + c, none⟩) hB).trans (hc i hi c hc3)⟩
theorem RdD.cells {w : World} {a : Option Addr} {l : List Dn} (h : RdD w a l) {i : Nat} (hi : i < l.length) {x : Dn} (hx : nthD l i = x) :
  ∃ b off, a = some ⟨b, off, none⟩ ∧ b < w.heap.size ∧ w.cell? ⟨b, off + i * 7, none⟩ = some (.int .i64 x.m.t) ∧ w.cell? ⟨b, off + i * 7 + 1, none⟩ = some (.int .i64 x.m.fr) ∧ w.cell? ⟨b, off + i * 7 + 2, none⟩ = some (.int .i64 x.m.sq) ∧ w.cell? ⟨b, off + i * 7 + 3, none⟩ = some (.int .i64 x.m.dst) ∧ w.cell? ⟨b, off + i * 7 + 4, none⟩ = some (.int .i64 x.m.cl) ∧ w.cell? ⟨b, off + i * 7 + 5, none⟩ = some (.int .i64 x.m.bd) ∧ w.cell? ⟨b, off + i * 7 + 6, none⟩ = some (.int .i64 x.s) := by
 obtain ⟨b, off, rfl, hB, hc⟩ := h (by intro e; simp [e] at hi)
 subst hx
 exact ⟨b, off, rfl, hB, hc i hi 0 (by omega), hc i hi 1 (by omega), hc i hi 2 (by omega), hc i hi 3 (by omega), hc i hi 4 (by omega), hc i hi 5 (by omega), hc i hi 6 (by omega)⟩
end Go.Proofs.YtiaopafkfadmkaaGreat
