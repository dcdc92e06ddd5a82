/- Joined: the texts that follow, each with its own sentence. -/
import Derived.Test.YtiaopafkfadmkabGreatZVm
import Derived.Test.YtiaopafkfadmkabGreatZQe
import Derived.Test.YtiaopafkfadmkabGreatZVp
/- Proved: what WarpStates' walk goes by: messages of class 0, some done, the others waiting. -/
namespace Go.Proofs.YtiaopafkfadmkabGreat.V
open Go.RowKit Go.Shelf
set_option linter.unusedVariables false
set_option maxRecDepth 100000

theorem InB.cell {w : World} {a : Option Addr} {z : List Int} (h : InB w a z) {i : Nat} (hi : i < z.length) : ∃ v b off, 0 ≤ v ∧ v ≤ 255 ∧ a = some ⟨b, off, none⟩ ∧ ∀ W, Below w.heap.size w W → W.cell? ⟨b, off + i, none⟩ = some (.int .u8 v) ∧ b < W.heap.size := by
  obtain ⟨b, off, e1, e2, e3⟩ := h.2 (fun e => by rw [e] at hi; simp at hi)
  exact ⟨_, b, off, (h.1 i hi).1, (h.1 i hi).2, e1, fun W hW => ⟨(hW.cell (p := ⟨b, off + i, none⟩) e2).trans (e3 i hi), Nat.lt_of_lt_of_le e2 hW.size⟩⟩
/-- The message that comes at i. -/
def mi (t : Int) (i : Nat) : Mg := ((t, 1, (i : Int)), 0, 0, 0)
theorem mi_wf {t : Int} {i : Nat} (h0 : 0 ≤ t) (h1 : t ≤ 255) (hi : i ≤ 1000) : B.mwf (mi t i) := by
  refine ⟨⟨?_, ?_, ?_⟩, ?_, ?_, ?_⟩ <;> simp only [mi, B.i64] <;> omega
/-- What came is of class 0, from 1, numbered below i. -/
def Ms (i : Nat) (al : List Mg) : Prop := ∀ y ∈ al, y.2.2.1 = 0 ∧ 0 ≤ y.1.2.2 ∧ y.1.2.2 < (i : Int)
/-- Behind i messages: all that came, sorted; c of them are done. -/
structure Sa (n : Nat) (i : Nat) (al : List Mg) (c : Nat) (x : X) : Prop where
  rp : W.Rp (Bo n).F 0 0 al c x.nd
  fl : x.fl = 0
  ln : al.length = i
  ms : Ms i al
theorem Sa.zero (n : Nat) : Sa n 0 [] 0 (x0 0 0) := ⟨W.nil_rp _ 0 0, rfl, rfl, fun y hy => by cases hy⟩
theorem Sa.new {n i : Nat} {al : List Mg} {c : Nat} {x : X} (h : Sa n i al c x) (t : Int) : ∀ y ∈ al, y.1 ≠ (mi t i).1 := fun y hy e => by
  have h1 := (h.ms y hy).2.2
  rw [e] at h1
  simp [mi] at h1
theorem Sa.ins {n i : Nat} {al : List Mg} {c : Nat} {x : X} (h : Sa n i al c x) (t : Int) : Q.ins al (mi t i) = W.insM (mi t i) al := srt_ins h.rp.srt (h.new t)
theorem Sa.q {n i : Nat} {al : List Mg} {c : Nat} {x : X} (h : Sa n i al c x) : x.nd.q = al.drop c ∧ x.nd.p.length = c ∧ c ≤ i := by
  refine ⟨h.rp.q, ?_, by rw [← h.ln]; exact h.rp.le⟩
  rw [h.rp.p, W.tr_len, List.length_take]
  have := h.rp.le
  omega
theorem Sa.state {n i : Nat} {al : List Mg} {c : Nat} {x : X} (h : Sa n i al c x) : x.nd.s = (c : Int) % 2 := by
  have e : x.nd.s = (W.fin (Bo n).F 0 0 (al.take c)).1 := congrArg Prod.fst h.rp.s
  rw [e, (bo_fin n _ 0 (fun m hm => (h.ms m (List.mem_of_mem_take hm)).1)).1, List.length_take]
  have := h.rp.le
  rw [Nat.min_eq_left this]
theorem Sa.hear {n i : Nat} {al : List Mg} {c : Nat} {x : X} (h : Sa n i al c x) {t : Int} (h0 : 0 ≤ t) (hi : i ≤ 60) :
    hearE (Bo n) x 1 0 (mi t i) = 0 ∧ Sa n (i + 1) (W.insM (mi t i) al) (min c (W.pos (mi t i).1 al)) (hearX (Bo n) x 1 0 (mi t i)) := by
  have hq : Q.hasK x.nd.q (mi t i).1 = false := by
    rw [Bool.eq_false_iff]
    intro g
    obtain ⟨m, hm, e⟩ := hasK_iff.1 g
    rw [h.rp.q] at hm
    exact h.new t m (List.mem_of_mem_drop hm) e
  have hp : hasP x.nd.p (mi t i).1 = false := by
    rw [Bool.eq_false_iff]
    intro g
    obtain ⟨e, he, g2⟩ := hasP_iff.1 g
    have : e.m ∈ x.nd.p.map A.P.m := List.mem_map.2 ⟨e, he, rfl⟩
    rw [h.rp.p, W.tr_ms] at this
    exact h.new t _ (List.mem_of_mem_take this) g2
  have hA : hrA (Bo n) 1 = false := by kernel_rfl
  have hL : hrL (Bo n) x 1 (mi t i).1.1 = false := by
    unfold hrL
    rw [h.fl, (bo_kd n).2.1]
    simp [mi]
    omega
  obtain ⟨g1, g2, g3⟩ := h.q
  have hb : beh x.nd.p (mi t i).1 ≤ c := by
    unfold beh
    exact Nat.le_trans (List.length_filter_le _ _) (by rw [g2]; exact Nat.le_refl _)
  have hl : x.nd.q.length = i - c := by rw [g1, List.length_drop, h.ln]
  have hE : hearE (Bo n) x 1 0 (mi t i) = 0 := by
    unfold hearE
    rw [hA, hL, hq, hp]
    simp
    omega
  refine ⟨hE, ?_⟩
  have hX : hearX (Bo n) x 1 0 (mi t i) = { x with nd := W.plain (mi t i) x.nd } := by
    unfold hearX
    rw [if_pos hE]
    simp
  rw [hX]
  refine ⟨W.plain_rp h.rp _ (h.new t), h.fl, by rw [W.insM_len, h.ln], fun y hy => ?_⟩
  rcases (W.insM_mem _ _ _).1 hy with e | e
  · rw [e]
    refine ⟨rfl, ?_, ?_⟩ <;> simp only [mi] <;> omega
  · obtain ⟨q1, q2, q3⟩ := h.ms y e
    exact ⟨q1, q2, by omega⟩
theorem Sa.step {n i : Nat} {al : List Mg} {c : Nat} {x : X} (h : Sa n i al c x) : ∃ c', Sa n i al c' (stepX (Bo n) x) := by
  unfold stepX
  split
  case isFalse => exact ⟨c, h⟩
  case isTrue hE =>
    have := hd_cons (stepE_0 hE).1
    exact ⟨c + 1, W.step_rp h.rp this, h.fl, h.ln, h.ms⟩
/-- A node in use, and all that came to it as a row. -/
structure Sw (w0 : World) (n : Nat) (Z : Ad) (i : Nat) (v : Value) (al : List Mg) (c : Nat) (x : X) (T : Nat → Prop) (W : World) : Prop where
  pn : PN w0 (Bo n) (i + 2) x Z T W
  sa : Sa n i al c x
  ow : Q.Own W v al
  nt : ∀ k, v.ownBlock = some k → ¬ T k
theorem Sw.on {w0 : World} {n : Nat} {Z : Ad} {i : Nat} {v : Value} {al : List Mg} {c : Nat} {x : X} {T : Nat → Prop} {W W' : World} (h : Sw w0 n Z i v al c x T W) (hb : Below W.heap.size W W') : Sw w0 n Z i v al c x T W' :=
  ⟨h.pn.below hb, h.sa, h.ow.keep (toQ (B.Fr.of_below (S := fun _ => False) hb)) (fun _ _ g => g), h.nt⟩
/-- Stands at i. -/
def St (w0 : World) (n : Nat) (Z : Ad) (i : Nat) (v : Value) (W : World) : Prop := ∃ al c x T, Sw w0 n Z i v al c x T W
theorem St.on {w0 : World} {n : Nat} {Z : Ad} {i : Nat} {v : Value} {W W' : World} (h : St w0 n Z i v W) (hb : Below W.heap.size W W') : St w0 n Z i v W' := by
  obtain ⟨al, c, x, T, h⟩ := h
  exact ⟨al, c, x, T, h.on hb⟩
theorem St.bel {w0 : World} {n : Nat} {Z : Ad} {i : Nat} {v : Value} {W : World} (h : St w0 n Z i v W) : Below w0.heap.size w0 W := by
  obtain ⟨al, c, x, T, h⟩ := h
  exact h.pn.bel
/-- One more message: laid down, and heard. -/
def Sm (w0 : World) (n : Nat) (Z : Ad) (i : Nat) (t : Int) (v : Value) (V : World) : Prop := ∃ al c x T, PN w0 (Bo n) (i + 2) x Z T V ∧ Sa n i al c x ∧ Q.Own V v (W.insM (mi t i) al) ∧ ∀ k, v.ownBlock = some k → ¬ T k
theorem Sm.hear {w0 : World} {n : Nat} {Z : Ad} {i : Nat} {t : Int} {v : Value} {W : World} (h : Sm w0 n Z i t v W) (h0 : 0 ≤ t) (h1 : t ≤ 255) (hi : i ≤ 60) :
    Calls Tryz.prog 7 #[.pointer (some ⟨Z.nb, 0, none⟩), .int .i64 1, .agg #[.int .i64 0, .int .i64 t, .int .i64 1, .int .i64 (i : Int), .int .i64 0, .int .i64 0, .int .i64 0, .int .i64 0]] W fun e w' => ∃ u, e = .returned (.tuple #[u, .int .i64 0]) ∧ St w0 n Z (i + 1) v w' := by
  obtain ⟨al, c, x, T, h2, h3, h4, h5⟩ := h
  obtain ⟨e1, e2⟩ := h3.hear (t := t) h0 hi
  refine (op_hear h2 1 0 0 (mi t i) (by kernel_rfl) (mi_wf h0 h1 (by omega))).mono fun e w' ⟨T', a, n', cc, he, g1, g2, g3, g4⟩ => ?_
  rw [e1] at he
  exact ⟨_, he, _, _, _, T', g1, e2, h4.keep (toQ g2.fr) h5, fun k e g => h5 k e (g2.new k (h4.lt e) g)⟩
theorem St.step {w0 : World} {n : Nat} {Z : Ad} {i : Nat} {v : Value} {W : World} (h : St w0 n Z i v W) (hi : i ≤ 60) :
    Calls Tryz.prog 8 #[.pointer (some ⟨Z.nb, 0, none⟩)] W fun e w' => ∃ u, e = .returned u ∧ St w0 n Z i v w' := by
  obtain ⟨al, c, x, T, h⟩ := h
  obtain ⟨c', e2⟩ := h.sa.step
  exact (op_step h.pn (by omega)).mono fun e w' ⟨T', a, n', cc, he, g1, g2, g3, g4⟩ => ⟨_, he, al, c', _, T', g1, e2, h.ow.keep (toQ g2.fr) h.nt, fun k e g => h.nt k e (g2.new k (h.ow.lt e) g)⟩
end Go.Proofs.YtiaopafkfadmkabGreat.V
/- Proved: the calls that WarpTwice makes, as its walk goes by them. -/
namespace Go.Proofs.YtiaopafkfadmkabGreat.V
open Go.RowKit Go.Shelf
set_option linter.unusedVariables false
set_option maxRecDepth 100000

theorem InB.cell2 {w : World} {a : Option Addr} {z : List Int} (h : InB w a z) : ∃ f : Nat → Int, ∀ i, i < z.length → ∃ b off, 0 ≤ f i ∧ f i ≤ 255 ∧ a = some ⟨b, off, none⟩ ∧ ∀ W, Below w.heap.size w W → W.cell? ⟨b, off + i, none⟩ = some (.int .u8 (f i)) ∧ b < W.heap.size := by
  refine ⟨fun i => nthI z i, fun i hi => ?_⟩
  obtain ⟨b, off, e1, e2, e3⟩ := h.2 (fun e => by rw [e] at hi; simp at hi)
  exact ⟨b, off, (h.1 i hi).1, (h.1 i hi).2, e1, fun W hW => ⟨(hW.cell (p := ⟨b, off + i, none⟩) e2).trans (e3 i hi), Nat.lt_of_lt_of_le e2 hW.size⟩⟩
/-- So many messages came, each of its time. -/
def Tc (w : World) (n N : Nat) (Z : Ad) (i : Nat) (f : Nat → Int) (V : World) : Prop := ∃ al c x T, PN w (Bo n) N x Z T V ∧ Sa n i al c x ∧ ∀ j, j < i → ∃ y ∈ al, y.1 = (f j, 1, (j : Int))
theorem Tc.zero {w : World} {n : Nat} {Z : Ad} {T : Nat → Prop} {f : Nat → Int} {V : World} (h : PN w (Bo n) 2 (x0 0 0) Z T V) : Tc w n 2 Z 0 f V := ⟨[], 0, _, T, h, Sa.zero n, fun j hj => absurd hj (by omega)⟩
theorem Tc.bel {w : World} {n N : Nat} {Z : Ad} {i : Nat} {f : Nat → Int} {V : World} (h : Tc w n N Z i f V) : Below w.heap.size w V := by
  obtain ⟨al, c, x, T, h, _⟩ := h
  exact h.bel
theorem Tc.hear {w : World} {n N : Nat} {Z : Ad} {i : Nat} {f : Nat → Int} {V : World} (h : Tc w n N Z i f V) (h0 : 0 ≤ f i) (h1 : f i ≤ 255) (hi : i ≤ 60) :
    Calls Tryz.prog 7 #[.pointer (some ⟨Z.nb, 0, none⟩), .int .i64 1, .agg #[.int .i64 0, .int .i64 (f i), .int .i64 1, .int .i64 (i : Int), .int .i64 0, .int .i64 0, .int .i64 0, .int .i64 0]] V fun e w' => ∃ u, e = .returned u ∧ Tc w n (N + 1) Z (i + 1) f w' := by
  obtain ⟨al, c, x, T, h2, h3, h4⟩ := h
  obtain ⟨e1, e2⟩ := h3.hear (t := f i) h0 hi
  refine (op_hear h2 1 0 0 (mi (f i) i) (by kernel_rfl) (mi_wf h0 h1 (by omega))).mono fun e w' ⟨T', a, n', cc, he, g1, g2, g3, g4⟩ => ?_
  refine ⟨_, he, _, _, _, T', g1, e2, fun j hj => ?_⟩
  rcases Nat.lt_or_ge j i with g | g
  · obtain ⟨y, hy, e⟩ := h4 j g
    exact ⟨y, (W.insM_mem _ _ _).2 (.inr hy), e⟩
  · have : j = i := by omega
    subst this
    exact ⟨_, (W.insM_mem _ _ _).2 (.inl rfl), rfl⟩
theorem Tc.step {w : World} {n N : Nat} {Z : Ad} {i : Nat} {f : Nat → Int} {V : World} (h : Tc w n N Z i f V) (hN : N ≤ 300) :
    Calls Tryz.prog 8 #[.pointer (some ⟨Z.nb, 0, none⟩)] V fun e w' => ∃ u, e = .returned u ∧ Tc w n N Z i f w' := by
  obtain ⟨al, c, x, T, h2, h3, h4⟩ := h
  obtain ⟨c', e2⟩ := h3.step
  exact (op_step h2 (by omega)).mono fun e w' ⟨T', a, n', cc, he, g1, g2, g3, g4⟩ => ⟨_, he, al, c', _, T', g1, e2, h4⟩
/-- What came comes again. -/
theorem Tc.again {w : World} {n N : Nat} {Z : Ad} {i : Nat} {f : Nat → Int} {V : World} (h : Tc w n N Z i f V) {j : Nat} (hj : j < i) (h0 : 0 ≤ f j) (h1 : f j ≤ 255) (hi : j ≤ 60) :
    Calls Tryz.prog 7 #[.pointer (some ⟨Z.nb, 0, none⟩), .int .i64 1, .agg #[.int .i64 0, .int .i64 (f j), .int .i64 1, .int .i64 (j : Int), .int .i64 0, .int .i64 0, .int .i64 5, .int .i64 0]] V fun e w' => ∃ u, e = .returned (.tuple #[u, .int .i64 3]) ∧ Tc w n (N + 1) Z i f w' := by
  obtain ⟨al, c, x, T, h2, h3, h4⟩ := h
  obtain ⟨y, hy, ey⟩ := h4 j hj
  have hL : hrL (Bo n) x 1 (f j) = false := by
    unfold hrL
    rw [h3.fl, (bo_kd n).2.1]
    simp
    omega
  have hA : hrA (Bo n) 1 = false := by kernel_rfl
  have hor : Q.hasK x.nd.q (f j, 1, (j : Int)) = true ∨ hasP x.nd.p (f j, 1, (j : Int)) = true := by
    rw [← List.take_append_drop c al] at hy
    rcases List.mem_append.1 hy with g | g
    · right
      have : y ∈ x.nd.p.map A.P.m := by rw [h3.rp.p, W.tr_ms]; exact g
      obtain ⟨e, he, e2⟩ := List.mem_map.1 this
      exact hasP_iff.2 ⟨e, he, by rw [e2, ey]⟩
    · left
      rw [← h3.rp.q] at g
      exact hasK_iff.2 ⟨y, g, ey⟩
  have hE : hearE (Bo n) x 1 0 ((f j, 1, (j : Int)), 0, 0, 5) = 3 := by
    unfold hearE
    rw [hA, hL]
    simp [hor]
  have hX : hearX (Bo n) x 1 0 ((f j, 1, (j : Int)), 0, 0, 5) = x := by
    unfold hearX
    rw [hE]
    simp
  have hwf : B.mwf ((f j, 1, (j : Int)), 0, 0, 5) := by
    refine ⟨⟨?_, ?_, ?_⟩, ?_, ?_, ?_⟩ <;> simp only [B.i64] <;> omega
  refine (op_hear h2 1 0 0 ((f j, 1, (j : Int)), 0, 0, 5) (by kernel_rfl) hwf).mono fun e w' ⟨T', a, n', cc, he, g1, g2, g3, g4⟩ => ?_
  rw [hE] at he
  rw [hX] at g1
  exact ⟨_, he, al, c, x, T', g1, h3, h4⟩
/-! ### Settled -/
def Ta (w : World) (n N : Nat) (Z : Ad) (V : World) : Prop := ∃ x T, PN w (Bo n) N x Z T V
def Tf (w : World) (n N : Nat) (Z : Ad) (fl : Int) (V : World) : Prop := ∃ x T, PN w (Bo n) N x Z T V ∧ x.fl = fl
theorem Tc.any {w : World} {n N : Nat} {Z : Ad} {i : Nat} {f : Nat → Int} {V : World} (h : Tc w n N Z i f V) {M : Nat} (hM : N ≤ M) : Ta w n M Z V := by
  obtain ⟨al, c, x, T, h2, h3, h4⟩ := h
  exact ⟨x, T, h2.mono hM⟩
theorem Ta.bound {w : World} {n N : Nat} {Z : Ad} {V : World} (h : Ta w n N Z V) :
    Calls Tryz.prog 7 #[.pointer (some ⟨Z.nb, 0, none⟩), .int .i64 2, .agg #[.int .i64 2, .int .i64 1125899906842624, .int .i64 0, .int .i64 0, .int .i64 0, .int .i64 0, .int .i64 0, .int .i64 0]] V fun e w' => ∃ u, e = .returned u ∧ Ta w n (N + 1) Z w' := by
  obtain ⟨x, T, h⟩ := h
  have hwf : B.mwf ((1125899906842624, 0, 0), 0, 0, 0) := by
    refine ⟨⟨?_, ?_, ?_⟩, ?_, ?_, ?_⟩ <;> simp only [B.i64] <;> omega
  exact (op_hear h 2 2 0 ((1125899906842624, 0, 0), 0, 0, 0) (by kernel_rfl) hwf).mono fun e w' ⟨T', a, n', cc, he, g1, g2, g3, g4⟩ => ⟨_, he, _, T', g1⟩
theorem Ta.local {w : World} {n N : Nat} {Z : Ad} {V : World} (h : Ta w n N Z V) :
    Calls Tryz.prog 10 #[.pointer (some ⟨Z.nb, 0, none⟩)] V fun e w' => ∃ t, e = .returned (.int .i64 t) ∧ Ta w n N Z w' := by
  obtain ⟨x, T, h⟩ := h
  exact (op_local h).mono fun e w' ⟨he, hb⟩ => ⟨_, he, x, T, h.below hb⟩
theorem Ta.commit {w : World} {n N : Nat} {Z : Ad} {V : World} (h : Ta w n N Z V) (t : Int) (hN : N ≤ 300) :
    Calls Tryz.prog 9 #[.pointer (some ⟨Z.nb, 0, none⟩), .int .i64 t] V fun e w' => ∃ u, e = .returned u ∧ ∃ fl, 0 ≤ fl ∧ fl ≤ 1125899906842624 ∧ Tf w n N Z fl w' := by
  obtain ⟨x, T, h⟩ := h
  refine (op_commit h t (by omega)).mono fun e w' ⟨T', a, n1, c, a2, n2, c2, he, g1, g2, g3, g4⟩ => ⟨_, he, _, ?_, ?_, _, T', g1, rfl⟩
  · obtain ⟨D, f, F, v, _, _, h3, _⟩ := g1
    exact h3.f0.1
  · obtain ⟨D, f, F, v, _, _, h3, _⟩ := g1
    exact h3.f0.2
theorem Tf.floor {w : World} {n N : Nat} {Z : Ad} {fl : Int} {V : World} (h : Tf w n N Z fl V) :
    Calls Tryz.prog 11 #[.pointer (some ⟨Z.nb, 0, none⟩)] V fun e w' => e = .returned (.int .i64 fl) ∧ V = w' := by
  obtain ⟨x, T, h, rfl⟩ := h
  exact op_floor h
theorem Tf.bel {w : World} {n N : Nat} {Z : Ad} {fl : Int} {V : World} (h : Tf w n N Z fl V) : Below w.heap.size w V := by
  obtain ⟨x, T, h, rfl⟩ := h
  exact h.bel
/-- Below what is settled nothing is taken. -/
theorem Tf.early {w : World} {n N : Nat} {Z : Ad} {fl : Int} {V : World} (h : Tf w n N Z fl V) {t k : Int} (ht : t + 1 = fl) (h0 : 0 ≤ fl) (h1 : fl ≤ 1125899906842624) (hk : k = 0 ∨ k = 1) :
    Calls Tryz.prog 7 #[.pointer (some ⟨Z.nb, 0, none⟩), .int .i64 1, .agg #[.int .i64 k, .int .i64 t, .int .i64 1, .int .i64 99, .int .i64 0, .int .i64 0, .int .i64 0, .int .i64 0]] V fun e w' => ∃ u, e = .returned (.tuple #[u, .int .i64 110]) ∧ Tf w n (N + 1) Z fl w' := by
  obtain ⟨x, T, h, rfl⟩ := h
  have hL : hrL (Bo n) x 1 t = true := by
    unfold hrL
    simp
    omega
  have hA : hrA (Bo n) 1 = false := by kernel_rfl
  have hk1 : ¬ (Bo n).kd 1 = 0 := by rw [(bo_kd n).2.1]; decide
  have hE : hearE (Bo n) x 1 k ((t, 1, 99), 0, 0, 0) = 110 := by
    unfold hearE
    rw [hA, hL]
    rcases hk with rfl | rfl
    · simp
    · simp [hk1]
  have hX : hearX (Bo n) x 1 k ((t, 1, 99), 0, 0, 0) = x := by
    unfold hearX
    rw [hE]
    simp
  have hwf : B.mwf ((t, 1, 99), 0, 0, 0) := by
    refine ⟨⟨?_, ?_, ?_⟩, ?_, ?_, ?_⟩ <;> simp only [B.i64] <;> omega
  refine (op_hear h 1 k 0 ((t, 1, 99), 0, 0, 0) (by kernel_rfl) hwf).mono fun e w' ⟨T', a, n', cc, he, g1, g2, g3, g4⟩ => ?_
  rw [hE] at he
  rw [hX] at g1
  exact ⟨_, he, x, T', g1, rfl⟩
end Go.Proofs.YtiaopafkfadmkabGreat.V
