/- Joined: the texts that follow, each with its own sentence. -/
import Derived.Test.YtiaopafkfadmkaaGreatZVm
import Derived.Test.YtiaopafkfadmkaaGreatZQe
import Derived.Test.YtiaopafkfadmkaaGreatZLn
import Derived.Test.YtiaopafkfadmkaaGreatZJg
import Derived.Test.YtiaopafkfadmkaaGreatZVb
import Derived.Deep.QuietTactic
import Derived.BigQuiet
import Derived.Test.YtiaopafkfadmkaaGreatZIt
/- Proved: what WarpStates' walk goes by: messages of class 0, some done, the others waiting. -/
namespace Go.Proofs.YtiaopafkfadmkaaGreat.V
open Go.RowKit Go.Shelf
set_option linter.unusedVariables false
set_option maxRecDepth 100000

theorem InB.cell {w : World} {a : Option Addr} {z : List Int} (h : InB w a z) {i : Nat} (hi : i < z.length) : ∃ v b off, 0 ≤ v ∧ v ≤ 255 ∧ a = some ⟨b, off, none⟩ ∧ ∀ W, Below w.heap.size w W → W.cell? ⟨b, off + i, none⟩ = some (.int .u8 v) ∧ b < W.heap.size := by
  obtain ⟨b, off, e1, e2, e3⟩ := h.2 (fun e => by rw [e] at hi; simp at hi)
  exact ⟨_, b, off, (h.1 i hi).1, (h.1 i hi).2, e1, fun W hW => ⟨(hW.cell (p := ⟨b, off + i, none⟩) e2).trans (e3 i hi), Nat.lt_of_lt_of_le e2 hW.size⟩⟩
def mi (t : Int) (i : Nat) : Mg := ((t, 1, (i : Int)), 0, 0, 0)
theorem mi_wf {t : Int} {i : Nat} (h0 : 0 ≤ t) (h1 : t ≤ 255) (hi : i ≤ 1000) : B.mwf (mi t i) := by
  refine ⟨⟨?_, ?_, ?_⟩, ?_, ?_, ?_⟩ <;> simp only [mi, B.i64] <;> omega
def Ms (i : Nat) (al : List Mg) : Prop := ∀ y ∈ al, y.2.2.1 = 0 ∧ 0 ≤ y.1.2.2 ∧ y.1.2.2 < (i : Int)
structure Sa (n : Nat) (i : Nat) (al : List Mg) (c : Nat) (x : X) : Prop where
  rp : W.Rp (Bo n).F 0 0 al c x.nd
  fl : x.fl = 0
  ln : al.length = i
  ms : Ms i al
structure Sw (w0 : World) (n : Nat) (Z : Ad) (i : Nat) (v : Value) (al : List Mg) (c : Nat) (x : X) (T : Nat → Prop) (W : World) : Prop where
  pn : PN w0 (Bo n) (i + 2) x Z T W
  sa : Sa n i al c x
  ow : Q.Own W v al
  nt : ∀ k, v.ownBlock = some k → ¬ T k
def St (w0 : World) (n : Nat) (Z : Ad) (i : Nat) (v : Value) (W : World) : Prop := ∃ al c x T, Sw w0 n Z i v al c x T W
def Sm (w0 : World) (n : Nat) (Z : Ad) (i : Nat) (t : Int) (v : Value) (V : World) : Prop := ∃ al c x T, PN w0 (Bo n) (i + 2) x Z T V ∧ Sa n i al c x ∧ Q.Own V v (W.insM (mi t i) al) ∧ ∀ k, v.ownBlock = some k → ¬ T k
end Go.Proofs.YtiaopafkfadmkaaGreat.V
/- Proved: the calls that WarpAnti makes, as its walk goes by them. -/
namespace Go.Proofs.YtiaopafkfadmkaaGreat.V
open Go.RowKit Go.Shelf
set_option linter.unusedVariables false
set_option maxRecDepth 100000

structure AI (i : Nat) (al bl bk : List Mg) : Prop where
  ln : al.length = i
  lb : bl.length ≤ i
  fm : ∀ y ∈ al, ∃ t j, y = mi t j ∧ 0 ≤ t ∧ t ≤ 255 ∧ j < i
  mm : ∀ y, y ∈ al ↔ y ∈ bl ∨ y ∈ bk
  dj : ∀ y, y ∈ bl → y ∉ bk
  nd : bk.Nodup
  kl : bk.length ≤ i
theorem AI.zero : AI 0 [] [] [] := ⟨rfl, Nat.le_refl _, fun y hy => (by cases hy), fun y => by simp, fun y hy => (by cases hy), List.nodup_nil, Nat.le_refl _⟩
theorem AI.new {i : Nat} {al bl bk : List Mg} (h : AI i al bl bk) (t : Int) : ∀ y ∈ al, y.1 ≠ (t, 1, (i : Int)) := fun y hy e => by
  obtain ⟨t', j, rfl, _, _, hj⟩ := h.fm y hy
  simp [mi] at e
  omega
theorem AI.newb {i : Nat} {al bl bk : List Mg} (h : AI i al bl bk) (t : Int) : ∀ y ∈ bl, y.1 ≠ (t, 1, (i : Int)) := fun y hy => h.new t y ((h.mm y).2 (.inl hy))
theorem AI.out {i : Nat} {al bl bk : List Mg} (h : AI i al bl bk) (t : Int) : mi t i ∉ al := fun g => h.new t _ g rfl
theorem AI.fm' {i : Nat} {al bl bk : List Mg} (h : AI i al bl bk) {t : Int} (h0 : 0 ≤ t) (h1 : t ≤ 255) : ∀ y ∈ W.insM (mi t i) al, ∃ t j, y = mi t j ∧ 0 ≤ t ∧ t ≤ 255 ∧ j < i + 1 := fun y hy => by
  rcases (W.insM_mem _ _ _).1 hy with rfl | g
  · exact ⟨t, i, rfl, h0, h1, by omega⟩
  · obtain ⟨t', j, e, a, b, c⟩ := h.fm y g
    exact ⟨t', j, e, a, b, by omega⟩
theorem AI.gone {i : Nat} {al bl bk : List Mg} (h : AI i al bl bk) {t : Int} (h0 : 0 ≤ t) (h1 : t ≤ 255) : AI (i + 1) (W.insM (mi t i) al) bl (bk ++ [mi t i]) := by
  have ho := h.out t
  refine ⟨by rw [W.insM_len, h.ln], by have := h.lb; omega, h.fm' h0 h1, fun y => ?_, fun y hy g => ?_, ?_, by have := h.kl; simp; omega⟩
  · rw [W.insM_mem, h.mm]
    simp
    constructor
    · rintro (e | e | e)
      · exact .inr (.inr e)
      · exact .inl e
      · exact .inr (.inl e)
    · rintro (e | e | e)
      · exact .inr (.inl e)
      · exact .inr (.inr e)
      · exact .inl e
  · rcases List.mem_append.1 g with g | g
    · exact h.dj y hy g
    · rw [List.mem_singleton.1 g] at hy
      exact ho ((h.mm _).2 (.inl hy))
  · refine List.nodup_append.2 ⟨h.nd, by simp, fun a ha b hb e => ?_⟩
    rw [List.mem_singleton.1 hb] at e
    rw [e] at ha
    exact ho ((h.mm _).2 (.inr ha))
theorem AI.stay {i : Nat} {al bl bk : List Mg} (h : AI i al bl bk) {t : Int} (h0 : 0 ≤ t) (h1 : t ≤ 255) : AI (i + 1) (W.insM (mi t i) al) (W.insM (mi t i) bl) bk := by
  have ho := h.out t
  refine ⟨by rw [W.insM_len, h.ln], by rw [W.insM_len]; have := h.lb; omega, h.fm' h0 h1, fun y => ?_, fun y hy g => ?_, h.nd, by have := h.kl; omega⟩
  · rw [W.insM_mem, W.insM_mem, h.mm]
    constructor
    · rintro (e | e | e)
      · exact .inl (.inl e)
      · exact .inl (.inr e)
      · exact .inr e
    · rintro ((e | e) | e)
      · exact .inl e
      · exact .inr (.inl e)
      · exact .inr (.inr e)
  · rcases (W.insM_mem _ _ _).1 hy with rfl | e
    · exact ho ((h.mm _).2 (.inr g))
    · exact h.dj y e g
def AJ (bl bk : List Mg) (j : Nat) (al : List Mg) : Prop := ∀ y, y ∈ al ↔ y ∈ bl ∨ y ∈ bk.drop j
theorem AJ.step {i : Nat} {al0 bl bk : List Mg} (h : AI i al0 bl bk) (hs : W.SrtM al0) {j : Nat} {al : List Mg} (ha : AJ bl bk j al) (hj : j < bk.length) : bk[j] ∈ al ∧ AJ bl bk (j + 1) (W.delM (bk[j]).1 al) ∧ ∀ y ∈ W.delM (bk[j]).1 al, y.1 ≠ (bk[j]).1 := by
  have e : bk.drop j = bk[j] :: bk.drop (j + 1) := List.drop_eq_getElem_cons hj
  have hin : bk[j] ∈ al0 := (h.mm _).2 (.inr (List.getElem_mem hj))
  have hnd : bk[j] ∉ bk.drop (j + 1) := by
    have := h.nd.sublist (List.drop_sublist j bk)
    rw [e] at this
    exact (List.nodup_cons.1 this).1
  refine ⟨(ha _).2 (.inr (by rw [e]; exact List.mem_cons_self ..)), fun y => ?_, fun y hy => ((W.delM_mem _ _ _).1 hy).2⟩
  rw [W.delM_mem, ha y, e]
  constructor
  · rintro ⟨g | g, hne⟩
    · exact .inl g
    · rcases List.mem_cons.1 g with rfl | g
      · exact absurd rfl hne
      · exact .inr g
  · rintro (g | g)
    · refine ⟨.inl g, fun ek => ?_⟩
      have := W.srt_key hs ((h.mm y).2 (.inl g)) hin ek
      rw [this] at g
      exact h.dj _ g (List.getElem_mem hj)
    · refine ⟨.inr (List.mem_cons_of_mem _ g), fun ek => ?_⟩
      have := W.srt_key hs ((h.mm y).2 (.inr (List.mem_of_mem_drop g))) hin ek
      rw [this] at g
      exact hnd g
theorem AJ.fin {bl bk al : List Mg} (ha : AJ bl bk bk.length al) (h1 : W.SrtM al) (h2 : W.SrtM bl) : al = bl := W.srt_ext h1 h2 fun y => by
  rw [ha y, List.drop_length]
  simp
/-! ### In memory -/
abbrev RV (R : Nat → Prop) (v : Value) (b : Nat) : Prop := R b ∨ v.ownBlock = some b
def A1 (w : World) (Zx Zy : Ad) (i : Nat) (a : Option Addr) (nb c : Nat) (R : Nat → Prop) (V : World) : Prop := ∃ al bl bk, AI i al bl bk ∧ nb = bk.length ∧ Pair w (N1 w Zx (i + 2) al 0) (N1 w Zy (i + 2) bl 0) (RV R (.slice a nb c)) V ∧ B.OwR B.cM 39 V (.slice a nb c) bk
def A2 (w : World) (Zx Zy : Ad) (i : Nat) (t : Int) (a : Option Addr) (nb c : Nat) (R : Nat → Prop) (V : World) : Prop := ∃ al bl bk, AI i al bl bk ∧ nb = bk.length ∧ Pair w (N1 w Zx (i + 3) (W.insM (mi t i) al) 0) (N1 w Zy (i + 2) bl 0) (RV R (.slice a nb c)) V ∧ B.OwR B.cM 39 V (.slice a nb c) bk
theorem A1.on {w : World} {Zx Zy : Ad} {i : Nat} {a : Option Addr} {nb c : Nat} {R : Nat → Prop} {V V' : World} (h : A1 w Zx Zy i a nb c R V) (hb : Below V.heap.size V V') {R' : Nat → Prop} (hR : ∀ b, R' b → b < V'.heap.size ∧ (b < V.heap.size → R b)) : A1 w Zx Zy i a nb c R' V' := by
  obtain ⟨al, bl, bk, h1, h2, h3, h4⟩ := h
  refine ⟨al, bl, bk, h1, h2, h3.other (N1.th ..) (N1.th ..) (B.Fr.of_below (S := fun _ => False) hb) (fun _ g => g.elim) (fun b r => ?_), h4.below hb⟩
  rcases r with r | r
  · exact ⟨(hR b r).1, fun g => .inl ((hR b r).2 g)⟩
  · exact ⟨Nat.lt_of_lt_of_le (h3.lt b (.inr r)) hb.size, fun _ => .inr r⟩
theorem A1.bel {w : World} {Zx Zy : Ad} {i : Nat} {a : Option Addr} {nb c : Nat} {R : Nat → Prop} {V : World} (h : A1 w Zx Zy i a nb c R V) : Below w.heap.size w V := by
  obtain ⟨al, bl, bk, h1, h2, h3, h4⟩ := h
  exact h3.bel (N1.th ..)
theorem A2.bel {w : World} {Zx Zy : Ad} {i : Nat} {t : Int} {a : Option Addr} {nb c : Nat} {R : Nat → Prop} {V : World} (h : A2 w Zx Zy i t a nb c R V) : Below w.heap.size w V := by
  obtain ⟨al, bl, bk, h1, h2, h3, h4⟩ := h
  exact h3.bel (N1.th ..)
theorem A1.len {w : World} {Zx Zy : Ad} {i : Nat} {a : Option Addr} {nb c : Nat} {R : Nat → Prop} {V : World} (h : A1 w Zx Zy i a nb c R V) : nb ≤ i := by
  obtain ⟨al, bl, bk, h1, h2, h3, h4⟩ := h
  rw [h2]
  exact h1.kl
theorem mi_mwf {t : Int} {i : Nat} (h0 : 0 ≤ t) (h1 : t ≤ 255) (hi : i < 30) : B.mwf ((t, 1, (i : Int)), 0, 0, 0) := mi_wf h0 h1 (by omega)
theorem A1.hear {w : World} {Zx Zy : Ad} {i : Nat} {a : Option Addr} {nb c : Nat} {R : Nat → Prop} {V : World} (h : A1 w Zx Zy i a nb c R V) {t : Int} (h0 : 0 ≤ t) (h1 : t ≤ 255) (hi : i < 30) :
    Calls Tryz.prog 13 #[.pointer (some ⟨Zx.nb, 0, none⟩), .int .i64 1, .agg #[.int .i64 0, .int .i64 t, .int .i64 1, .int .i64 (i : Int), .int .i64 0, .int .i64 0, .int .i64 0, .int .i64 0]] V fun e w' => ∃ u, e = .returned (.tuple #[u, .int .i64 0]) ∧ A2 w Zx Zy i t a nb c R w' ∧ ∀ b, R b → ∀ o, w'.cell? ⟨b, o, none⟩ = V.cell? ⟨b, o, none⟩ := by
  obtain ⟨al, bl, bk, g1, g2, g3, g4⟩ := h
  refine (g3.x (P' := N1 w Zx (i + 3) (W.insM (mi t i) al) 0) (N1.th ..) (N1.th ..) (N1.th ..) (α := Value) (G := fun e u _ => e = .returned (.tuple #[u, .int .i64 0])) ?_).mono fun e w' ⟨u, he, hp, hf⟩ => ⟨u, he, ⟨al, bl, bk, g1, g2, hp, row_keep g4 hf (fun b r => .inr r)⟩, fun b r o => hf.cell (p := ⟨b, o, none⟩) (g3.lt b (.inl r)) (fun g => g (.inl r))⟩
  rintro T ⟨n, hn⟩
  exact (hn.plain t 1 i 0 0 (mi_mwf h0 h1 hi) h0 h1 (g1.new t) (by rw [g1.ln]; exact hi)).mono fun e w' ⟨u, T', he, p1, p2⟩ => ⟨u, T', he, ⟨n, p1⟩, p2⟩
theorem A2.stay {w : World} {Zx Zy : Ad} {i : Nat} {a : Option Addr} {nb c : Nat} {R : Nat → Prop} {V : World} {t : Int} (h : A2 w Zx Zy i t a nb c R V) (h0 : 0 ≤ t) (h1 : t ≤ 255) (hi : i < 30) :
    Calls Tryz.prog 13 #[.pointer (some ⟨Zy.nb, 0, none⟩), .int .i64 1, .agg #[.int .i64 0, .int .i64 t, .int .i64 1, .int .i64 (i : Int), .int .i64 0, .int .i64 0, .int .i64 0, .int .i64 0]] V fun e w' => ∃ u, e = .returned u ∧ A1 w Zx Zy (i + 1) a nb c R w' := by
  obtain ⟨al, bl, bk, g1, g2, g3, g4⟩ := h
  refine (g3.y (Q' := N1 w Zy (i + 3) (W.insM (mi t i) bl) 0) (N1.th ..) (N1.th ..) (N1.th ..) (α := Value) (G := fun e u _ => e = .returned u) ?_).mono fun e w' ⟨u, he, hp, hf⟩ => ⟨u, he, ⟨_, _, bk, g1.stay h0 h1, g2, hp, row_keep g4 hf (fun b r => .inr r)⟩⟩
  rintro T ⟨n, hn⟩
  exact (hn.plain t 1 i 0 0 (mi_mwf h0 h1 hi) h0 h1 (g1.newb t) (by have := g1.lb; omega)).mono fun e w' ⟨u, T', he, p1, p2⟩ => ⟨_, T', he, ⟨n, p1⟩, p2⟩
theorem A2.gone {w : World} {Zx Zy : Ad} {i : Nat} {a : Option Addr} {nb c : Nat} {R : Nat → Prop} {V : World} {t : Int} (h : A2 w Zx Zy i t a nb c R V) (h0 : 0 ≤ t) (h1 : t ≤ 255) : ∃ bk X, bk.length ≤ 100000 + i ∧ bk.length ≤ i ∧ bk ++ [((t, 1, (i : Int)), 0, 0, 0)] = X ∧ B.OwR B.cM 39 V (.slice a nb c) bk ∧ ∀ a' c' V1 V', Below V.heap.size V V1 → B.OwR B.cM 39 V' (.slice a' X.length c') X → Mw (fun k => (Value.slice a nb c).ownBlock = some k) (fun k => (Value.slice a' X.length c').ownBlock = some k) V1 V' → A1 w Zx Zy (i + 1) a' X.length c' (fun _ => False) V' := by
  obtain ⟨al, bl, bk, g1, g2, g3, g4⟩ := h
  refine ⟨bk, bk ++ [mi t i], by have := g1.kl; omega, g1.kl, rfl, g4, fun a' c' V1 V' hb ho hm => ⟨_, bl, _, g1.gone h0 h1, rfl, ?_, ho⟩⟩
  have p1 := g3.on (N1.th ..) (N1.th ..) hb
  have p2 := p1.other (R' := RV (fun _ => False) (.slice a' (bk ++ [mi t i]).length c')) (N1.th ..) (N1.th ..) hm.fr (fun b r => .inr r) (fun b r => by
    rcases r with r | r
    · exact r.elim
    · exact ⟨ho.lt r, fun g => .inr (hm.new b g r)⟩)
  exact p2.imp (fun T q => q) (fun T ⟨n, q⟩ => ⟨n, q.mono (by omega)⟩)
theorem A1.step {w : World} {Zx Zy : Ad} {i : Nat} {a : Option Addr} {nb c : Nat} {R : Nat → Prop} {V : World} (h : A1 w Zx Zy i a nb c R V) (hi : i ≤ 60) :
    Calls Tryz.prog 16 #[.pointer (some ⟨Zx.nb, 0, none⟩)] V fun e w' => ∃ u, e = .returned u ∧ A1 w Zx Zy i a nb c R w' := by
  obtain ⟨al, bl, bk, g1, g2, g3, g4⟩ := h
  refine (g3.x (P' := N1 w Zx (i + 2) al 0) (N1.th ..) (N1.th ..) (N1.th ..) (α := Value) (G := fun e u _ => e = .returned u) ?_).mono fun e w' ⟨u, he, hp, hf⟩ => ⟨u, he, ⟨al, bl, bk, g1, g2, hp, row_keep g4 hf (fun b r => .inr r)⟩⟩
  rintro T ⟨n, hn⟩
  exact (hn.step (by omega)).mono fun e w' ⟨u, T', he, p1, p2⟩ => ⟨u, T', he, ⟨n, p1.any⟩, p2⟩
/-! ### Taking back -/
def A3 (w : World) (Zx Zy : Ad) (i j : Nat) (a : Option Addr) (nb c : Nat) (V : World) : Prop := ∃ al0 al bl bk, AI i al0 bl bk ∧ W.SrtM al0 ∧ AJ bl bk j al ∧ nb = bk.length ∧ Pair w (N1 w Zx (i + 2 + 2 * j) al 0) (N1 w Zy (i + 2) bl 0) (RV (fun _ => False) (.slice a nb c)) V ∧ B.OwR B.cM 39 V (.slice a nb c) bk
def A4 (w : World) (Zx Zy : Ad) (i j : Nat) (t : Int) (q : Nat) (a : Option Addr) (nb c : Nat) (V : World) : Prop := ∃ al0 al bl bk, AI i al0 bl bk ∧ W.SrtM al0 ∧ AJ bl bk (j + 1) al ∧ (∀ y ∈ al, y.1 ≠ (t, 1, (q : Int))) ∧ nb = bk.length ∧ Pair w (N1 w Zx (i + 3 + 2 * j) al 0) (N1 w Zy (i + 2) bl 0) (RV (fun _ => False) (.slice a nb c)) V ∧ B.OwR B.cM 39 V (.slice a nb c) bk
theorem A1.back {w : World} {Zx Zy : Ad} {i : Nat} {a : Option Addr} {nb c : Nat} {R : Nat → Prop} {V : World} (h : A1 w Zx Zy i a nb c R V) : A3 w Zx Zy i 0 a nb c V := by
  obtain ⟨al, bl, bk, g1, g2, g3, g4⟩ := h
  have hs : W.SrtM al := by
    obtain ⟨Tx, Ty, ⟨n, h1⟩, _⟩ := g3
    exact h1.srt.1
  refine ⟨al, al, bl, bk, g1, hs, fun y => by rw [List.drop_zero]; exact g1.mm y, g2, ?_, g4⟩
  exact g3.other (N1.th ..) (N1.th ..) (B.Fr.refl (fun _ => False) V) (fun _ g => g.elim) (fun b r => by
    rcases r with r | r
    · exact r.elim
    · exact ⟨g3.lt b (.inr r), fun _ => .inr r⟩)
theorem A3.msg {w : World} {Zx Zy : Ad} {i j : Nat} {a : Option Addr} {nb c : Nat} {V : World} (h : A3 w Zx Zy i j a nb c V) (hj : j < nb) (hi : i ≤ 30) : ∃ t q g off, 0 ≤ t ∧ t ≤ 255 ∧ q < 30 ∧ a = some ⟨g, off, none⟩ ∧ g < V.heap.size ∧ (V.cell? ⟨g, off + j * 6, none⟩ = some (.int .i64 t) ∧ V.cell? ⟨g, off + j * 6 + 1, none⟩ = some (.int .i64 1) ∧ V.cell? ⟨g, off + j * 6 + 2, none⟩ = some (.int .i64 ((q : Nat) : Int)) ∧ V.cell? ⟨g, off + j * 6 + 3, none⟩ = some (.int .i64 0) ∧ V.cell? ⟨g, off + j * 6 + 4, none⟩ = some (.int .i64 0) ∧ V.cell? ⟨g, off + j * 6 + 5, none⟩ = some (.int .i64 0)) ∧
    Calls Tryz.prog 13 #[.pointer (some ⟨Zx.nb, 0, none⟩), .int .i64 1, .agg #[.int .i64 1, .int .i64 t, .int .i64 1, .int .i64 ((q : Nat) : Int), .int .i64 0, .int .i64 0, .int .i64 0, .int .i64 0]] V fun e w' => ∃ u, e = .returned (.tuple #[u, .int .i64 0]) ∧ A4 w Zx Zy i j t q a nb c w' ∧ ∀ o, w'.cell? ⟨g, o, none⟩ = V.cell? ⟨g, o, none⟩ := by
  obtain ⟨al0, al, bl, bk, g1, gs, ga, rfl, g3, g4⟩ := h
  obtain ⟨hin, hj2, hno⟩ := AJ.step g1 gs ga hj
  obtain ⟨t, q, e, h0, h1, hq⟩ := g1.fm _ ((g1.mm _).2 (.inr (List.getElem_mem hj)))
  have hnth : B.nth B.cM bk j = mi t q := by rw [B.nth_get hj]; exact e
  obtain ⟨a2, c2, e2, hr⟩ := g4.rd (N := fun k => (Value.slice a bk.length c).ownBlock = some k) (fun _ r => r)
  simp at e2
  obtain ⟨rfl, rfl⟩ := e2
  obtain ⟨g, off, e3, hg, hgo, c0, c1, c2, c3, c4, c5⟩ := hr.msg hj hnth
  rw [e] at hin hj2 hno
  refine ⟨t, q, g, off, h0, h1, by omega, e3, hg, ⟨c0, c1, c2, c3, c4, c5⟩, ?_⟩
  refine (g3.x (P' := N1 w Zx (i + 3 + 2 * j) (W.delM (t, 1, (q : Int)) al) 0) (N1.th ..) (N1.th ..) (N1.th ..) (α := Value) (G := fun e u _ => e = .returned (.tuple #[u, .int .i64 0])) ?_).mono fun e w' ⟨u, he, hp, hf⟩ => ⟨u, he, ⟨al0, _, bl, bk, g1, gs, hj2, hno, rfl, hp, row_keep g4 hf (fun b r => .inr r)⟩, fun o => hf.cell (p := ⟨g, o, none⟩) hg (fun r => r (.inr hgo))⟩
  rintro T ⟨n, hn⟩
  exact (hn.anti t 1 q 0 0 (mi_mwf h0 h1 (by omega)) hin).mono fun e w' ⟨u, T', he, p1, p2⟩ => ⟨u, T', he, ⟨n, p1.mono (by omega)⟩, p2⟩
theorem A4.again {w : World} {Zx Zy : Ad} {i j : Nat} {t : Int} {q : Nat} {a : Option Addr} {nb c : Nat} {V : World} (h : A4 w Zx Zy i j t q a nb c V) (h0 : 0 ≤ t) (h1 : t ≤ 255) (hq : q < 30) :
    Calls Tryz.prog 13 #[.pointer (some ⟨Zx.nb, 0, none⟩), .int .i64 1, .agg #[.int .i64 1, .int .i64 t, .int .i64 1, .int .i64 (q : Int), .int .i64 0, .int .i64 0, .int .i64 0, .int .i64 0]] V fun e w' => ∃ u, e = .returned (.tuple #[u, .int .i64 4]) ∧ A3 w Zx Zy i (j + 1) a nb c w' := by
  obtain ⟨al0, al, bl, bk, g1, gs, ga, gn, g2, g3, g4⟩ := h
  refine (g3.x (P' := N1 w Zx (i + 2 + 2 * (j + 1)) al 0) (N1.th ..) (N1.th ..) (N1.th ..) (α := Value) (G := fun e u _ => e = .returned (.tuple #[u, .int .i64 4])) ?_).mono fun e w' ⟨u, he, hp, hf⟩ => ⟨u, he, ⟨al0, al, bl, bk, g1, gs, ga, g2, hp, row_keep g4 hf (fun b r => .inr r)⟩⟩
  rintro T ⟨n, hn⟩
  exact (hn.miss t 1 q 0 0 (mi_mwf h0 h1 hq) h0 gn).mono fun e w' ⟨u, T', he, p1, p2⟩ => ⟨u, T', he, ⟨n, p1.mono (by omega)⟩, p2⟩
/-! ### Both have the same -/
def A5 (w : World) (Zx Zy : Ad) (i k l : Nat) (V : World) : Prop := ∃ al, al.length ≤ i ∧ Pair w (N1 w Zx 100 al k) (N1 w Zy 100 al l) (fun _ => False) V
theorem A3.same {w : World} {Zx Zy : Ad} {i j : Nat} {a : Option Addr} {nb c : Nat} {V : World} (h : A3 w Zx Zy i j a nb c V) (hj : j = nb) (hi : i ≤ 30) : A5 w Zx Zy i 0 0 V := by
  obtain ⟨al0, al, bl, bk, g1, gs, ga, g2, g3, g4⟩ := h
  have hk := g1.kl
  have hs : W.SrtM al ∧ W.SrtM bl := by
    obtain ⟨Tx, Ty, ⟨n, h1⟩, ⟨m, h2⟩, _⟩ := g3
    exact ⟨h1.srt.1, h2.srt.1⟩
  rw [hj, g2] at ga
  have e := ga.fin hs.1 hs.2
  rw [e] at g3
  have g5 := g3.other (R' := fun _ => False) (N1.th ..) (N1.th ..) (B.Fr.refl (fun _ => False) V) (fun _ g => g.elim) (fun b r => r.elim)
  exact ⟨bl, g1.lb, g5.imp (fun T ⟨n, q⟩ => ⟨n, q.mono (by omega)⟩) (fun T ⟨n, q⟩ => ⟨n, q.mono (by omega)⟩)⟩
theorem A5.stepx {w : World} {Zx Zy : Ad} {i k l : Nat} {V : World} (h : A5 w Zx Zy i k l V) :
    Calls Tryz.prog 16 #[.pointer (some ⟨Zx.nb, 0, none⟩)] V fun e w' => ∃ u, e = .returned u ∧ A5 w Zx Zy i (k + 1) l w' := by
  obtain ⟨al, g1, g3⟩ := h
  refine (g3.x (P' := N1 w Zx 100 al (k + 1)) (N1.th ..) (N1.th ..) (N1.th ..) (α := Value) (G := fun e u _ => e = .returned u) ?_).mono fun e w' ⟨u, he, hp, hf⟩ => ⟨u, he, al, g1, hp⟩
  rintro T ⟨n, hn⟩
  exact (hn.step (by omega)).mono fun e w' ⟨u, T', he, p1, p2⟩ => ⟨u, T', he, ⟨n, p1⟩, p2⟩
theorem A5.stepy {w : World} {Zx Zy : Ad} {i k l : Nat} {V : World} (h : A5 w Zx Zy i k l V) :
    Calls Tryz.prog 16 #[.pointer (some ⟨Zy.nb, 0, none⟩)] V fun e w' => ∃ u, e = .returned u ∧ A5 w Zx Zy i k (l + 1) w' := by
  obtain ⟨al, g1, g3⟩ := h
  refine (g3.y (Q' := N1 w Zy 100 al (l + 1)) (N1.th ..) (N1.th ..) (N1.th ..) (α := Value) (G := fun e u _ => e = .returned u) ?_).mono fun e w' ⟨u, he, hp, hf⟩ => ⟨u, he, al, g1, hp⟩
  rintro T ⟨n, hn⟩
  exact (hn.step (by omega)).mono fun e w' ⟨u, T', he, p1, p2⟩ => ⟨u, T', he, ⟨n, p1⟩, p2⟩
theorem A5.done {w : World} {Zx Zy : Ad} {i k l : Nat} {V : World} (h : A5 w Zx Zy i k l V) (hk : i ≤ k) (hl : i ≤ l) : ∃ al, al.length ≤ k ∧ al.length ≤ l ∧ al.length ≤ 30 ∧ Pair w (N1 w Zx 100 al k) (N1 w Zy 100 al l) (fun _ => False) V := by
  obtain ⟨al, g1, g3⟩ := h
  refine ⟨al, by omega, by omega, ?_, g3⟩
  obtain ⟨Tx, Ty, ⟨n, h1⟩, _⟩ := g3
  exact h1.srt.2
theorem N1.bound {w : World} {Z : Ad} {al : List Mg} {k : Nat} {T : Nat → Prop} {V : World} (h : N1 w Z 100 al k T V) (hk : al.length ≤ k) :
    Calls Tryz.prog 13 #[.pointer (some ⟨Z.nb, 0, none⟩), .int .i64 2, .agg #[.int .i64 2, .int .i64 1125899906842624, .int .i64 0, .int .i64 0, .int .i64 0, .int .i64 0, .int .i64 0, .int .i64 0]] V fun e w' => ∃ u T', e = .returned (.tuple #[u, .int .i64 0]) ∧ N2 w Z 101 al T' w' ∧ Mw T T' V w' := by
  obtain ⟨n, h⟩ := h
  exact (h.bound hk).mono fun e w' ⟨u, T', he, p1, p2⟩ => ⟨u, T', he, ⟨n, p1⟩, p2⟩
theorem N2.local {w : World} {Z : Ad} {al : List Mg} {T : Nat → Prop} {V : World} (h : N2 w Z 101 al T V) :
    Calls Tryz.prog 27 #[.pointer (some ⟨Z.nb, 0, none⟩)] V fun e w' => ∃ t T', (e = .returned (.int .i64 t) ∧ 200 ≤ t) ∧ N3 w Z 101 al t T' w' ∧ Mw T T' V w' := by
  obtain ⟨n, h⟩ := h
  exact h.local.mono fun e w' ⟨t, he, h2, p1, p2⟩ => ⟨t, T, ⟨he, h2⟩, ⟨n, p1⟩, ⟨B.Fr.of_below p2, fun k _ g => g⟩⟩
def setD (al : List Mg) : List Dn := (W.tr (Bo 0).F 0 0 (bel2 al)).map dn
def setM (al : List Mg) : List Mg := (W.gt (Bo 0).F (W.tr (Bo 0).F 0 0 (bel2 al))).map (fun y => y.2)
def setS (al : List Mg) : Int := (W.fin (Bo 0).F 0 0 (bel2 al)).1
theorem setD_len (al : List Mg) (h : al.length ≤ 30) : (setD al).length ≤ 30 := by
  unfold setD bel2
  rw [List.length_map, W.tr_len]
  exact Nat.le_trans (List.length_filter_le _ _) h
theorem setM_len (al : List Mg) (h : al.length ≤ 30) : (setM al).length ≤ 60 := by
  unfold setM bel2
  rw [List.length_map]
  refine Nat.le_trans (gt_len2 fun e he => ?_) ?_
  · obtain ⟨_, s', n', _, _, _, g5⟩ := tr_mem _ _ _ he
    rw [g5]
    exact bo_held 0 s' n' e.m
  · rw [W.tr_len]
    have := List.length_filter_le (fun m : Mg => decide (m.1.1 < 200)) al
    omega
theorem N3.commit {w : World} {Z : Ad} {al : List Mg} {t : Int} {T : Nat → Prop} {V : World} (h : N3 w Z 101 al t T V) :
    Calls Tryz.prog 18 #[.pointer (some ⟨Z.nb, 0, none⟩), .int .i64 t] V fun e w' => ∃ (u : (Option Addr × Nat) × (Option Addr × Nat)) (T' : Nat → Prop), (e = .returned (.tuple #[.slice u.1.1 (setD al).length u.1.2, .slice u.2.1 (setM al).length u.2.2, .int .i64 0]) ∧ (B.OwR cD 49 w' (.slice u.1.1 (setD al).length u.1.2) (setD al) ∧ ∀ k, (Value.slice u.1.1 (setD al).length u.1.2).ownBlock = some k → V.heap.size ≤ k ∧ ¬ T' k) ∧ B.OwR B.cM 39 w' (.slice u.2.1 (setM al).length u.2.2) (setM al) ∧ ∀ k, (Value.slice u.2.1 (setM al).length u.2.2).ownBlock = some k → V.heap.size ≤ k ∧ ¬ T' k) ∧ N4 w Z 101 al t T' w' ∧ Mw T T' V w' := by
  obtain ⟨n, h⟩ := h
  refine (h.commit (by omega)).mono ?_
  rintro e w' ⟨T', a, n1, c, a2, n2, c2, he, p1, p2, p3, p4, p5⟩
  rw [bo_fe n 0] at p3 p4
  have q3 : B.OwR cD 49 w' (.slice a n1 c) (setD al) := p3.1
  have q4 : B.OwR B.cM 39 w' (.slice a2 n2 c2) (setM al) := p4
  obtain ⟨_, _, e3, _⟩ := q3.rd (N := fun _ => True) (fun _ _ => trivial)
  obtain ⟨_, _, e4, _⟩ := q4.rd (N := fun _ => True) (fun _ _ => trivial)
  simp at e3 e4
  obtain ⟨rfl, rfl, rfl⟩ := e3
  obtain ⟨rfl, rfl, rfl⟩ := e4
  exact ⟨((a, c), (a2, c2)), T', ⟨he, ⟨q3, p3.2⟩, q4, p5⟩, ⟨n, p1⟩, p2⟩
theorem N4.state {w : World} {Z : Ad} {al : List Mg} {t : Int} {T : Nat → Prop} {V : World} (h : N4 w Z 101 al t T V) :
    Calls Tryz.prog 22 #[.pointer (some ⟨Z.nb, 0, none⟩)] V fun e w' => e = .returned (.int .i64 (setS al)) ∧ V = w' := by
  obtain ⟨n, h⟩ := h
  have := h.state
  rw [bo_fe n 0] at this
  exact this
theorem N4.waiting {w : World} {Z : Ad} {al : List Mg} {t : Int} {T : Nat → Prop} {V : World} (h : N4 w Z 101 al t T V) :
    Calls Tryz.prog 31 #[.pointer (some ⟨Z.nb, 0, none⟩)] V fun e w' => ∃ a c, e = .returned (.slice a (al.drop (Go.Proofs.YtiaopafkfadmkaaGreat.W.posT 200 al)).length c) ∧ Below V.heap.size V w' := by
  obtain ⟨n, h⟩ := h
  exact h.waiting
/-! ### The last calls -/
theorem B1 {w : World} {Zx Zy : Ad} {al : List Mg} {k l : Nat} {V : World} (h : Pair w (N1 w Zx 100 al k) (N1 w Zy 100 al l) (fun _ => False) V) (hk : al.length ≤ k) :
    Calls Tryz.prog 13 #[.pointer (some ⟨Zx.nb, 0, none⟩), .int .i64 2, .agg #[.int .i64 2, .int .i64 1125899906842624, .int .i64 0, .int .i64 0, .int .i64 0, .int .i64 0, .int .i64 0, .int .i64 0]] V fun e w' => ∃ u, e = .returned u ∧ Pair w (N2 w Zx 101 al) (N1 w Zy 100 al l) (fun _ => False) w' :=
  (h.x (N1.th ..) (N2.th ..) (N1.th ..) (α := Value) (G := fun e u _ => e = .returned u) (fun T hT => (hT.bound hk).mono fun e w' ⟨u, T', he, p1, p2⟩ => ⟨_, T', he, p1, p2⟩)).mono fun e w' ⟨u, he, hp, _⟩ => ⟨u, he, hp⟩
theorem B2 {w : World} {Zx Zy : Ad} {al : List Mg} {l : Nat} {V : World} (h : Pair w (N2 w Zx 101 al) (N1 w Zy 100 al l) (fun _ => False) V) (hl : al.length ≤ l) :
    Calls Tryz.prog 13 #[.pointer (some ⟨Zy.nb, 0, none⟩), .int .i64 2, .agg #[.int .i64 2, .int .i64 1125899906842624, .int .i64 0, .int .i64 0, .int .i64 0, .int .i64 0, .int .i64 0, .int .i64 0]] V fun e w' => ∃ u, e = .returned u ∧ Pair w (N2 w Zx 101 al) (N2 w Zy 101 al) (fun _ => False) w' :=
  (h.y (N2.th ..) (N1.th ..) (N2.th ..) (α := Value) (G := fun e u _ => e = .returned u) (fun T hT => (hT.bound hl).mono fun e w' ⟨u, T', he, p1, p2⟩ => ⟨_, T', he, p1, p2⟩)).mono fun e w' ⟨u, he, hp, _⟩ => ⟨u, he, hp⟩
theorem B3 {w : World} {Zx Zy : Ad} {al : List Mg} {V : World} (h : Pair w (N2 w Zx 101 al) (N2 w Zy 101 al) (fun _ => False) V) :
    Calls Tryz.prog 27 #[.pointer (some ⟨Zx.nb, 0, none⟩)] V fun e w' => ∃ t, e = .returned (.int .i64 t) ∧ Pair w (N3 w Zx 101 al t) (N2 w Zy 101 al) (fun _ => False) w' := by
  obtain ⟨Tx, Ty, h1, h2, h3, h4⟩ := h
  exact h1.local.mono fun e w' ⟨t, T', ⟨he, _⟩, p1, p2⟩ => ⟨t, he, T', Ty, p1, (N2.th w Zy 101 al).keep h2 p2.fr (fun k a b => h3 k b a) ((N2.th w Zx 101 al).lo h1), fun b a c => h3 b (p2.new b ((N2.th w Zy 101 al).lt h2 b c) a) c, fun b r => r.elim⟩
structure Rws (V : World) (al : List Mg) (u : (Option Addr × Nat) × (Option Addr × Nat)) (R : Nat → Prop) : Prop where
  d : B.OwR cD 49 V (.slice u.1.1 (setD al).length u.1.2) (setD al)
  m : B.OwR B.cM 39 V (.slice u.2.1 (setM al).length u.2.2) (setM al)
  rd : ∀ k, (Value.slice u.1.1 (setD al).length u.1.2).ownBlock = some k → R k
  rm : ∀ k, (Value.slice u.2.1 (setM al).length u.2.2).ownBlock = some k → R k
def RU (al : List Mg) (u : (Option Addr × Nat) × (Option Addr × Nat)) (b : Nat) : Prop := (Value.slice u.1.1 (setD al).length u.1.2).ownBlock = some b ∨ (Value.slice u.2.1 (setM al).length u.2.2).ownBlock = some b
theorem B4 {w : World} {Zx : Ad} {Q : Th} (hQ : Thg w Q) {al : List Mg} {t : Int} {R : Nat → Prop} {V : World} (h : Pair w (N3 w Zx 101 al t) Q R V) :
    Calls Tryz.prog 18 #[.pointer (some ⟨Zx.nb, 0, none⟩), .int .i64 t] V fun e w' => ∃ u : (Option Addr × Nat) × (Option Addr × Nat), e = .returned (.tuple #[.slice u.1.1 (setD al).length u.1.2, .slice u.2.1 (setM al).length u.2.2, .int .i64 0]) ∧ Rws w' al u (RU al u) ∧ Pair w (N4 w Zx 101 al t) Q (fun b => R b ∨ RU al u b) w' ∧ Fr (fun b => ¬ R b) V w' := by
  obtain ⟨Tx, Ty, h1, h2, h3, h4⟩ := h
  have hw := (hQ.bel h2).size
  refine h1.commit.mono fun e w' ⟨u, T', ⟨he, ⟨q1, q2⟩, q3, q4⟩, p1, p2⟩ => ⟨u, he, ⟨q1, q3, fun k e => .inl e, fun k e => .inr e⟩, ⟨T', Ty, p1, hQ.keep h2 p2.fr (fun k a b => h3 k b a) ((N3.th w Zx 101 al t).lo h1), fun b a c => h3 b (p2.new b (hQ.lt h2 b c) a) c, fun b r => ?_⟩, p2.fr.wide fun b a r => (h4 b r).2.2.1 a⟩
  rcases r with r | r | r
  · obtain ⟨r1, r2, r3, r4⟩ := h4 b r
    exact ⟨r1, Nat.lt_of_lt_of_le r2 p2.fr.size, fun a => r3 (p2.new b r2 a), r4⟩
  · have := q2 b r
    exact ⟨by omega, q1.lt r, this.2, fun g => by have := hQ.lt h2 b g; omega⟩
  · have := q4 b r
    exact ⟨by omega, q3.lt r, this.2, fun g => by have := hQ.lt h2 b g; omega⟩
theorem Rws.keep {V V' : World} {al : List Mg} {u : (Option Addr × Nat) × (Option Addr × Nat)} {R S : Nat → Prop} (h : Rws V al u R) (hf : Fr S V V') (hS : ∀ b, R b → ¬ S b) : Rws V' al u R := ⟨h.d.keep hf (fun g e => hS g (h.rd g e)), h.m.keep hf (fun g e => hS g (h.rm g e)), h.rd, h.rm⟩
theorem Rws.below {V V' : World} {al : List Mg} {u : (Option Addr × Nat) × (Option Addr × Nat)} {R : Nat → Prop} (h : Rws V al u R) (hb : Below V.heap.size V V') : Rws V' al u R := ⟨h.d.below hb, h.m.below hb, h.rd, h.rm⟩
theorem N2.loc2 {w : World} {P : Th} (hP : Thg w P) {Zy : Ad} {al : List Mg} {R : Nat → Prop} {V : World} (h : Pair w P (N2 w Zy 101 al) R V) :
    Calls Tryz.prog 27 #[.pointer (some ⟨Zy.nb, 0, none⟩)] V fun e w' => ∃ t, (e = .returned (.int .i64 t) ∧ 200 ≤ t) ∧ Pair w P (N3 w Zy 101 al t) R w' ∧ Below V.heap.size V w' := by
  obtain ⟨Tx, Ty, h1, ⟨n, h2⟩, h3, h4⟩ := h
  refine h2.local.mono fun e w' ⟨t, he, ht, p1, hb⟩ => ⟨t, ⟨he, ht⟩, ⟨Tx, Ty, hP.keep h1 (B.Fr.of_below (S := fun _ => False) hb) (fun _ _ g => g) (fun _ g => g.elim), ⟨n, p1⟩, h3, fun b r => ?_⟩, hb⟩
  obtain ⟨r1, r2, r3, r4⟩ := h4 b r
  exact ⟨r1, Nat.lt_of_lt_of_le r2 hb.size, r3, r4⟩
theorem pair_state {w : World} {Q : Th} {Zx : Ad} {al : List Mg} {t : Int} {R : Nat → Prop} {V : World} (h : Pair w (N4 w Zx 101 al t) Q R V) :
    Calls Tryz.prog 22 #[.pointer (some ⟨Zx.nb, 0, none⟩)] V fun e w' => e = .returned (.int .i64 (setS al)) ∧ V = w' := by
  obtain ⟨Tx, Ty, h1, _⟩ := h
  exact h1.state
theorem pair_waiting {w : World} {Q : Th} {Zx : Ad} {al : List Mg} {t : Int} {R : Nat → Prop} {V : World} (h : Pair w (N4 w Zx 101 al t) Q R V) :
    Calls Tryz.prog 31 #[.pointer (some ⟨Zx.nb, 0, none⟩)] V fun e w' => ∃ a c, e = .returned (.slice a (al.drop (Go.Proofs.YtiaopafkfadmkaaGreat.W.posT 200 al)).length c) ∧ Below V.heap.size V w' := by
  obtain ⟨Tx, Ty, h1, _⟩ := h
  exact h1.waiting
end Go.Proofs.YtiaopafkfadmkaaGreat.V
/- Proved: the document's Same at one list. -/
namespace Go.Proofs.YtiaopafkfadmkaaGreat
open Go.RowKit Go.Shelf
set_option linter.unusedVariables false
set_option maxRecDepth 100000

set_option maxRecDepth 100000 in
set_option maxHeartbeats 400000 in
theorem sameD_yes (w : World) (a b : Option Addr) (c d : Nat) (l : List Dn) (ha : RdD w a l) (hb : RdD w b l) (hl : l.length ≤ 100000) :
    Calls Tryz.prog 20 #[.slice a l.length c, .slice b l.length d] w fun e w' => e = .returned (.bool true) ∧ Below w.heap.size w w' := by
  have mixed : Tryz.prog.follows .mixedOrders = true := by kernel_rfl
  have HA : Hid _ := ha
  have HB : Hid _ := hb
  clear ha hb
  go_enter Tryz.func20, Tryz.ntmps20
  go_wp2_with fail
  go_loopw [5] (fun s5 wr => ∃ k : Nat, k ≤ l.length ∧ s5 = .int .i64 k ∧ Below w.heap.size w wr) (fun s5 _ => l.length - (intOf s5).toNat)
  case atStart => exact ⟨0, Nat.zero_le _, rfl, Below.refl _ _⟩
  case round =>
    obtain ⟨k, hk, rfl, hbw⟩ := hrel
    by_cases hkl : k < l.length
    · have hk' : (k : Int) < (l.length : Int) := by omega
      obtain ⟨x, hx⟩ : ∃ x, nthD l k = x := ⟨_, rfl⟩
      obtain ⟨b1, o1, rfl, _, x0, x1, x2, x3, x4, x5, x6⟩ := (RdD.below HA.out hbw).cells hkl hx
      obtain ⟨b2, o2, rfl, _, y0, y1, y2, y3, y4, y5, y6⟩ := (RdD.below HB.out hbw).cells hkl hx
      clear hx
      go_wp2_with fail
      go_quiet (fail)
      go_wp2
      go_roundw
      case rel => exact ⟨k + 1, by omega, by go_num, hbw.trans (below_drewN _ _ _)⟩
      case measure => simp [intOf]; omega
    · obtain rfl : k = l.length := by omega
      go_wp2
      go_ret
      exact ⟨rfl, hbw⟩


theorem V.rdD_of {w : World} {a : Option Addr} {l : List Dn} {N : Nat → Prop} (h : B.RdN V.cD N w a l) : RdD w a l := fun g => by
  obtain ⟨b, off, e, hb, _, hc⟩ := h g
  exact ⟨b, off, e, hb, hc⟩
end Go.Proofs.YtiaopafkfadmkaaGreat
/- Proved: the last calls that WarpAnti makes, as its walk goes by them: all that is told of two nodes that have the same messages is the same. -/
namespace Go.Proofs.YtiaopafkfadmkaaGreat.V
open Go.RowKit Go.Shelf
set_option linter.unusedVariables false
set_option maxRecDepth 100000

theorem rd_own {α : Type} {C : B.Cd α} {e : TypeId} {V : World} {a : Option Addr} {c : Nat} {l : List α} (h : B.OwR C e V (.slice a l.length c) l) : B.RdN C (fun _ => True) V a l := by
  obtain ⟨a', c', e, g⟩ := h.rd (N := fun _ => True) (fun _ _ => trivial)
  simp at e
  obtain ⟨rfl, rfl⟩ := e
  exact g
abbrev Uu := (Option Addr × Nat) × (Option Addr × Nat)
def Fi (w : World) (Zx Zy : Ad) (al : List Mg) (u v : Uu) (V : World) : Prop := Rws V al u (fun _ => True) ∧ Rws V al v (fun _ => True) ∧ ∃ t t' R, Pair w (N4 w Zx 101 al t) (N4 w Zy 101 al t') R V
theorem Fi.on {w : World} {Zx Zy : Ad} {al : List Mg} {u v : Uu} {V V' : World} (h : Fi w Zx Zy al u v V) (hb : Below V.heap.size V V') : Fi w Zx Zy al u v V' := by
  obtain ⟨h1, h2, t, t', R, h3⟩ := h
  exact ⟨h1.below hb, h2.below hb, t, t', R, h3.on (N4.th ..) (N4.th ..) hb⟩
theorem Rws.any {V : World} {al : List Mg} {u : Uu} {R : Nat → Prop} (h : Rws V al u R) : Rws V al u (fun _ => True) := ⟨h.d, h.m, fun _ _ => trivial, fun _ _ => trivial⟩
def Fh (w : World) (Zx Zy : Ad) (al : List Mg) (u : Uu) (t' : Int) (V : World) : Prop := Rws V al u (RU al u) ∧ ∃ t, Pair w (N4 w Zx 101 al t) (N3 w Zy 101 al t') (fun b => False ∨ RU al u b) V
def Fg (w : World) (Zx Zy : Ad) (al : List Mg) (u : Uu) (V : World) : Prop := Rws V al u (RU al u) ∧ ∃ t, Pair w (N4 w Zx 101 al t) (N2 w Zy 101 al) (fun b => False ∨ RU al u b) V
theorem Fg.local {w : World} {Zx Zy : Ad} {al : List Mg} {u : Uu} {V : World} (h : Fg w Zx Zy al u V) :
    Calls Tryz.prog 27 #[.pointer (some ⟨Zy.nb, 0, none⟩)] V fun e w' => ∃ t, e = .returned (.int .i64 t) ∧ Fh w Zx Zy al u t w' := by
  obtain ⟨h1, t, h2⟩ := h
  exact (N2.loc2 (N4.th ..) h2).mono fun e w' ⟨t', ⟨he, _⟩, hp, hb⟩ => ⟨t', he, h1.below hb, t, hp⟩
theorem Fh.commit {w : World} {Zx Zy : Ad} {al : List Mg} {u : Uu} {t : Int} {V : World} (h : Fh w Zx Zy al u t V) :
    Calls Tryz.prog 18 #[.pointer (some ⟨Zy.nb, 0, none⟩), .int .i64 t] V fun e w' => ∃ v : Uu, e = .returned (.tuple #[.slice v.1.1 (setD al).length v.1.2, .slice v.2.1 (setM al).length v.2.2, .int .i64 0]) ∧ Fi w Zx Zy al u v w' := by
  obtain ⟨h1, t0, h2⟩ := h
  exact (B4 (N4.th ..) h2.swap).mono fun e w' ⟨v, he, hr, hp, hf⟩ => ⟨v, he, (h1.keep hf (fun b r g => g (.inr r))).any, hr.any, t0, t, _, hp.swap⟩
theorem Fi.sameD {w : World} {Zx Zy : Ad} {al : List Mg} {u v : Uu} {V : World} (h : Fi w Zx Zy al u v V) (hl : al.length ≤ 30) :
    Calls Tryz.prog 20 #[.slice u.1.1 (setD al).length u.1.2, .slice v.1.1 (setD al).length v.1.2] V fun e w' => e = .returned (.bool true) ∧ Fi w Zx Zy al u v w' := by
  have hd := setD_len al hl
  exact (sameD_yes V u.1.1 v.1.1 u.1.2 v.1.2 (setD al) (rdD_of (rd_own h.1.d)) (rdD_of (rd_own h.2.1.d)) (by omega)).mono fun e w' ⟨he, hb⟩ => ⟨he, h.on hb⟩
theorem Fi.sameM {w : World} {Zx Zy : Ad} {al : List Mg} {u v : Uu} {V : World} (h : Fi w Zx Zy al u v V) (hl : al.length ≤ 30) :
    Calls Tryz.prog 21 #[.slice u.2.1 (setM al).length u.2.2, .slice v.2.1 (setM al).length v.2.2] V fun e w' => e = .returned (.bool true) ∧ Fi w Zx Zy al u v w' := by
  have hd := setM_len al hl
  exact (G.same15_eq (rd_own h.1.m) (rd_own h.2.1.m) rfl (by omega)).mono fun e w' ⟨he, hb⟩ => ⟨he, h.on hb⟩
theorem A5.fin {w : World} {Zx Zy : Ad} {i k l : Nat} {V : World} (h : A5 w Zx Zy i k l V) (hk : i ≤ k) (hl : i ≤ l) :
    ∃ (dl ml ql : Nat) (S : Int) (P1 P2 : World → Prop) (P3 : Int → World → Prop) (P4 : Option Addr → Nat → Option Addr → Nat → World → Prop) (P5 : Option Addr → Nat → Option Addr → Nat → Int → World → Prop) (P6 : Option Addr → Nat → Option Addr → Nat → Option Addr → Nat → Option Addr → Nat → World → Prop),
      (Calls Tryz.prog 13 #[.pointer (some ⟨Zx.nb, 0, none⟩), .int .i64 2, .agg #[.int .i64 2, .int .i64 1125899906842624, .int .i64 0, .int .i64 0, .int .i64 0, .int .i64 0, .int .i64 0, .int .i64 0]] V fun e w' => ∃ u, e = .returned u ∧ P1 w') ∧
      (∀ V, P1 V → Calls Tryz.prog 13 #[.pointer (some ⟨Zy.nb, 0, none⟩), .int .i64 2, .agg #[.int .i64 2, .int .i64 1125899906842624, .int .i64 0, .int .i64 0, .int .i64 0, .int .i64 0, .int .i64 0, .int .i64 0]] V fun e w' => ∃ u, e = .returned u ∧ P2 w') ∧
      (∀ V, P2 V → Calls Tryz.prog 27 #[.pointer (some ⟨Zx.nb, 0, none⟩)] V fun e w' => ∃ t, e = .returned (.int .i64 t) ∧ P3 t w') ∧
      (∀ t V, P3 t V → Calls Tryz.prog 18 #[.pointer (some ⟨Zx.nb, 0, none⟩), .int .i64 t] V fun e w' => ∃ a b c d, e = .returned (.tuple #[.slice a dl b, .slice c ml d, .int .i64 0]) ∧ P4 a b c d w') ∧
      (∀ a b c d V, P4 a b c d V → Calls Tryz.prog 27 #[.pointer (some ⟨Zy.nb, 0, none⟩)] V fun e w' => ∃ t, e = .returned (.int .i64 t) ∧ P5 a b c d t w') ∧
      (∀ a b c d t V, P5 a b c d t V → Calls Tryz.prog 18 #[.pointer (some ⟨Zy.nb, 0, none⟩), .int .i64 t] V fun e w' => ∃ a' b' c' d', e = .returned (.tuple #[.slice a' dl b', .slice c' ml d', .int .i64 0]) ∧ P6 a b c d a' b' c' d' w') ∧
      (∀ a b c d a' b' c' d' V, P6 a b c d a' b' c' d' V → Calls Tryz.prog 20 #[.slice a dl b, .slice a' dl b'] V fun e w' => e = .returned (.bool true) ∧ P6 a b c d a' b' c' d' w') ∧
      (∀ a b c d a' b' c' d' V, P6 a b c d a' b' c' d' V → Calls Tryz.prog 21 #[.slice c ml d, .slice c' ml d'] V fun e w' => e = .returned (.bool true) ∧ P6 a b c d a' b' c' d' w') ∧
      (∀ a b c d a' b' c' d' V, P6 a b c d a' b' c' d' V → Calls Tryz.prog 22 #[.pointer (some ⟨Zx.nb, 0, none⟩)] V fun e w' => e = .returned (.int .i64 S) ∧ V = w') ∧
      (∀ a b c d a' b' c' d' V, P6 a b c d a' b' c' d' V → Calls Tryz.prog 22 #[.pointer (some ⟨Zy.nb, 0, none⟩)] V fun e w' => e = .returned (.int .i64 S) ∧ V = w') ∧
      (∀ a b c d a' b' c' d' V, P6 a b c d a' b' c' d' V → Calls Tryz.prog 31 #[.pointer (some ⟨Zx.nb, 0, none⟩)] V fun e w' => ∃ g h, e = .returned (.slice g ql h) ∧ P6 a b c d a' b' c' d' w') ∧
      (∀ a b c d a' b' c' d' V, P6 a b c d a' b' c' d' V → Calls Tryz.prog 31 #[.pointer (some ⟨Zy.nb, 0, none⟩)] V fun e w' => ∃ g h, e = .returned (.slice g ql h) ∧ P6 a b c d a' b' c' d' w') ∧
      (∀ a b c d a' b' c' d' V, P6 a b c d a' b' c' d' V → Below w.heap.size w V) := by
  obtain ⟨al, hk1, hl1, hal, hp⟩ := h.done hk hl
  refine ⟨(setD al).length, (setM al).length, (al.drop (Go.Proofs.YtiaopafkfadmkaaGreat.W.posT 200 al)).length, setS al, fun V => Pair w (N2 w Zx 101 al) (N1 w Zy 100 al l) (fun _ => False) V, fun V => Pair w (N2 w Zx 101 al) (N2 w Zy 101 al) (fun _ => False) V, fun t V => Pair w (N3 w Zx 101 al t) (N2 w Zy 101 al) (fun _ => False) V, fun a b c d V => Fg w Zx Zy al ((a, b), (c, d)) V, fun a b c d t V => Fh w Zx Zy al ((a, b), (c, d)) t V, fun a b c d a' b' c' d' V => Fi w Zx Zy al ((a, b), (c, d)) ((a', b'), (c', d')) V, B1 hp hk1, fun V g => B2 g hl1, fun V g => B3 g, ?_, ?_, ?_, ?_, ?_, ?_, ?_, ?_, ?_, ?_⟩
  · intro t V g
    exact (B4 (N2.th ..) g).mono fun e w' ⟨u, he, hr, hq, hf⟩ => ⟨u.1.1, u.1.2, u.2.1, u.2.2, he, hr, t, hq⟩
  · intro a b c d V g
    exact g.local
  · intro a b c d t V g
    exact g.commit.mono fun e w' ⟨v, he, hr⟩ => ⟨v.1.1, v.1.2, v.2.1, v.2.2, he, hr⟩
  · intro a b c d a' b' c' d' V g
    exact g.sameD hal
  · intro a b c d a' b' c' d' V g
    exact g.sameM hal
  · rintro a b c d a' b' c' d' V ⟨_, _, t, t', R, g⟩
    exact pair_state g
  · rintro a b c d a' b' c' d' V ⟨_, _, t, t', R, g⟩
    exact pair_state g.swap
  · rintro a b c d a' b' c' d' V g
    have g0 := g
    obtain ⟨_, _, t, t', R, q⟩ := g0
    exact (pair_waiting q).mono fun e w' ⟨x, y, he, hb⟩ => ⟨x, y, he, Fi.on g hb⟩
  · rintro a b c d a' b' c' d' V g
    have g0 := g
    obtain ⟨_, _, t, t', R, q⟩ := g0
    exact (pair_waiting q.swap).mono fun e w' ⟨x, y, he, hb⟩ => ⟨x, y, he, Fi.on g hb⟩
  · rintro a b c d a' b' c' d' V ⟨_, _, t, t', R, g⟩
    exact g.bel (N4.th ..)
end Go.Proofs.YtiaopafkfadmkaaGreat.V
