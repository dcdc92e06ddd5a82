/- Joined: the texts that follow, each with its own sentence. -/
import Derived.Test.YtiaopafkfadmkaaGreatZVm
import Derived.Test.YtiaopafkfadmkaaGreatZQe
import Derived.Test.YtiaopafkfadmkaaGreatZLn
import Derived.Test.YtiaopafkfadmkaaGreatZTk
set_option linter.unusedVariables false
set_option maxRecDepth 100000
namespace Go.Proofs.YtiaopafkfadmkaaGreat.V
open Go.RowKit Go.Shelf
theorem InB.cell {w : World} {a : Option Addr} {z : List Int} (h : InB w a z) {i : Nat} (hi : i < z.length) : ∃ v b off, 0 ≤ v ∧ v ≤ 255 ∧ a = some ⟨b, off, none⟩ ∧ ∀ W, Below w.heap.size w W → W.cell? ⟨b, off + i, none⟩ = some (.int .u8 v) ∧ b < W.heap.size := by
 obtain ⟨b, off, e1, e2, e3⟩ := h.2 (fun e => by rw [e] at hi; simp at hi)
 exact ⟨_, b, off, (h.1 i hi).1, (h.1 i hi).2, e1, fun W hW => ⟨(hW.cell (p := ⟨b, off + i, none⟩) e2).trans (e3 i hi), Nat.lt_of_lt_of_le e2 hW.size⟩⟩
def mi (t : Int) (i : Nat) : Mg := ((t, 1, (i : Int)), 0, 0, 0)
def Ms (i : Nat) (al : List Mg) : Prop := ∀ y ∈ al, y.2.2.1 = 0 ∧ 0 ≤ y.1.2.2 ∧ y.1.2.2 < (i : Int)
structure Sa (n : Nat) (i : Nat) (al : List Mg) (c : Nat) (x : X) : Prop where
 rp : W.Rp (Bo n).F 0 0 al c x.nd
 fl : x.fl = 0
 ln : al.length = i
 ms : Ms i al
structure Sw (w0 : World) (n : Nat) (Z : Ad) (i : Nat) (v : Value) (al : List Mg) (c : Nat) (x : X) (T : Nat → Prop) (W : World) : Prop where
 pn : PN w0 (Bo n) (i + 2) x Z T W
 sa : Sa n i al c x
 ow : Q.Own W v al
 nt : ∀ k, v.ownBlock = some k → ¬ T k
end Go.Proofs.YtiaopafkfadmkaaGreat.V
namespace Go.Proofs.YtiaopafkfadmkaaGreat.V
open Go.RowKit Go.Shelf
structure AI (i : Nat) (al bl bk : List Mg) : Prop where
 ln : al.length = i
 lb : bl.length ≤ i
 fm : ∀ y ∈ al, ∃ t j, y = mi t j ∧ 0 ≤ t ∧ t ≤ 255 ∧ j < i
 mm : ∀ y, y ∈ al ↔ y ∈ bl ∨ y ∈ bk
 dj : ∀ y, y ∈ bl → y ∉ bk
 nd : bk.Nodup
 kl : bk.length ≤ i
def AJ (bl bk : List Mg) (j : Nat) (al : List Mg) : Prop := ∀ y, y ∈ al ↔ y ∈ bl ∨ y ∈ bk.drop j
abbrev RV (R : Nat → Prop) (v : Value) (b : Nat) : Prop := R b ∨ v.ownBlock = some b
def A1 (w : World) (Zx Zy : Ad) (i : Nat) (a : Option Addr) (nb c : Nat) (R : Nat → Prop) (V : World) : Prop := ∃ al bl bk, AI i al bl bk ∧ nb = bk.length ∧ Pair w (N1 w Zx (i + 2) al 0) (N1 w Zy (i + 2) bl 0) (RV R (.slice a nb c)) V ∧ B.OwR B.cM 39 V (.slice a nb c) bk
def A2 (w : World) (Zx Zy : Ad) (i : Nat) (t : Int) (a : Option Addr) (nb c : Nat) (R : Nat → Prop) (V : World) : Prop := ∃ al bl bk, AI i al bl bk ∧ nb = bk.length ∧ Pair w (N1 w Zx (i + 3) (W.insM (mi t i) al) 0) (N1 w Zy (i + 2) bl 0) (RV R (.slice a nb c)) V ∧ B.OwR B.cM 39 V (.slice a nb c) bk
def A3 (w : World) (Zx Zy : Ad) (i j : Nat) (a : Option Addr) (nb c : Nat) (V : World) : Prop := ∃ al0 al bl bk, AI i al0 bl bk ∧ W.SrtM al0 ∧ AJ bl bk j al ∧ nb = bk.length ∧ Pair w (N1 w Zx (i + 2 + 2 * j) al 0) (N1 w Zy (i + 2) bl 0) (RV (fun _ => False) (.slice a nb c)) V ∧ B.OwR B.cM 39 V (.slice a nb c) bk
def setD (al : List Mg) : List Dn := (W.tr (Bo 0).F 0 0 (bel2 al)).map dn
def setM (al : List Mg) : List Mg := (W.gt (Bo 0).F (W.tr (Bo 0).F 0 0 (bel2 al))).map (fun y => y.2)
def setS (al : List Mg) : Int := (W.fin (Bo 0).F 0 0 (bel2 al)).1
theorem setD_len (al : List Mg) (h : al.length ≤ 30) : (setD al).length ≤ 30 := by
 unfold setD bel2
 rw [List.length_map, W.tr_len]
 exact Nat.le_trans (List.length_filter_le _ _) h
theorem setM_len (al : List Mg) (h : al.length ≤ 30) : (setM al).length ≤ 60 := by
 unfold setM bel2
 rw [List.length_map]
 refine Nat.le_trans (gt_len2 fun e he => ?_) ?_
 ·obtain ⟨_, s', n', _, _, _, g5⟩ := tr_mem _ _ _ he
  rw [g5]
  exact bo_held 0 s' n' e.m
 ·rw [W.tr_len]
  have := List.length_filter_le (fun m : Mg => decide (m.1.1 < 200)) al
  omega
theorem N3.commit {w : World} {Z : Ad} {al : List Mg} {t : Int} {T : Nat → Prop} {V : World} (h : N3 w Z 101 al t T V) :
  Calls Tryz.prog 18 #[.pointer (some ⟨Z.nb, 0, none⟩), .int .i64 t] V fun e w' => ∃ (u : (Option Addr × Nat) × (Option Addr × Nat)) (T' : Nat → Prop), (e = .returned (.tuple #[.slice u.1.1 (setD al).length u.1.2, .slice u.2.1 (setM al).length u.2.2, .int .i64 0]) ∧ (B.OwR cD 49 w' (.slice u.1.1 (setD al).length u.1.2) (setD al) ∧ ∀ k, (Value.slice u.1.1 (setD al).length u.1.2).ownBlock = some k → V.heap.size ≤ k ∧ ¬ T' k) ∧ B.OwR B.cM 39 w' (.slice u.2.1 (setM al).length u.2.2) (setM al) ∧ ∀ k, (Value.slice u.2.1 (setM al).length u.2.2).ownBlock = some k → V.heap.size ≤ k ∧ ¬ T' k) ∧ N4 w Z 101 al t T' w' ∧ Mw T T' V w' := by
 obtain ⟨n, h⟩ := h
 refine (h.commit (by omega)).mono ?_
 rintro e w' ⟨T', a, n1, c, a2, n2, c2, he, p1, p2, p3, p4, p5⟩
 rw [bo_fe n 0] at p3 p4
 have q3 : B.OwR cD 49 w' (.slice a n1 c) (setD al) := p3.1
 have q4 : B.OwR B.cM 39 w' (.slice a2 n2 c2) (setM al) := p4
 obtain ⟨_, _, e3, _⟩ := q3.rd (N := fun _ => True) (fun _ _ => trivial)
 obtain ⟨_, _, e4, _⟩ := q4.rd (N := fun _ => True) (fun _ _ => trivial)
 simp at e3 e4
 obtain ⟨rfl, rfl, rfl⟩ := e3
 obtain ⟨rfl, rfl, rfl⟩ := e4
 exact ⟨((a, c), (a2, c2)), T', ⟨he, ⟨q3, p3.2⟩, q4, p5⟩, ⟨n, p1⟩, p2⟩
theorem N4.state {w : World} {Z : Ad} {al : List Mg} {t : Int} {T : Nat → Prop} {V : World} (h : N4 w Z 101 al t T V) :
  Calls Tryz.prog 22 #[.pointer (some ⟨Z.nb, 0, none⟩)] V fun e w' => e = .returned (.int .i64 (setS al)) ∧ V = w' := by
 obtain ⟨n, h⟩ := h
 have := h.state
 rw [bo_fe n 0] at this
 exact this
theorem N4.floor {w : World} {Z : Ad} {al : List Mg} {t : Int} {T : Nat → Prop} {V : World} (h : N4 w Z 101 al t T V) :
  Calls Tryz.prog 23 #[.pointer (some ⟨Z.nb, 0, none⟩)] V fun e w' => e = .returned (.int .i64 t) ∧ V = w' := by
 obtain ⟨n, h⟩ := h
 exact h.floor
structure Rws (V : World) (al : List Mg) (u : (Option Addr × Nat) × (Option Addr × Nat)) (R : Nat → Prop) : Prop where
 d : B.OwR cD 49 V (.slice u.1.1 (setD al).length u.1.2) (setD al)
 m : B.OwR B.cM 39 V (.slice u.2.1 (setM al).length u.2.2) (setM al)
 rd : ∀ k, (Value.slice u.1.1 (setD al).length u.1.2).ownBlock = some k → R k
 rm : ∀ k, (Value.slice u.2.1 (setM al).length u.2.2).ownBlock = some k → R k
def RU (al : List Mg) (u : (Option Addr × Nat) × (Option Addr × Nat)) (b : Nat) : Prop := (Value.slice u.1.1 (setD al).length u.1.2).ownBlock = some b ∨ (Value.slice u.2.1 (setM al).length u.2.2).ownBlock = some b
theorem B4 {w : World} {Zx : Ad} {Q : Th} (hQ : Thg w Q) {al : List Mg} {t : Int} {R : Nat → Prop} {V : World} (h : Pair w (N3 w Zx 101 al t) Q R V) :
  Calls Tryz.prog 18 #[.pointer (some ⟨Zx.nb, 0, none⟩), .int .i64 t] V fun e w' => ∃ u : (Option Addr × Nat) × (Option Addr × Nat), e = .returned (.tuple #[.slice u.1.1 (setD al).length u.1.2, .slice u.2.1 (setM al).length u.2.2, .int .i64 0]) ∧ Rws w' al u (RU al u) ∧ Pair w (N4 w Zx 101 al t) Q (fun b => R b ∨ RU al u b) w' ∧ Fr (fun b => ¬ R b) V w' := by
 obtain ⟨Tx, Ty, h1, h2, h3, h4⟩ := h
 have hw := (hQ.bel h2).size
 refine h1.commit.mono fun e w' ⟨u, T', ⟨he, ⟨q1, q2⟩, q3, q4⟩, p1, p2⟩ => ⟨u, he, ⟨q1, q3, fun k e => .inl e, fun k e => .inr e⟩, ⟨T', Ty, p1, hQ.keep h2 p2.fr (fun k a b => h3 k b a) ((N3.th w Zx 101 al t).lo h1), fun b a c => h3 b (p2.new b (hQ.lt h2 b c) a) c, fun b r => ?_⟩, p2.fr.wide fun b a r => (h4 b r).2.2.1 a⟩
 rcases r with r | r | r
 ·obtain ⟨r1, r2, r3, r4⟩ := h4 b r
  exact ⟨r1, Nat.lt_of_lt_of_le r2 p2.fr.size, fun a => r3 (p2.new b r2 a), r4⟩
 ·have := q2 b r
  exact ⟨by omega, q1.lt r, this.2, fun g => by have := hQ.lt h2 b g; omega⟩
 ·have := q4 b r
  exact ⟨by omega, q3.lt r, this.2, fun g => by have := hQ.lt h2 b g; omega⟩
theorem Rws.below {V V' : World} {al : List Mg} {u : (Option Addr × Nat) × (Option Addr × Nat)} {R : Nat → Prop} (h : Rws V al u R) (hb : Below V.heap.size V V') : Rws V' al u R := ⟨h.d.below hb, h.m.below hb, h.rd, h.rm⟩
theorem N2.loc2 {w : World} {P : Th} (hP : Thg w P) {Zy : Ad} {al : List Mg} {R : Nat → Prop} {V : World} (h : Pair w P (N2 w Zy 101 al) R V) :
  Calls Tryz.prog 27 #[.pointer (some ⟨Zy.nb, 0, none⟩)] V fun e w' => ∃ t, (e = .returned (.int .i64 t) ∧ 200 ≤ t) ∧ Pair w P (N3 w Zy 101 al t) R w' ∧ Below V.heap.size V w' := by
 obtain ⟨Tx, Ty, h1, ⟨n, h2⟩, h3, h4⟩ := h
 refine h2.local.mono fun e w' ⟨t, he, ht, p1, hb⟩ => ⟨t, ⟨he, ht⟩, ⟨Tx, Ty, hP.keep h1 (B.Fr.of_below (S := fun _ => False) hb) (fun _ _ g => g) (fun _ g => g.elim), ⟨n, p1⟩, h3, fun b r => ?_⟩, hb⟩
 obtain ⟨r1, r2, r3, r4⟩ := h4 b r
 exact ⟨r1, Nat.lt_of_lt_of_le r2 hb.size, r3, r4⟩
theorem pair_state {w : World} {Q : Th} {Zx : Ad} {al : List Mg} {t : Int} {R : Nat → Prop} {V : World} (h : Pair w (N4 w Zx 101 al t) Q R V) :
  Calls Tryz.prog 22 #[.pointer (some ⟨Zx.nb, 0, none⟩)] V fun e w' => e = .returned (.int .i64 (setS al)) ∧ V = w' := by
 obtain ⟨Tx, Ty, h1, _⟩ := h
 exact h1.state
theorem pair_floor {w : World} {Q : Th} {Zx : Ad} {al : List Mg} {t : Int} {R : Nat → Prop} {V : World} (h : Pair w (N4 w Zx 101 al t) Q R V) :
  Calls Tryz.prog 23 #[.pointer (some ⟨Zx.nb, 0, none⟩)] V fun e w' => e = .returned (.int .i64 t) ∧ V = w' := by
 obtain ⟨Tx, Ty, h1, _⟩ := h
 exact h1.floor
end Go.Proofs.YtiaopafkfadmkaaGreat.V
namespace Go.Proofs.YtiaopafkfadmkaaGreat.V
open Go.RowKit Go.Shelf
def mj (t : Int) (i : Nat) : Mg := ((t, 1, (i : Int)), 0, 0, (i : Int))
theorem mj_wf {t : Int} {i : Nat} (h0 : 0 ≤ t) (h1 : t ≤ 255) (hi : i ≤ 1000) : B.mwf (mj t i) := by
 refine ⟨⟨?_, ?_, ?_⟩, ?_, ?_, ?_⟩ <;> simp only [mj, B.i64] <;> omega
structure SI (i : Nat) (al : List Mg) : Prop where
 ln : al.length = i
 fm : ∀ y ∈ al, ∃ t j, y = mj t j ∧ 0 ≤ t ∧ t ≤ 255 ∧ j < i
theorem SI.zero : SI 0 [] := ⟨rfl, fun y hy => (by cases hy)⟩
theorem SI.new {i : Nat} {al : List Mg} (h : SI i al) (t : Int) : ∀ y ∈ al, y.1 ≠ (t, 1, (i : Int)) := fun y hy e => by
 obtain ⟨t', j, rfl, _, _, hj⟩ := h.fm y hy
 simp [mj] at e
 omega
theorem SI.ins {i : Nat} {al : List Mg} (h : SI i al) {t : Int} (h0 : 0 ≤ t) (h1 : t ≤ 255) : SI (i + 1) (W.insM (mj t i) al) := by
 refine ⟨by rw [W.insM_len, h.ln], fun y hy => ?_⟩
 rcases (W.insM_mem _ _ _).1 hy with rfl | g
 ·exact ⟨t, i, rfl, h0, h1, by omega⟩
 ·obtain ⟨t', j, e, a, b, c⟩ := h.fm y g
  exact ⟨t', j, e, a, b, by omega⟩
theorem bo_once (n : Nat) (s k : Int) (m : Mg) : (((Bo n).F.tk s k m).2.2.filter (Bo n).F.op).length ≤ 2 := by
 rw [bo_tk2]
 rcases bo_os n s m.2.2.1 with e | e | e
 ·rw [e, bo_n0]
  exact Nat.zero_le _
 ·rw [e, bo_f0]
  exact Nat.le_succ _
 ·rw [e, bo_f1]
  exact Nat.le_refl _
theorem fm_len2 {f : En → List Mg} : ∀ {p : List En}, (∀ e ∈ p, (f e).length ≤ 2) → (p.flatMap f).length ≤ 2 * p.length
 | [], _ => Nat.zero_le _
 | e :: r, h => by
  have h1 := fm_len2 (f := f) (p := r) (fun y hy => h y (List.mem_cons_of_mem _ hy))
  have h2 := h e (List.mem_cons_self ..)
  rw [List.flatMap_cons, List.length_append, List.length_cons]
  omega
theorem Sb.once {n : Nat} {al : List Mg} {c : Nat} {x : X} (h : Sb n al c x) : ∀ e ∈ x.nd.p, (e.os.filter (Bo n).F.op).length ≤ 2 := fun e he => by
 rw [h.rp.p] at he
 obtain ⟨_, s', n', _, _, _, g5⟩ := tr_mem _ _ _ he
 rw [g5]
 exact bo_once n s' n' e.m
theorem Sb.ou_len {n : Nat} {al : List Mg} {c : Nat} {x : X} (h : Sb n al c x) : (W.ou (Bo n).F x.nd.p).length ≤ 60 := by
 have h1 : (W.ou (Bo n).F x.nd.p).length ≤ 2 * x.nd.p.length := fm_len2 h.once
 have := h.q.2.1
 have := h.q.2.2.1
 have := h.ln
 omega
theorem Sb.antis_len {n : Nat} {al : List Mg} {c : Nat} {x : X} (h : Sb n al c x) (k : Kg) : (W.antis (Bo n).F k x.nd).length ≤ 60 := by
 unfold W.antis
 refine Nat.le_trans (fm_len2 fun e he => h.once e (mem_fil (List.mem_reverse.1 he))) ?_
 rw [List.length_reverse]
 refine Nat.le_trans (Nat.mul_le_mul_left 2 (List.length_filter_le _ _)) ?_
 have := h.q.2.1
 have := h.q.2.2.1
 have := h.ln
 omega
theorem Sb.stp_len {n : Nat} {al : List Mg} {c : Nat} {x : X} (h : Sb n al c x) : (stepI (Bo n) x).length ≤ 60 := by
 unfold stepI stepO
 split
 ·exact Nat.le_trans (bo_once n _ _ _) (by omega)
 ·exact Nat.zero_le _
theorem its1 (l : List Mg) : G.its (itm 1 l) = l.map (fun m => (false, m)) := by
 unfold G.its itm
 rw [List.map_map]
 rfl
theorem its0 (l : List Mg) : G.its (itm 0 l) = l.map (fun m => (true, m)) := by
 unfold G.its itm
 rw [List.map_map]
 rfl
def NS (w : World) (Z : Ad) (M : Nat) (al : List Mg) (k : Nat) (lf : List Mg) : Th := fun T V => ∃ n x c, PN w (Bo n) M x Z T V ∧ Sb n al c x ∧ min k (Go.Proofs.YtiaopafkfadmkaaGreat.W.posT 200 al) ≤ c ∧ lf = Go.Proofs.YtiaopafkfadmkaaGreat.W.ou (Bo 0).F x.nd.p
theorem NS.th (w : World) (Z : Ad) (M : Nat) (al : List Mg) (k : Nat) (lf : List Mg) : Thg w (NS w Z M al k lf) := ⟨fun ⟨n, x, c, h, g⟩ hf hS h0 => ⟨n, x, c, h.keep hf hS h0, g⟩, fun ⟨n, x, c, h, _⟩ => h.lt, fun ⟨n, x, c, h, _⟩ => h.lo, fun ⟨n, x, c, h, _⟩ => h.bel⟩
theorem NS.fac {w : World} {Z : Ad} {M : Nat} {al : List Mg} {k : Nat} {lf : List Mg} {T : Nat → Prop} {V : World} (h : NS w Z M al k lf T V) : W.SrtM al ∧ lf.length ≤ 60 := by
 obtain ⟨n, x, c, h1, h2, h3, h4⟩ := h
 refine ⟨h2.rp.srt, ?_⟩
 rw [h4, bo_fe 0 n]
 exact h2.ou_len
theorem Pair.re {w : World} {P P' Q : Th} (hP : Thg w P) (hP' : Thg w P') (hQ : Thg w Q) {R R' : Nat → Prop} {Tx Ty T' : Nat → Prop} {V V' : World} (h1 : P Tx V) (h2 : Q Ty V) (h3 : ∀ b, Tx b → ¬ Ty b) (h4 : ∀ b, R b → w.heap.size ≤ b ∧ b < V.heap.size ∧ ¬ Tx b ∧ ¬ Ty b) (g1 : P' T' V') (hm : Mw Tx T' V V') (hR : ∀ b, R' b → R b ∨ V.heap.size ≤ b ∧ b < V'.heap.size ∧ ¬ T' b) : Pair w P' Q R' V' ∧ Fr (fun b => ¬ R b) V V' := by
 have hw := (hP.bel h1).size
 refine ⟨⟨T', Ty, g1, hQ.keep h2 hm.fr (fun k a b => h3 k b a) (hP.lo h1), fun b a c => h3 b (hm.new b (hQ.lt h2 b c) a) c, fun b r => ?_⟩, hm.fr.wide fun b a r => (h4 b r).2.2.1 a⟩
 rcases hR b r with r | ⟨q1, q2, q3⟩
 ·obtain ⟨r1, r2, r3, r4⟩ := h4 b r
  exact ⟨r1, Nat.lt_of_lt_of_le r2 hm.fr.size, fun a => r3 (hm.new b r2 a), r4⟩
 ·exact ⟨by omega, q2, q3, fun g => by have := hQ.lt h2 b g; omega⟩
abbrev own (v : Value) (b : Nat) : Prop := v.ownBlock = some b
def S1 (w : World) (Z : Ad) (i k : Nat) (a1 : Option Addr) (n1 c1 : Nat) (a2 : Option Addr) (n2 c2 : Nat) (V : World) : Prop := ∃ al lf, SI i al ∧ n1 = lf.length ∧ n2 = al.length ∧ Pair w (NS w Z (i + 2) al k lf) (Non w) (fun b => own (.slice a1 n1 c1) b ∨ own (.slice a2 n2 c2) b) V ∧ B.OwR B.cM 39 V (.slice a1 n1 c1) lf ∧ B.OwR B.cM 39 V (.slice a2 n2 c2) al ∧ ∀ b, own (.slice a1 n1 c1) b → ¬ own (.slice a2 n2 c2) b
def Sm1 (w : World) (Z : Ad) (i : Nat) (t : Int) (a1 : Option Addr) (n1 c1 : Nat) (a2 : Option Addr) (n2 c2 : Nat) (V : World) : Prop := ∃ al lf, SI i al ∧ n1 = lf.length ∧ n2 = al.length + 1 ∧ Pair w (NS w Z (i + 2) al 0 lf) (Non w) (fun b => own (.slice a1 n1 c1) b ∨ own (.slice a2 n2 c2) b) V ∧ B.OwR B.cM 39 V (.slice a1 n1 c1) lf ∧ B.OwR B.cM 39 V (.slice a2 n2 c2) (W.insM (mj t i) al) ∧ ∀ b, own (.slice a1 n1 c1) b → ¬ own (.slice a2 n2 c2) b
def Sh (w : World) (Z : Ad) (i k : Nat) (a1 : Option Addr) (n1 c1 : Nat) (a2 : Option Addr) (n2 c2 : Nat) (a3 : Option Addr) (n3 c3 : Nat) (V : World) : Prop := ∃ al lf lf' it, SI i al ∧ n1 = lf.length ∧ n2 = al.length ∧ n3 = it.length ∧ it.length ≤ 60 ∧ Go.Proofs.YtiaopafkfadmkaaGreat.W.tkn lf (G.its it) = some lf' ∧ lf.length ≤ 60 ∧ Pair w (NS w Z (i + 2) al k lf') (Non w) (fun b => own (.slice a1 n1 c1) b ∨ own (.slice a2 n2 c2) b) V ∧ B.OwR B.cM 39 V (.slice a1 n1 c1) lf ∧ B.OwR B.cM 39 V (.slice a2 n2 c2) al ∧ (∀ b, own (.slice a1 n1 c1) b → ¬ own (.slice a2 n2 c2) b) ∧ B.OwR G.cI 41 V (.slice a3 n3 c3) it ∧ ∀ b, own (.slice a3 n3 c3) b → ¬ own (.slice a1 n1 c1) b
theorem S1.bel {w : World} {Z : Ad} {i k : Nat} {a1 : Option Addr} {n1 c1 : Nat} {a2 : Option Addr} {n2 c2 : Nat} {V : World} (h : S1 w Z i k a1 n1 c1 a2 n2 c2 V) : Below w.heap.size w V := by
 obtain ⟨al, lf, h1, h2, h3, h4, _⟩ := h
 exact h4.bel (NS.th ..)
theorem S1.on {w : World} {Z : Ad} {i k : Nat} {a1 : Option Addr} {n1 c1 : Nat} {a2 : Option Addr} {n2 c2 : Nat} {V V' : World} (h : S1 w Z i k a1 n1 c1 a2 n2 c2 V) (hb : Below V.heap.size V V') : S1 w Z i k a1 n1 c1 a2 n2 c2 V' := by
 obtain ⟨al, lf, h1, h2, h3, h4, h5, h6, h7⟩ := h
 exact ⟨al, lf, h1, h2, h3, h4.on (NS.th ..) (Non.th w) hb, h5.below hb, h6.below hb, h7⟩
theorem Sh.on {w : World} {Z : Ad} {i k : Nat} {a1 : Option Addr} {n1 c1 : Nat} {a2 : Option Addr} {n2 c2 : Nat} {a3 : Option Addr} {n3 c3 : Nat} {V V' : World} (h : Sh w Z i k a1 n1 c1 a2 n2 c2 a3 n3 c3 V) (hb : Below V.heap.size V V') : Sh w Z i k a1 n1 c1 a2 n2 c2 a3 n3 c3 V' := by
 obtain ⟨al, lf, lf', it, h1, h2, h3, h4, h5, h6, h7, h8, h9, hA, hB, hC, hD⟩ := h
 exact ⟨al, lf, lf', it, h1, h2, h3, h4, h5, h6, h7, h8.on (NS.th ..) (Non.th w) hb, h9.below hb, hA.below hb, hB, hC.below hb, hD⟩
theorem S1.any {w : World} {Z : Ad} {i k : Nat} {a1 : Option Addr} {n1 c1 : Nat} {a2 : Option Addr} {n2 c2 : Nat} {V : World} (h : S1 w Z i k a1 n1 c1 a2 n2 c2 V) : S1 w Z i 0 a1 n1 c1 a2 n2 c2 V := by
 obtain ⟨al, lf, h1, h2, h3, h4, h5⟩ := h
 exact ⟨al, lf, h1, h2, h3, h4.imp (fun T ⟨n, x, c, g1, g2, g3, g4⟩ => ⟨n, x, c, g1, g2, by simp, g4⟩) (fun T q => q), h5⟩
theorem S1.start {w : World} {n : Nat} {Z : Ad} {T : Nat → Prop} {V : World} (h : PN w (Bo n) 2 (x0 0 0) Z T V) : S1 w Z 0 0 (some ⟨V.heap.size, 0, none⟩) 0 0 (some ⟨V.heap.size + 1, 0, none⟩) 0 0 ((V.alloc (.cells #[] 39)).alloc (.cells #[] 39)) := by
 have e : (V.alloc (.cells #[] 39)).heap.size = V.heap.size + 1 := by simp
 have e2 : ((V.alloc (.cells #[] 39)).alloc (.cells #[] 39)).heap.size = V.heap.size + 2 := by simp
 have hb : Below V.heap.size V ((V.alloc (.cells #[] 39)).alloc (.cells #[] 39)) := (B.al V _).trans ((B.al _ _).mono (B.al V _).size)
 have hw := h.bel.size
 refine ⟨[], [], SI.zero, rfl, rfl, ⟨T, fun _ => False, ⟨n, _, 0, h.below hb, Sb.zero n, by simp, rfl⟩, ⟨fun _ g => g, h.bel.trans (hb.mono hw)⟩, fun _ _ g => g, fun b r => ?_⟩, (B.OwR.made B.cM _ V).below (B.al _ _), ?_, fun b r q => ?_⟩
 ·refine ⟨?_, ?_, fun g => ?_, fun g => g⟩
  ·rcases r with r | r <;> simp [own, Value.ownBlock] at r <;> omega
  ·rw [e2]
   rcases r with r | r <;> simp [own, Value.ownBlock] at r <;> omega
  ·have := h.lt b g
   rcases r with r | r <;> simp [own, Value.ownBlock] at r <;> omega
 ·have := B.OwR.made B.cM 39 (V.alloc (.cells #[] 39))
  rw [e] at this
  exact this
 ·simp [own, Value.ownBlock] at r q
  omega
theorem S1.ins {w : World} {Z : Ad} {i k : Nat} {a1 : Option Addr} {n1 c1 : Nat} {a2 : Option Addr} {n2 c2 : Nat} {V : World} (h : S1 w Z i k a1 n1 c1 a2 n2 c2 V) (t : Int) (hi : i < 30) :
  Calls Tryz.prog 36 #[.slice a2 n2 c2, .agg #[.int .i64 t, .int .i64 1, .int .i64 (i : Int), .int .i64 0, .int .i64 0, .int .i64 (i : Int)]] V fun e w' => ∃ a n c, e = .returned (.slice a n c) ∧ Sm1 w Z i t a1 n1 c1 a n c w' ∧ Below V.heap.size V w' := by
 obtain ⟨al, lf, h1, h2, h3, h4, h5, h6, h7⟩ := h
 have hs : W.SrtM al := by
  obtain ⟨Tx, Ty, g, _⟩ := h4
  exact g.fac.1
 have h6' : Q.Own V (.slice a2 n2 c2) al := h6
 refine (Q.insert_any h6' (by rw [h1.ln]; omega) (mj t i)).mono fun e w' ⟨v', he, ho, hn, hb⟩ => ?_
 rw [srt_ins hs (m := mj t i) (fun y hy => h1.new t y hy)] at ho
 have ho' : B.OwR B.cM 39 w' v' (W.insM (mj t i) al) := ho
 obtain ⟨a, c, e3, _⟩ := ho'.rd (N := fun _ => True) (fun _ _ => trivial)
 subst e3
 refine ⟨a, _, c, he, ⟨al, lf, h1, h2, by rw [W.insM_len], ?_, h5.below hb, ho', fun b r q => ?_⟩, hb⟩
 ·refine (h4.other (NS.th ..) (Non.th w) (B.Fr.of_below (S := fun _ => False) hb) (fun _ g => g.elim) (fun b r => ?_)).imp (fun T ⟨n, x, c, g1, g2, g3, g4⟩ => ⟨n, x, c, g1, g2, by simp, g4⟩) (fun T q => q)
  rcases r with r | r
  ·exact ⟨Nat.lt_of_lt_of_le (h5.lt r) hb.size, fun _ => .inl r⟩
  ·exact ⟨ho'.lt r, fun g => by have := hn b r; omega⟩
 ·have := hn b q
  have := h5.lt r
  omega
theorem Sm1.hear {w : World} {Z : Ad} {i : Nat} {t : Int} {a1 : Option Addr} {n1 c1 : Nat} {a2 : Option Addr} {n2 c2 : Nat} {V : World} (h : Sm1 w Z i t a1 n1 c1 a2 n2 c2 V) (h0 : 0 ≤ t) (h1 : t ≤ 255) (hi : i < 30) :
  Calls Tryz.prog 13 #[.pointer (some ⟨Z.nb, 0, none⟩), .int .i64 1, .agg #[.int .i64 0, .int .i64 t, .int .i64 1, .int .i64 (i : Int), .int .i64 0, .int .i64 0, .int .i64 (i : Int), .int .i64 0]] V fun e w' => ∃ a n c, e = .returned (.tuple #[.slice a n c, .int .i64 0]) ∧ Sh w Z (i + 1) 0 a1 n1 c1 a2 n2 c2 a n c w' := by
 obtain ⟨al, lf, q1, q2, q3, ⟨Tx, Ty, ⟨n, x, c, p1, p2, p3, p4⟩, r2, r3, r4⟩, q5, q6, q7⟩ := h
 have hne := q1.new t
 obtain ⟨e1, e2, e3, e4⟩ := p2.plain (m := mj t i) ⟨rfl, h0, h1⟩ hne (by rw [q1.ln]; exact hi)
 have hlu : W.tkn lf (G.its (itm 1 (hearI (Bo n) x 1 0 (mj t i)))) = some (W.ou (Bo 0).F (hearX (Bo n) x 1 0 (mj t i)).nd.p) := by
  rw [its1, e3, e2, p4, bo_fe 0 n]
  exact W.left_undo (bo_ris n) p2.rp (mj t i).1
 have hlf : lf.length ≤ 60 := by
  rw [p4, bo_fe 0 n]
  exact p2.ou_len
 refine (op_hear p1 1 0 0 (mj t i) (by kernel_rfl) (mj_wf h0 h1 (by omega))).mono fun e w' ⟨T', a, n', cc, he, g1, g2, g3, g4⟩ => ?_
 rw [e1] at he
 have hP' : NS w Z (i + 1 + 2) (W.insM (mj t i) al) 0 (W.ou (Bo 0).F (hearX (Bo n) x 1 0 (mj t i)).nd.p) T' w' := ⟨n, _, _, g1, e4, by simp, rfl⟩
 obtain ⟨k1, k2⟩ := Pair.re (P := NS w Z (i + 2) al 0 lf) (R' := fun b => own (.slice a1 n1 c1) b ∨ own (.slice a2 n2 c2) b) (NS.th ..) (NS.th ..) (Non.th w) ⟨n, x, c, p1, p2, p3, p4⟩ r2 r3 r4 hP' g2 (fun b r => .inl r)
 have hn' : n' = (itm 1 (hearI (Bo n) x 1 0 (mj t i))).length := by
  obtain ⟨_, _, e9, _⟩ := g3.rd (N := fun _ => True) (fun _ _ => trivial)
  simp at e9
  rw [e9.2.1]
 refine ⟨a, n', cc, he, _, lf, _, _, q1.ins h0 h1, q2, by rw [W.insM_len]; exact q3, hn', ?_, hlu, hlf, k1, row_keep q5 k2 (fun b r => .inl r), row_keep q6 k2 (fun b r => .inr r), q7, g3, fun b r q => ?_⟩
 ·rw [itm_len, e3]
  exact p2.antis_len _
 ·have := (g4 b r).1
  have := q5.lt q
  omega
theorem S1.step {w : World} {Z : Ad} {i k : Nat} {a1 : Option Addr} {n1 c1 : Nat} {a2 : Option Addr} {n2 c2 : Nat} {V : World} (h : S1 w Z i k a1 n1 c1 a2 n2 c2 V) (hi : i ≤ 30) :
  Calls Tryz.prog 16 #[.pointer (some ⟨Z.nb, 0, none⟩)] V fun e w' => ∃ t0 t1 t2 t3 t4 t5 t6 a n c E, e = .returned (.tuple #[.agg #[.int .i64 t0, .int .i64 t1, .int .i64 t2, .int .i64 t3, .int .i64 t4, .int .i64 t5, .int .i64 t6], .slice a n c, .int .i64 E]) ∧ Sh w Z i (k + 1) a1 n1 c1 a2 n2 c2 a n c w' := by
 obtain ⟨al, lf, q1, q2, q3, ⟨Tx, Ty, ⟨n, x, c, p1, p2, p3, p4⟩, r2, r3, r4⟩, q5, q6, q7⟩ := h
 obtain ⟨e1, e2, e4⟩ := p2.step
 have hlu : W.tkn lf (G.its (itm 0 (stepI (Bo n) x))) = some (W.ou (Bo 0).F (stepX (Bo n) x).nd.p) := by
  rw [its0, e2, e1, p4, bo_fe 0 n]
  exact W.left_stp 200
 have hlf : lf.length ≤ 60 := by
  rw [p4, bo_fe 0 n]
  exact p2.ou_len
 refine (op_step p1 (by omega)).mono fun e w' ⟨T', a, n', cc, he, g1, g2, g3, g4⟩ => ?_
 have hP' : NS w Z (i + 2) al (k + 1) (W.ou (Bo 0).F (stepX (Bo n) x).nd.p) T' w' := ⟨n, _, _, g1, e4, by omega, rfl⟩
 obtain ⟨k1, k2⟩ := Pair.re (P := NS w Z (i + 2) al k lf) (R' := fun b => own (.slice a1 n1 c1) b ∨ own (.slice a2 n2 c2) b) (NS.th ..) (NS.th ..) (Non.th w) ⟨n, x, c, p1, p2, p3, p4⟩ r2 r3 r4 hP' g2 (fun b r => .inl r)
 have hn' : n' = (itm 0 (stepI (Bo n) x)).length := by
  obtain ⟨_, _, e9, _⟩ := g3.rd (N := fun _ => True) (fun _ _ => trivial)
  simp at e9
  rw [e9.2.1]
 refine ⟨_, _, _, _, _, _, _, a, n', cc, _, he, al, lf, _, _, q1, q2, q3, hn', ?_, hlu, hlf, k1, row_keep q5 k2 (fun b r => .inl r), row_keep q6 k2 (fun b r => .inr r), q7, g3, fun b r q => ?_⟩
 ·rw [itm_len]
  exact p2.stp_len
 ·have := (g4 b r).1
  have := q5.lt q
  omega
theorem Sh.taken {w : World} {Z : Ad} {i k : Nat} {a1 : Option Addr} {n1 c1 : Nat} {a2 : Option Addr} {n2 c2 : Nat} {a3 : Option Addr} {n3 c3 : Nat} {V : World} (h : Sh w Z i k a1 n1 c1 a2 n2 c2 a3 n3 c3 V) :
  Calls Tryz.prog 37 #[.slice a1 n1 c1, .slice a3 n3 c3] V fun e w' => ∃ a n c, e = .returned (.tuple #[.slice a n c, .bool true]) ∧ S1 w Z i k a n c a2 n2 c2 w' := by
 obtain ⟨al, lf, lf', it, h1, h2, h3, h4, h5, h6, h7, h8, h9, hA, hB, hC, hD⟩ := h
 have hR : B.RdN G.cI (fun b => ¬ (Value.slice a1 n1 c1).ownBlock = some b) V a3 it := by
  obtain ⟨a, c, e, g⟩ := hC.rd (N := fun b => ¬ (Value.slice a1 n1 c1).ownBlock = some b) (fun b r q => hD b r q)
  simp at e
  rw [e.1]
  exact g
 refine (G.taken_any (mc := c3) h9 hR h4.symm (by omega) h6).mono fun e w' ⟨a', c', he, ho, hm⟩ => ?_
 refine ⟨a', _, c', he, al, lf', h1, rfl, h3, ?_, ho, hA.keep hm.fr (fun b r q => hB b q r), fun b r q => hB b (hm.new b (hA.lt q) r) q⟩
 refine h8.other (NS.th ..) (Non.th w) hm.fr (fun b r => .inl r) (fun b r => ?_)
 rcases r with r | r
 ·exact ⟨ho.lt r, fun g => .inl (hm.new b g r)⟩
 ·exact ⟨Nat.lt_of_lt_of_le (hA.lt r) hm.fr.size, fun _ => .inr r⟩
def setL (al : List Mg) : List Mg := W.ou (Bo 0).F (W.tr (Bo 0).F 0 0 (bel2 al))
def S2 (w : World) (Z : Ad) (al : List Mg) (a1 : Option Addr) (c1 : Nat) (a2 : Option Addr) (c2 : Nat) (V : World) : Prop := Pair w (N2 w Z 101 al) (Non w) (fun b => own (.slice a1 (setL al).length c1) b ∨ own (.slice a2 al.length c2) b) V ∧ B.OwR B.cM 39 V (.slice a1 (setL al).length c1) (setL al) ∧ B.OwR B.cM 39 V (.slice a2 al.length c2) al
def S3 (w : World) (Z : Ad) (al : List Mg) (t : Int) (a1 : Option Addr) (c1 : Nat) (a2 : Option Addr) (c2 : Nat) (V : World) : Prop := Pair w (N3 w Z 101 al t) (Non w) (fun b => own (.slice a1 (setL al).length c1) b ∨ own (.slice a2 al.length c2) b) V ∧ B.OwR B.cM 39 V (.slice a1 (setL al).length c1) (setL al) ∧ B.OwR B.cM 39 V (.slice a2 al.length c2) al
structure S4 (w : World) (Z : Ad) (al : List Mg) (t : Int) (a1 : Option Addr) (c1 : Nat) (a2 : Option Addr) (c2 : Nat) (u : (Option Addr × Nat) × (Option Addr × Nat)) (V : World) : Prop where
 nd : ∃ R, Pair w (N4 w Z 101 al t) (Non w) R V
 l : B.OwR B.cM 39 V (.slice a1 (setL al).length c1) (setL al)
 a : B.OwR B.cM 39 V (.slice a2 al.length c2) al
 r : Rws V al u (fun _ => True)
theorem S1.bound {w : World} {Z : Ad} {i k : Nat} {a1 : Option Addr} {n1 c1 : Nat} {a2 : Option Addr} {n2 c2 : Nat} {V : World} (h : S1 w Z i k a1 n1 c1 a2 n2 c2 V) (hk : i ≤ k) (hi : i ≤ 30) :
  ∃ al, SI i al ∧ W.SrtM al ∧ n1 = (setL al).length ∧ n2 = al.length ∧ Calls Tryz.prog 13 #[.pointer (some ⟨Z.nb, 0, none⟩), .int .i64 2, .agg #[.int .i64 2, .int .i64 1125899906842624, .int .i64 0, .int .i64 0, .int .i64 0, .int .i64 0, .int .i64 0, .int .i64 0]] V fun e w' => ∃ u, e = .returned (.tuple #[u, .int .i64 0]) ∧ S2 w Z al a1 c1 a2 c2 w' := by
 obtain ⟨al, lf, q1, q2, q3, ⟨Tx, Ty, ⟨n, x, c, p1, p2, p3, p4⟩, r2, r3, r4⟩, q5, q6, q7⟩ := h
 have hc : c = Go.Proofs.YtiaopafkfadmkaaGreat.W.posT 200 al := by
  have h1 := p2.en
  have h2 := W.posT_le 200 al
  have h3 := q1.ln
  omega
 have hlf : lf = setL al := by
  rw [p4]
  unfold setL bel2
  rw [p2.rp.p, hc, (W.posT_cut p2.rp.srt 200).1, bo_fe n 0]
 subst hlf q2 q3
 have hd : Nd1 w n (i + 2) Z al k Tx V := ⟨x, c, p1, p2, p3⟩
 refine ⟨al, q1, p2.rp.srt, rfl, rfl, ((hd.mono (M' := 100) (by omega)).bound (by rw [q1.ln]; exact hk)).mono fun e w' ⟨u, T', he, g1, g2⟩ => ?_⟩
 obtain ⟨k1, k2⟩ := Pair.re (P := NS w Z (i + 2) al k (setL al)) (P' := N2 w Z 101 al) (R' := fun b => own (.slice a1 (setL al).length c1) b ∨ own (.slice a2 al.length c2) b) (NS.th ..) (N2.th ..) (Non.th w) ⟨n, x, c, p1, p2, p3, p4⟩ r2 r3 r4 ⟨n, g1⟩ g2 (fun b r => .inl r)
 exact ⟨u, he, k1, row_keep q5 k2 (fun b r => .inl r), row_keep q6 k2 (fun b r => .inr r)⟩
theorem S2.local {w : World} {Z : Ad} {al : List Mg} {a1 : Option Addr} {c1 : Nat} {a2 : Option Addr} {c2 : Nat} {V : World} (h : S2 w Z al a1 c1 a2 c2 V) :
  Calls Tryz.prog 27 #[.pointer (some ⟨Z.nb, 0, none⟩)] V fun e w' => ∃ t, e = .returned (.int .i64 t) ∧ 200 ≤ t ∧ S3 w Z al t a1 c1 a2 c2 w' := by
 obtain ⟨h1, h2, h3⟩ := h
 exact (N2.loc2 (Non.th w) h1.swap).mono fun e w' ⟨t, ⟨he, ht⟩, hp, hb⟩ => ⟨t, he, ht, hp.swap, h2.below hb, h3.below hb⟩
theorem S3.commit {w : World} {Z : Ad} {al : List Mg} {t : Int} {a1 : Option Addr} {c1 : Nat} {a2 : Option Addr} {c2 : Nat} {V : World} (h : S3 w Z al t a1 c1 a2 c2 V) :
  Calls Tryz.prog 18 #[.pointer (some ⟨Z.nb, 0, none⟩), .int .i64 t] V fun e w' => ∃ a b c d, e = .returned (.tuple #[.slice a (setD al).length b, .slice c (setM al).length d, .int .i64 0]) ∧ S4 w Z al t a1 c1 a2 c2 ((a, b), (c, d)) w' := by
 obtain ⟨h1, h2, h3⟩ := h
 exact (B4 (Non.th w) h1).mono fun e w' ⟨u, he, hr, hp, hf⟩ => ⟨u.1.1, u.1.2, u.2.1, u.2.2, he, ⟨_, hp⟩, row_keep h2 hf (fun b r => .inl r), row_keep h3 hf (fun b r => .inr r), ⟨hr.d, hr.m, fun _ _ => trivial, fun _ _ => trivial⟩⟩
theorem S4.on {w : World} {Z : Ad} {al : List Mg} {t : Int} {a1 : Option Addr} {c1 : Nat} {a2 : Option Addr} {c2 : Nat} {u : (Option Addr × Nat) × (Option Addr × Nat)} {V V' : World} (h : S4 w Z al t a1 c1 a2 c2 u V) (hb : Below V.heap.size V V') : S4 w Z al t a1 c1 a2 c2 u V' := by
 obtain ⟨R, hp⟩ := h.nd
 exact ⟨⟨R, hp.on (N4.th ..) (Non.th w) hb⟩, h.l.below hb, h.a.below hb, h.r.below hb⟩
theorem S4.floor {w : World} {Z : Ad} {al : List Mg} {t : Int} {a1 : Option Addr} {c1 : Nat} {a2 : Option Addr} {c2 : Nat} {u : (Option Addr × Nat) × (Option Addr × Nat)} {V : World} (h : S4 w Z al t a1 c1 a2 c2 u V) :
  Calls Tryz.prog 23 #[.pointer (some ⟨Z.nb, 0, none⟩)] V fun e w' => e = .returned (.int .i64 t) ∧ V = w' := by
 obtain ⟨R, hp⟩ := h.nd
 exact pair_floor hp
theorem S4.state {w : World} {Z : Ad} {al : List Mg} {t : Int} {a1 : Option Addr} {c1 : Nat} {a2 : Option Addr} {c2 : Nat} {u : (Option Addr × Nat) × (Option Addr × Nat)} {V : World} (h : S4 w Z al t a1 c1 a2 c2 u V) :
  Calls Tryz.prog 22 #[.pointer (some ⟨Z.nb, 0, none⟩)] V fun e w' => e = .returned (.int .i64 (setS al)) ∧ V = w' := by
 obtain ⟨R, hp⟩ := h.nd
 exact pair_state hp
theorem S4.bel {w : World} {Z : Ad} {al : List Mg} {t : Int} {a1 : Option Addr} {c1 : Nat} {a2 : Option Addr} {c2 : Nat} {u : (Option Addr × Nat) × (Option Addr × Nat)} {V : World} (h : S4 w Z al t a1 c1 a2 c2 u V) : Below w.heap.size w V := by
 obtain ⟨R, hp⟩ := h.nd
 exact hp.bel (N4.th ..)
end Go.Proofs.YtiaopafkfadmkaaGreat.V
