/- Joined: the texts that follow, each with its own sentence. -/
import Derived.Test.YtiaopafkfadmkaaGreatZVm
import Derived.Test.YtiaopafkfadmkaaGreatZQe
import Derived.Test.YtiaopafkfadmkaaGreatZGa
/- Proved: what WarpStates' walk goes by: messages of class 0, some done, the others waiting. -/
namespace Go.Proofs.YtiaopafkfadmkaaGreat.V
open Go.RowKit Go.Shelf
set_option linter.unusedVariables false
set_option maxRecDepth 100000

theorem InB.cell {w : World} {a : Option Addr} {z : List Int} (h : InB w a z) {i : Nat} (hi : i < z.length) : ∃ v b off, 0 ≤ v ∧ v ≤ 255 ∧ a = some ⟨b, off, none⟩ ∧ ∀ W, Below w.heap.size w W → W.cell? ⟨b, off + i, none⟩ = some (.int .u8 v) ∧ b < W.heap.size := by
  obtain ⟨b, off, e1, e2, e3⟩ := h.2 (fun e => by rw [e] at hi; simp at hi)
  exact ⟨_, b, off, (h.1 i hi).1, (h.1 i hi).2, e1, fun W hW => ⟨(hW.cell (p := ⟨b, off + i, none⟩) e2).trans (e3 i hi), Nat.lt_of_lt_of_le e2 hW.size⟩⟩
/-- The message that comes at i. -/
def mi (t : Int) (i : Nat) : Mg := ((t, 1, (i : Int)), 0, 0, 0)
theorem mi_wf {t : Int} {i : Nat} (h0 : 0 ≤ t) (h1 : t ≤ 255) (hi : i ≤ 1000) : B.mwf (mi t i) := by
  refine ⟨⟨?_, ?_, ?_⟩, ?_, ?_, ?_⟩ <;> simp only [mi, B.i64] <;> omega
/-- What came is of class 0, from 1, numbered below i. -/
def Ms (i : Nat) (al : List Mg) : Prop := ∀ y ∈ al, y.2.2.1 = 0 ∧ 0 ≤ y.1.2.2 ∧ y.1.2.2 < (i : Int)
/-- Behind i messages: all that came, sorted; c of them are done. -/
structure Sa (n : Nat) (i : Nat) (al : List Mg) (c : Nat) (x : X) : Prop where
  rp : W.Rp (Bo n).F 0 0 al c x.nd
  fl : x.fl = 0
  ln : al.length = i
  ms : Ms i al
theorem Sa.zero (n : Nat) : Sa n 0 [] 0 (x0 0 0) := ⟨W.nil_rp _ 0 0, rfl, rfl, fun y hy => by cases hy⟩
theorem Sa.new {n i : Nat} {al : List Mg} {c : Nat} {x : X} (h : Sa n i al c x) (t : Int) : ∀ y ∈ al, y.1 ≠ (mi t i).1 := fun y hy e => by
  have h1 := (h.ms y hy).2.2
  rw [e] at h1
  simp [mi] at h1
theorem Sa.ins {n i : Nat} {al : List Mg} {c : Nat} {x : X} (h : Sa n i al c x) (t : Int) : Q.ins al (mi t i) = W.insM (mi t i) al := srt_ins h.rp.srt (h.new t)
theorem Sa.q {n i : Nat} {al : List Mg} {c : Nat} {x : X} (h : Sa n i al c x) : x.nd.q = al.drop c ∧ x.nd.p.length = c ∧ c ≤ i := by
  refine ⟨h.rp.q, ?_, by rw [← h.ln]; exact h.rp.le⟩
  rw [h.rp.p, W.tr_len, List.length_take]
  have := h.rp.le
  omega
theorem Sa.state {n i : Nat} {al : List Mg} {c : Nat} {x : X} (h : Sa n i al c x) : x.nd.s = (c : Int) % 2 := by
  have e : x.nd.s = (W.fin (Bo n).F 0 0 (al.take c)).1 := congrArg Prod.fst h.rp.s
  rw [e, (bo_fin n _ 0 (fun m hm => (h.ms m (List.mem_of_mem_take hm)).1)).1, List.length_take]
  have := h.rp.le
  rw [Nat.min_eq_left this]
theorem Sa.hear {n i : Nat} {al : List Mg} {c : Nat} {x : X} (h : Sa n i al c x) {t : Int} (h0 : 0 ≤ t) (hi : i ≤ 60) :
    hearE (Bo n) x 1 0 (mi t i) = 0 ∧ Sa n (i + 1) (W.insM (mi t i) al) (min c (W.pos (mi t i).1 al)) (hearX (Bo n) x 1 0 (mi t i)) := by
  have hq : Q.hasK x.nd.q (mi t i).1 = false := by
    rw [Bool.eq_false_iff]
    intro g
    obtain ⟨m, hm, e⟩ := hasK_iff.1 g
    rw [h.rp.q] at hm
    exact h.new t m (List.mem_of_mem_drop hm) e
  have hp : hasP x.nd.p (mi t i).1 = false := by
    rw [Bool.eq_false_iff]
    intro g
    obtain ⟨e, he, g2⟩ := hasP_iff.1 g
    have : e.m ∈ x.nd.p.map A.P.m := List.mem_map.2 ⟨e, he, rfl⟩
    rw [h.rp.p, W.tr_ms] at this
    exact h.new t _ (List.mem_of_mem_take this) g2
  have hA : hrA (Bo n) 1 = false := by kernel_rfl
  have hL : hrL (Bo n) x 1 (mi t i).1.1 = false := by
    unfold hrL
    rw [h.fl, (bo_kd n).2.1]
    simp [mi]
    omega
  obtain ⟨g1, g2, g3⟩ := h.q
  have hb : beh x.nd.p (mi t i).1 ≤ c := by
    unfold beh
    exact Nat.le_trans (List.length_filter_le _ _) (by rw [g2]; exact Nat.le_refl _)
  have hl : x.nd.q.length = i - c := by rw [g1, List.length_drop, h.ln]
  have hE : hearE (Bo n) x 1 0 (mi t i) = 0 := by
    unfold hearE
    rw [hA, hL, hq, hp]
    simp
    omega
  refine ⟨hE, ?_⟩
  have hX : hearX (Bo n) x 1 0 (mi t i) = { x with nd := W.plain (mi t i) x.nd } := by
    unfold hearX
    rw [if_pos hE]
    simp
  rw [hX]
  refine ⟨W.plain_rp h.rp _ (h.new t), h.fl, by rw [W.insM_len, h.ln], fun y hy => ?_⟩
  rcases (W.insM_mem _ _ _).1 hy with e | e
  · rw [e]
    refine ⟨rfl, ?_, ?_⟩ <;> simp only [mi] <;> omega
  · obtain ⟨q1, q2, q3⟩ := h.ms y e
    exact ⟨q1, q2, by omega⟩
theorem Sa.step {n i : Nat} {al : List Mg} {c : Nat} {x : X} (h : Sa n i al c x) : ∃ c', Sa n i al c' (stepX (Bo n) x) := by
  unfold stepX
  split
  case isFalse => exact ⟨c, h⟩
  case isTrue hE =>
    have := hd_cons (stepE_0 hE).1
    exact ⟨c + 1, W.step_rp h.rp this, h.fl, h.ln, h.ms⟩
/-- A node in use, and all that came to it as a row. -/
structure Sw (w0 : World) (n : Nat) (Z : Ad) (i : Nat) (v : Value) (al : List Mg) (c : Nat) (x : X) (T : Nat → Prop) (W : World) : Prop where
  pn : PN w0 (Bo n) (i + 2) x Z T W
  sa : Sa n i al c x
  ow : Q.Own W v al
  nt : ∀ k, v.ownBlock = some k → ¬ T k
theorem Sw.on {w0 : World} {n : Nat} {Z : Ad} {i : Nat} {v : Value} {al : List Mg} {c : Nat} {x : X} {T : Nat → Prop} {W W' : World} (h : Sw w0 n Z i v al c x T W) (hb : Below W.heap.size W W') : Sw w0 n Z i v al c x T W' :=
  ⟨h.pn.below hb, h.sa, h.ow.keep (toQ (B.Fr.of_below (S := fun _ => False) hb)) (fun _ _ g => g), h.nt⟩
/-- Stands at i. -/
def St (w0 : World) (n : Nat) (Z : Ad) (i : Nat) (v : Value) (W : World) : Prop := ∃ al c x T, Sw w0 n Z i v al c x T W
theorem St.on {w0 : World} {n : Nat} {Z : Ad} {i : Nat} {v : Value} {W W' : World} (h : St w0 n Z i v W) (hb : Below W.heap.size W W') : St w0 n Z i v W' := by
  obtain ⟨al, c, x, T, h⟩ := h
  exact ⟨al, c, x, T, h.on hb⟩
theorem St.bel {w0 : World} {n : Nat} {Z : Ad} {i : Nat} {v : Value} {W : World} (h : St w0 n Z i v W) : Below w0.heap.size w0 W := by
  obtain ⟨al, c, x, T, h⟩ := h
  exact h.pn.bel
/-- One more message: laid down, and heard. -/
def Sm (w0 : World) (n : Nat) (Z : Ad) (i : Nat) (t : Int) (v : Value) (V : World) : Prop := ∃ al c x T, PN w0 (Bo n) (i + 2) x Z T V ∧ Sa n i al c x ∧ Q.Own V v (W.insM (mi t i) al) ∧ ∀ k, v.ownBlock = some k → ¬ T k
theorem St.ins {w0 : World} {n : Nat} {Z : Ad} {i : Nat} {v : Value} {W : World} (h : St w0 n Z i v W) (t : Int) (hi : i ≤ 60) :
    Calls Tryz.prog 36 #[v, Q.mv (mi t i)] W fun e w' => ∃ v', e = .returned v' ∧ Sm w0 n Z i t v' w' ∧ Below W.heap.size W w' := by
  obtain ⟨al, c, x, T, h⟩ := h
  refine (Q.insert_any h.ow (by rw [h.sa.ln]; omega) (mi t i)).mono fun e w' ⟨v', he, ho, hn, hb⟩ => ⟨v', he, ⟨al, c, x, T, h.pn.below hb, h.sa, by rw [← h.sa.ins t]; exact ho, fun k e g => ?_⟩, hb⟩
  have := hn k e
  have := h.pn.lt k g
  omega
theorem Sm.hear {w0 : World} {n : Nat} {Z : Ad} {i : Nat} {t : Int} {v : Value} {W : World} (h : Sm w0 n Z i t v W) (h0 : 0 ≤ t) (h1 : t ≤ 255) (hi : i ≤ 60) :
    Calls Tryz.prog 13 #[.pointer (some ⟨Z.nb, 0, none⟩), .int .i64 1, .agg #[.int .i64 0, .int .i64 t, .int .i64 1, .int .i64 (i : Int), .int .i64 0, .int .i64 0, .int .i64 0, .int .i64 0]] W fun e w' => ∃ u, e = .returned (.tuple #[u, .int .i64 0]) ∧ St w0 n Z (i + 1) v w' := by
  obtain ⟨al, c, x, T, h2, h3, h4, h5⟩ := h
  obtain ⟨e1, e2⟩ := h3.hear (t := t) h0 hi
  refine (op_hear h2 1 0 0 (mi t i) (by kernel_rfl) (mi_wf h0 h1 (by omega))).mono fun e w' ⟨T', a, n', cc, he, g1, g2, g3, g4⟩ => ?_
  rw [e1] at he
  exact ⟨_, he, _, _, _, T', g1, e2, h4.keep (toQ g2.fr) h5, fun k e g => h5 k e (g2.new k (h4.lt e) g)⟩
theorem St.step {w0 : World} {n : Nat} {Z : Ad} {i : Nat} {v : Value} {W : World} (h : St w0 n Z i v W) (hi : i ≤ 60) :
    Calls Tryz.prog 16 #[.pointer (some ⟨Z.nb, 0, none⟩)] W fun e w' => ∃ u, e = .returned u ∧ St w0 n Z i v w' := by
  obtain ⟨al, c, x, T, h⟩ := h
  obtain ⟨c', e2⟩ := h.sa.step
  exact (op_step h.pn (by omega)).mono fun e w' ⟨T', a, n', cc, he, g1, g2, g3, g4⟩ => ⟨_, he, al, c', _, T', g1, e2, h.ow.keep (toQ g2.fr) h.nt, fun k e g => h.nt k e (g2.new k (h.ow.lt e) g)⟩
end Go.Proofs.YtiaopafkfadmkaaGreat.V
/- Proved: the walk of WarpStates. -/
namespace Go.Proofs.YtiaopafkfadmkaaGreat.V
open Go.RowKit Go.Shelf
set_option linter.unusedVariables false
set_option maxRecDepth 100000

theorem Sw.row {w0 : World} {n : Nat} {Z : Ad} {i : Nat} {v : Value} {al : List Mg} {c : Nat} {x : X} {T : Nat → Prop} {W : World} (h : Sw w0 n Z i v al c x T W) : ∃ a cap, v = .slice a i cap ∧ B.RdN B.cM (fun _ => True) W a al := by
  have ho : B.OwR B.cM 39 W v al := h.ow
  obtain ⟨a, cap, e, g⟩ := ho.rd (N := fun _ => True) (fun _ _ => trivial)
  rw [h.sa.ln] at e
  exact ⟨a, cap, e, g⟩
theorem Sw.waiting {w0 : World} {n : Nat} {Z : Ad} {i : Nat} {v : Value} {al : List Mg} {c : Nat} {x : X} {T : Nat → Prop} {W : World} (h : Sw w0 n Z i v al c x T W) :
    Calls Tryz.prog 31 #[.pointer (some ⟨Z.nb, 0, none⟩)] W fun e w' => ∃ a cap, e = .returned (.slice a (i - c) cap) ∧ B.RdN B.cM (fun _ => True) w' a (al.drop c) ∧ Sw w0 n Z i v al c x T w' := by
  have hw := op_waiting h.pn
  have hq := h.sa.q.1
  rw [hq, List.length_drop, h.sa.ln] at hw
  refine hw.mono fun e w' ⟨a, cap, he, ho, hn, hb⟩ => ⟨a, cap, he, ?_, h.on hb⟩
  obtain ⟨a', c', e', g⟩ := ho.rd (N := fun _ => True) (fun _ _ => trivial)
  simp at e'
  obtain ⟨rfl, _, rfl⟩ := e'
  exact g
theorem Sw.ahead {w0 : World} {n : Nat} {Z : Ad} {i : Nat} {v : Value} {al : List Mg} {c : Nat} {x : X} {T : Nat → Prop} {W : World} (h : Sw w0 n Z i v al c x T W) :
    Calls Tryz.prog 25 #[.pointer (some ⟨Z.nb, 0, none⟩)] W fun e w' => e = .returned (.int .i64 c) ∧ W = w' := by
  have := op_ahead h.pn
  rw [h.sa.q.2.1] at this
  exact this
theorem Sw.state {w0 : World} {n : Nat} {Z : Ad} {i : Nat} {v : Value} {al : List Mg} {c : Nat} {x : X} {T : Nat → Prop} {W : World} (h : Sw w0 n Z i v al c x T W) :
    Calls Tryz.prog 22 #[.pointer (some ⟨Z.nb, 0, none⟩)] W fun e w' => e = .returned (.int .i64 ((c : Int) % 2)) ∧ W = w' := by
  have := op_state h.pn
  rw [h.sa.state] at this
  exact this
theorem St.floor {w0 : World} {n : Nat} {Z : Ad} {i : Nat} {v : Value} {W : World} (h : St w0 n Z i v W) :
    Calls Tryz.prog 23 #[.pointer (some ⟨Z.nb, 0, none⟩)] W fun e w' => e = .returned (.int .i64 0) ∧ W = w' := by
  obtain ⟨al, c, x, T, h⟩ := h
  have := op_floor h.pn
  rw [h.sa.fl] at this
  exact this
/-- What waits at k is what came at c + k. -/
theorem Sw.two {w0 : World} {n : Nat} {Z : Ad} {i : Nat} {a : Option Addr} {cap : Nat} {al : List Mg} {c : Nat} {x : X} {T : Nat → Prop} {W : World} (h : Sw w0 n Z i (.slice a i cap) al c x T W) {aw : Option Addr} (hw : B.RdN B.cM (fun _ => True) W aw (al.drop c)) {k : Nat} (hk : k < i - c) :
    ∃ bw ow ba oa m1 m2 m3 m4 m5 m6, aw = some ⟨bw, ow, none⟩ ∧ a = some ⟨ba, oa, none⟩ ∧ bw < W.heap.size ∧ ba < W.heap.size ∧ (∀ W', Below W.heap.size W W' → (W'.cell? ⟨bw, ow + k * 6, none⟩ = some (.int .i64 m1) ∧ W'.cell? ⟨bw, ow + k * 6 + 1, none⟩ = some (.int .i64 m2) ∧ W'.cell? ⟨bw, ow + k * 6 + 2, none⟩ = some (.int .i64 m3) ∧ W'.cell? ⟨bw, ow + k * 6 + 3, none⟩ = some (.int .i64 m4) ∧ W'.cell? ⟨bw, ow + k * 6 + 4, none⟩ = some (.int .i64 m5) ∧ W'.cell? ⟨bw, ow + k * 6 + 5, none⟩ = some (.int .i64 m6)) ∧ (W'.cell? ⟨ba, oa + (c + k) * 6, none⟩ = some (.int .i64 m1) ∧ W'.cell? ⟨ba, oa + (c + k) * 6 + 1, none⟩ = some (.int .i64 m2) ∧ W'.cell? ⟨ba, oa + (c + k) * 6 + 2, none⟩ = some (.int .i64 m3) ∧ W'.cell? ⟨ba, oa + (c + k) * 6 + 3, none⟩ = some (.int .i64 m4) ∧ W'.cell? ⟨ba, oa + (c + k) * 6 + 4, none⟩ = some (.int .i64 m5) ∧ W'.cell? ⟨ba, oa + (c + k) * 6 + 5, none⟩ = some (.int .i64 m6))) := by
  obtain ⟨a', cap', e, g⟩ := h.row
  simp at e
  obtain ⟨rfl, rfl⟩ := e
  have hl := h.sa.ln
  have hkd : k < (al.drop c).length := by rw [List.length_drop]; omega
  have hka : c + k < al.length := by omega
  obtain ⟨⟨⟨m1, m2, m3⟩, m4, m5, m6⟩, hm⟩ : ∃ m, B.nth B.cM al (c + k) = m := ⟨_, rfl⟩
  have hm2 : B.nth B.cM (al.drop c) k = ((m1, m2, m3), m4, m5, m6) := by
    rw [B.nth_get hkd, List.getElem_drop, ← B.nth_get hka]
    exact hm
  obtain ⟨bw, ow, e1, l1, _, c0, c1, c2, c3, c4, c5⟩ := hw.msg hkd hm2
  obtain ⟨ba, oa, e2, l2, _, d0, d1, d2, d3, d4, d5⟩ := g.msg hka hm
  refine ⟨bw, ow, ba, oa, m1, m2, m3, m4, m5, m6, e1, e2, l1, l2, fun W' hb => ?_⟩
  have f1 : ∀ o, W'.cell? ⟨bw, o, none⟩ = W.cell? ⟨bw, o, none⟩ := fun o => hb.cell (p := ⟨bw, o, none⟩) l1
  have f2 : ∀ o, W'.cell? ⟨ba, o, none⟩ = W.cell? ⟨ba, o, none⟩ := fun o => hb.cell (p := ⟨ba, o, none⟩) l2
  exact ⟨⟨(f1 _).trans c0, (f1 _).trans c1, (f1 _).trans c2, (f1 _).trans c3, (f1 _).trans c4, (f1 _).trans c5⟩, (f2 _).trans d0, (f2 _).trans d1, (f2 _).trans d2, (f2 _).trans d3, (f2 _).trans d4, (f2 _).trans d5⟩
end Go.Proofs.YtiaopafkfadmkaaGreat.V
/- Proved: WarpStates gives true. -/
namespace Go.Proofs.YtiaopafkfadmkaaGreat.V
open Go.RowKit Go.Shelf
set_option linter.unusedVariables false
set_option maxRecDepth 100000

set_option maxHeartbeats 8000000 in
theorem states_walk (w : World) (sa : Option Addr) (sc : Nat) (z : List Int) (ta : Option Addr) (tc : Nat) (y : List Int) (hz : InB w sa z) (hy : InB w ta y) (hzn : z.length ≤ maxLen) (hyn : y.length ≤ maxLen) :
    Calls Tryz.prog 8 #[.slice sa z.length sc, .slice ta y.length tc] w fun e w' => e = .returned (.bool true) ∧ Below w.heap.size w w' := by
  have mixed : Tryz.prog.follows .mixedOrders = true := by kernel_rfl
  have SH := shown_any w
  obtain ⟨zl, hzl⟩ : ∃ zl, z.length = zl := ⟨_, rfl⟩
  obtain ⟨yl, hyl⟩ : ∃ yl, y.length = yl := ⟨_, rfl⟩
  unfold maxLen at hzn hyn
  rw [hzl] at hzn ⊢
  rw [hyl] at hyn ⊢
  by_cases hlong : 30 < zl
  · have hl' : decide ((30 : Int) < (zl : Int)) = true := decide_eq_true (by omega)
    clear hz hy
    go_enter Tryz.func8, Tryz.ntmps8
    go_wp2_with (go_at_call 10; refine SH.mono ?_; rintro e w1 ⟨rfl, hb⟩; have HB : Hid (Below w.heap.size w w1) := hb; clear hb SH)
    go_ret
    exact ⟨rfl, HB.out⟩
  have hl' : decide ((30 : Int) < (zl : Int)) = false := decide_eq_false (by omega)
  have hz30 : zl ≤ 30 := by omega
  have HZ : Hid (∀ i, i < zl → ∃ v b off, 0 ≤ v ∧ v ≤ 255 ∧ sa = some ⟨b, off, none⟩ ∧ ∀ W, Below w.heap.size w W → W.cell? ⟨b, off + i, none⟩ = some (.int .u8 v) ∧ b < W.heap.size) := fun i hi => InB.cell hz (by rw [hzl]; exact hi)
  have HY : Hid (∀ i, i < yl → ∃ v b off, 0 ≤ v ∧ v ≤ 255 ∧ ta = some ⟨b, off, none⟩ ∧ ∀ W, Below w.heap.size w W → W.cell? ⟨b, off + i, none⟩ = some (.int .u8 v) ∧ b < W.heap.size) := fun i hi => InB.cell hy (by rw [hyl]; exact hi)
  have HBO : Hid (∀ W, Below w.heap.size w W → Calls Tryz.prog 35 #[] W fun e w' => ∃ n, e = .returned (wv (boD n)) ∧ Ww w' (boD n) ∧ Below w.heap.size w w') := fun W hW => (bold_any W).mono fun e w' ⟨h1, h2, h3⟩ => ⟨_, h1, h2, hW.trans (h3.mono hW.size)⟩
  have HN : Hid (∀ n W, Ww W (boD n) → Calls Tryz.prog 11 #[.agg #[.slice (boD n).pa (boD n).ps.length (boD n).pc, .slice (boD n).fa (boD n).fs.length (boD n).fc, .int .i64 (boD n).en], .int .i64 0] W fun en w' => ∃ Z T, en = .returned (.tuple #[.pointer (some ⟨Z.nb, 0, none⟩), .int .i64 0]) ∧ PN W (Bo n) 2 (x0 0 0) Z T w') := fun n W h => bo_new W n h
  clear hz hy hzl hyl hlong
  go_enter Tryz.func8, Tryz.ntmps8
  go_wp2_with (first
    | (go_at_call 10; refine SH.mono ?_; rintro e w1 ⟨rfl, hb⟩; have HB : Hid (Below w.heap.size w w1) := hb; clear hb SH)
    | (go_at_call 35; refine (Hid.out HBO _ (Hid.out HB)).mono ?_; rintro e w2 ⟨n, rfl, hw2, hb2⟩; have HW2 : Hid (Ww w2 (boD n) ∧ Below w.heap.size w w2) := And.intro hw2 hb2; clear hw2 hb2 HBO HB)
    | (go_at_call 11; refine (Hid.out HN n _ ((Hid.out HW2).1.below (B.al w2 _))).mono ?_; rintro e w3 ⟨Z, T, rfl, hp⟩; have HP : Hid (PN (w2.alloc (.cells #[.slice (boD n).pa (boD n).ps.length (boD n).pc, .slice (boD n).fa (boD n).fs.length (boD n).fc, .int .i64 (boD n).en] 25)) (Bo n) 2 (x0 0 0) Z T w3) := hp; clear hp HN))
  obtain ⟨W2, hW2⟩ : ∃ W2, W2 = w2.alloc (.cells #[.slice (boD n).pa (boD n).ps.length (boD n).pc, .slice (boD n).fa (boD n).fs.length (boD n).fc, .int .i64 (boD n).en] 25) := ⟨_, rfl⟩
  rw [← hW2] at HP
  have HBW : Hid (∀ W, Below W2.heap.size W2 W → Below w.heap.size w W) := fun W hW => by
    have h1 : Below w.heap.size w W2 := by rw [hW2]; exact HW2.out.2.trans ((B.al w2 _).mono HW2.out.2.size)
    exact h1.trans (hW.mono h1.size)
  have H0 : Hid (St W2 n Z 0 (.slice (some ⟨w3.heap.size, 0, none⟩) 0 0) (w3.alloc (.cells #[] 39))) := by
    refine ⟨[], 0, x0 0 0, T, HP.out.below (B.al w3 _), Sa.zero n, B.OwR.made B.cM 39 w3, fun k e g => ?_⟩
    simp [Value.ownBlock] at e
    have := HP.out.lt k g
    omega
  clear hW2 HP HW2
  go_loopw [8, 9] (fun s8 s9 wr => ∃ i : Nat, s9 = .int .i64 i ∧ i ≤ zl ∧ Hid (St W2 n Z i s8 wr)) (fun _ s9 _ => zl - (intOf s9).toNat)
  case atStart => exact ⟨0, rfl, Nat.zero_le _, H0⟩
  case round =>
    clear H0
    obtain ⟨i, rfl, hi, HS⟩ := hrel
    by_cases hlt : i < zl
    · have hlt' : (i : Int) < (zl : Int) := by omega
      obtain ⟨t, sb, so, ht0, ht1, rfl, hcs⟩ := HZ.out i hlt
      obtain ⟨d0, lsb⟩ := hcs wr (HBW.out _ HS.out.bel)
      obtain ⟨q, hq⟩ : ∃ q, wr.heap.size = q := ⟨_, rfl⟩
      have CI := (HS.out.on (B.al wr (.cells #[.int .i64 t, .int .i64 1, .int .i64 i, .int .i64 0, .int .i64 0, .int .i64 0] 39))).ins t (by omega)
      have bq : (wr.alloc (.cells #[.int .i64 t, .int .i64 1, .int .i64 i, .int .i64 0, .int .i64 0, .int .i64 0] 39)).heap[q]? = some (.cells (mcs (mi t i)) 39 (0, 0)) := by rw [← hq]; exact G.newB _ _
      have HBX : Hid (∀ W, Below (wr.alloc (.cells #[.int .i64 t, .int .i64 1, .int .i64 i, .int .i64 0, .int .i64 0, .int .i64 0] 39)).heap.size (wr.alloc (.cells #[.int .i64 t, .int .i64 1, .int .i64 i, .int .i64 0, .int .i64 0, .int .i64 0] 39)) W → W.cell? ⟨q, 0, none⟩ = some (.int .i64 t) ∧ W.cell? ⟨q, 1, none⟩ = some (.int .i64 1) ∧ W.cell? ⟨q, 2, none⟩ = some (.int .i64 (i : Int)) ∧ W.cell? ⟨q, 3, none⟩ = some (.int .i64 0) ∧ W.cell? ⟨q, 4, none⟩ = some (.int .i64 0) ∧ W.cell? ⟨q, 5, none⟩ = some (.int .i64 0) ∧ q < W.heap.size) := fun W hW => by
        have b2 := (hW.block q (Array.getElem?_eq_some_iff.1 bq).1).trans bq
        refine ⟨?_, ?_, ?_, ?_, ?_, ?_, (Array.getElem?_eq_some_iff.1 b2).1⟩ <;> simp [World.cell?, b2, mcs, mi]
      have HQ : Hid (wr.heap.size = q) := hq
      simp only [mi] at CI
      clear hq bq HS hcs
      go_wp2_with (first
        | (go_at_call 36; refine CI.mono ?_; rintro e w4 ⟨v4, rfl, hsm, hb4⟩; obtain ⟨x0, x1, x2, x3, x4, x5, lq⟩ := Hid.out HBX _ hb4; have HSM : Hid (Sm W2 n Z i t v4 w4) := hsm; try simp only [HQ.out]; clear hsm hb4 CI)
        | (go_at_call 13; refine ((Hid.out HSM).hear ht0 ht1 (by omega)).mono ?_; rintro e w5 ⟨u5, rfl, hst⟩; have HS5 : Hid (St W2 n Z (i + 1) v4 w5) := hst; clear hst HSM x0 x1 x2 x3 x4 x5 lq))
      go_loopw [13] (fun s13 w6 => ∃ k : Nat, s13 = .int .i64 k ∧ k ≤ 4 ∧ Hid (St W2 n Z (i + 1) v4 w6)) (fun s13 _ => 4 - (intOf s13).toNat)
      case atStart => exact ⟨0, rfl, Nat.zero_le _, HS5⟩
      case round =>
        clear HS5
        obtain ⟨k, rfl, hk, HS6⟩ := hrel
        have EXI : Hid (∃ al c x T, Sw W2 n Z (i + 1) v4 al c x T wr) := HS6.out
        by_cases hgo : ∃ (hiy : i < yl) (u : Int) (b off : Nat), (0 ≤ u ∧ u ≤ 255) ∧ ta = some ⟨b, off, none⟩ ∧ (wr.cell? ⟨b, off + i, none⟩ = some (.int .u8 u) ∧ b < wr.heap.size) ∧ (k : Int) < u % 4
        · obtain ⟨hiy, u, yb, yo, ⟨hu0, hu1⟩, rfl, ⟨e0, lyb⟩, hku⟩ := hgo
          have hiy' : (i : Int) < (yl : Int) := by omega
          have CS := HS6.out.step (by omega)
          have hrem : u.tmod 4 = u % 4 := Int.tmod_eq_emod_of_nonneg hu0
          clear HS6 EXI
          go_wp2_with (go_at_call 16; refine CS.mono ?_; rintro e w7 ⟨u7, rfl, hst⟩; have HS7 : Hid (St W2 n Z (i + 1) v4 w7) := hst; clear hst CS)
          go_roundw
          case rel => exact ⟨k + 1, by go_num, by omega, HS7⟩
          case measure => simp [intOf]; omega
        · have hng : (i < yl → ∃ (u : Int) (b off : Nat), (0 ≤ u ∧ u ≤ 255) ∧ ta = some ⟨b, off, none⟩ ∧ (wr.cell? ⟨b, off + i, none⟩ = some (.int .u8 u) ∧ b < wr.heap.size) ∧ ¬ (k : Int) < u % 4) := fun hiy => by
            obtain ⟨u, b, off, h0, h1, h2, h3⟩ := HY.out i hiy
            have h4 := h3 wr (HBW.out _ HS6.out.bel)
            exact ⟨u, b, off, ⟨h0, h1⟩, h2, h4, fun g => hgo ⟨hiy, u, b, off, ⟨h0, h1⟩, h2, h4, g⟩⟩
          obtain ⟨al, c, x, T, hsw⟩ := HS6.out
          obtain ⟨a4, cap4, rfl, _⟩ := hsw.row
          have hci : c ≤ i + 1 := hsw.sa.q.2.2
          obtain ⟨ln, hln⟩ : ∃ ln, i + 1 - c = ln := ⟨_, rfl⟩
          obtain ⟨i1, hi1⟩ : ∃ i1, i + 1 = i1 := ⟨_, rfl⟩
          have HCW : Hid (∀ W, Sw W2 n Z i1 (.slice a4 i1 cap4) al c x T W → Calls Tryz.prog 31 #[.pointer (some ⟨Z.nb, 0, none⟩)] W fun e w' => ∃ a cap, e = .returned (.slice a ln cap) ∧ B.RdN B.cM (fun _ => True) w' a (al.drop c) ∧ Sw W2 n Z i1 (.slice a4 i1 cap4) al c x T w') := fun W h => by
            have := h.waiting
            rw [← hi1, hln] at this
            rw [← hi1]
            exact this
          have HCA : Hid (∀ W, Sw W2 n Z i1 (.slice a4 i1 cap4) al c x T W → Calls Tryz.prog 25 #[.pointer (some ⟨Z.nb, 0, none⟩)] W fun e w' => e = .returned (.int .i64 c) ∧ W = w') := fun W h => h.ahead
          obtain ⟨cm, hcm⟩ : ∃ cm, (c : Int) % 2 = cm := ⟨_, rfl⟩
          have HCS : Hid (∀ W, Sw W2 n Z i1 (.slice a4 i1 cap4) al c x T W → Calls Tryz.prog 22 #[.pointer (some ⟨Z.nb, 0, none⟩)] W fun e w' => e = .returned (.int .i64 cm) ∧ W = w') := fun W h => by
            rw [← hcm]
            exact h.state
          have HCT : Hid (∀ W aw, Sw W2 n Z i1 (.slice a4 i1 cap4) al c x T W → B.RdN B.cM (fun _ => True) W aw (al.drop c) → ∀ k, k < ln → ∃ bw ow ba oa m1 m2 m3 m4 m5 m6, aw = some ⟨bw, ow, none⟩ ∧ a4 = some ⟨ba, oa, none⟩ ∧ bw < W.heap.size ∧ ba < W.heap.size ∧ (∀ W', Below W.heap.size W W' → (W'.cell? ⟨bw, ow + k * 6, none⟩ = some (.int .i64 m1) ∧ W'.cell? ⟨bw, ow + k * 6 + 1, none⟩ = some (.int .i64 m2) ∧ W'.cell? ⟨bw, ow + k * 6 + 2, none⟩ = some (.int .i64 m3) ∧ W'.cell? ⟨bw, ow + k * 6 + 3, none⟩ = some (.int .i64 m4) ∧ W'.cell? ⟨bw, ow + k * 6 + 4, none⟩ = some (.int .i64 m5) ∧ W'.cell? ⟨bw, ow + k * 6 + 5, none⟩ = some (.int .i64 m6)) ∧ (W'.cell? ⟨ba, oa + (c + k) * 6, none⟩ = some (.int .i64 m1) ∧ W'.cell? ⟨ba, oa + (c + k) * 6 + 1, none⟩ = some (.int .i64 m2) ∧ W'.cell? ⟨ba, oa + (c + k) * 6 + 2, none⟩ = some (.int .i64 m3) ∧ W'.cell? ⟨ba, oa + (c + k) * 6 + 3, none⟩ = some (.int .i64 m4) ∧ W'.cell? ⟨ba, oa + (c + k) * 6 + 4, none⟩ = some (.int .i64 m5) ∧ W'.cell? ⟨ba, oa + (c + k) * 6 + 5, none⟩ = some (.int .i64 m6)))) := fun W aw h hw k hk => h.two hw (by omega)
          have HSW : Hid (Sw W2 n Z i1 (.slice a4 i1 cap4) al c x T wr) := by rw [← hi1]; exact hsw
          have hsum : (c : Int) + (ln : Int) = (i1 : Int) := by omega
          have hrem2 : (c : Int).tmod 2 = cm := by rw [Int.tmod_eq_emod_of_nonneg (by omega)]; exact hcm
          have hc30 : c ≤ 31 := by omega
          have hi30 : i1 ≤ 31 := by omega
          have hln30 : ln ≤ 31 := by omega
          have HI1 : Hid (i + 1 = i1) := hi1
          have hws : IntKind.i64.wrap ((c : Int) + (ln : Int)) = (i1 : Int) := by rw [IntKind.wrap_i64]; omega
          simp only [hi1]
          clear hsw HS6 EXI hgo hcm hln
          by_cases hiy : i < yl
          · obtain ⟨u, yb, yo, ⟨hu0, hu1⟩, rfl, ⟨e0, lyb⟩, hku⟩ := hng hiy
            have hiy' : (i : Int) < (yl : Int) := by omega
            have hrem : u.tmod 4 = u % 4 := Int.tmod_eq_emod_of_nonneg hu0
            clear hng hi1
            go_wp2_with (first
              | (go_at_call 25; refine (Hid.out HCA _ (Hid.out HSW)).mono ?_; rintro e w7 ⟨rfl, rfl⟩; clear HCA)
              | (go_at_call 22; refine (Hid.out HCS _ (Hid.out HSW8)).mono ?_; rintro e w9 ⟨rfl, rfl⟩; clear HCS)
              | (go_at_call 31; refine (Hid.out HCW _ (Hid.out HSW)).mono ?_; rintro e w8 ⟨a8, c8, rfl, hr8, hs8⟩; have HSW8 : Hid (Sw W2 n Z i1 (.slice a4 i1 cap4) al c x T w8) := hs8; clear hr8 hs8 HSW)
              | (go_at_call 31; refine (Hid.out HCW _ (Hid.out HSW8)).mono ?_; rintro e w10 ⟨a10, c10, rfl, hr10, hs10⟩; have HSW10 : Hid (Sw W2 n Z i1 (.slice a4 i1 cap4) al c x T w10) := hs10; have HR10 : Hid (B.RdN B.cM (fun _ => True) w10 a10 (al.drop c)) := hr10; clear hr10 hs10 HSW8))
            go_loopw [16] (fun s16 wq => ∃ j : Nat, s16 = .int .i64 j ∧ j ≤ ln ∧ Hid (Below w10.heap.size w10 wq)) (fun s16 _ => ln - (intOf s16).toNat)
            case atStart => exact ⟨0, rfl, Nat.zero_le _, Below.refl _ _⟩
            case round =>
              obtain ⟨j, rfl, hj, HBQ⟩ := hrel
              by_cases hjl : j < ln
              · obtain ⟨bw, ow, ba, oa, m1, m2, m3, m4, m5, m6, rfl, rfl, l1, l2, hcc⟩ := HCT.out w10 a10 HSW10.out HR10.out j hjl
                obtain ⟨⟨c0, c1, c2, c3, c4, c5⟩, d0, d1, d2, d3, d4, d5⟩ := hcc wr HBQ.out
                have l1' : bw < wr.heap.size := Nat.lt_of_lt_of_le l1 HBQ.out.size
                have l2' : ba < wr.heap.size := Nat.lt_of_lt_of_le l2 HBQ.out.size
                have hjl' : (j : Int) < (ln : Int) := by omega
                obtain ⟨pp, hpp⟩ : ∃ pp, c + j = pp := ⟨_, rfl⟩
                rw [hpp] at d0 d1 d2 d3 d4 d5
                have hwp : IntKind.i64.wrap ((c : Int) + (j : Int)) = (pp : Int) := by rw [IntKind.wrap_i64]; omega
                have hpi : (pp : Int) < (i1 : Int) := by omega
                have hpi2 : pp < i1 := by omega
                clear hcc hpp l1 l2
                go_wp2
                go_quiet (fail)
                go_wp2
                go_roundw
                case rel => exact ⟨j + 1, by go_num, by omega, HBQ.out.trans (below_drewN _ _ _)⟩
                case measure => simp [intOf]; omega
              · obtain rfl : j = ln := by omega
                have HF : Hid (St W2 n Z (i + 1) (.slice a4 i1 cap4) wr) := by rw [HI1.out]; exact ⟨al, c, x, T, HSW10.out.on HBQ.out⟩
                clear HSW10 HR10 HCT
                go_wp2
                go_roundw
                case rel => exact ⟨i + 1, by go_num, by omega, HF⟩
                case measure => simp [intOf]; omega
          · have hiy' : ¬ (i : Int) < (yl : Int) := by omega
            clear hng hi1
            go_wp2_with (first
              | (go_at_call 25; refine (Hid.out HCA _ (Hid.out HSW)).mono ?_; rintro e w7 ⟨rfl, rfl⟩; clear HCA)
              | (go_at_call 22; refine (Hid.out HCS _ (Hid.out HSW8)).mono ?_; rintro e w9 ⟨rfl, rfl⟩; clear HCS)
              | (go_at_call 31; refine (Hid.out HCW _ (Hid.out HSW)).mono ?_; rintro e w8 ⟨a8, c8, rfl, hr8, hs8⟩; have HSW8 : Hid (Sw W2 n Z i1 (.slice a4 i1 cap4) al c x T w8) := hs8; clear hr8 hs8 HSW)
              | (go_at_call 31; refine (Hid.out HCW _ (Hid.out HSW8)).mono ?_; rintro e w10 ⟨a10, c10, rfl, hr10, hs10⟩; have HSW10 : Hid (Sw W2 n Z i1 (.slice a4 i1 cap4) al c x T w10) := hs10; have HR10 : Hid (B.RdN B.cM (fun _ => True) w10 a10 (al.drop c)) := hr10; clear hr10 hs10 HSW8))
            go_loopw [16] (fun s16 wq => ∃ j : Nat, s16 = .int .i64 j ∧ j ≤ ln ∧ Hid (Below w10.heap.size w10 wq)) (fun s16 _ => ln - (intOf s16).toNat)
            case atStart => exact ⟨0, rfl, Nat.zero_le _, Below.refl _ _⟩
            case round =>
              obtain ⟨j, rfl, hj, HBQ⟩ := hrel
              by_cases hjl : j < ln
              · obtain ⟨bw, ow, ba, oa, m1, m2, m3, m4, m5, m6, rfl, rfl, l1, l2, hcc⟩ := HCT.out w10 a10 HSW10.out HR10.out j hjl
                obtain ⟨⟨c0, c1, c2, c3, c4, c5⟩, d0, d1, d2, d3, d4, d5⟩ := hcc wr HBQ.out
                have l1' : bw < wr.heap.size := Nat.lt_of_lt_of_le l1 HBQ.out.size
                have l2' : ba < wr.heap.size := Nat.lt_of_lt_of_le l2 HBQ.out.size
                have hjl' : (j : Int) < (ln : Int) := by omega
                obtain ⟨pp, hpp⟩ : ∃ pp, c + j = pp := ⟨_, rfl⟩
                rw [hpp] at d0 d1 d2 d3 d4 d5
                have hwp : IntKind.i64.wrap ((c : Int) + (j : Int)) = (pp : Int) := by rw [IntKind.wrap_i64]; omega
                have hpi : (pp : Int) < (i1 : Int) := by omega
                have hpi2 : pp < i1 := by omega
                clear hcc hpp l1 l2
                go_wp2
                go_quiet (fail)
                go_wp2
                go_roundw
                case rel => exact ⟨j + 1, by go_num, by omega, HBQ.out.trans (below_drewN _ _ _)⟩
                case measure => simp [intOf]; omega
              · obtain rfl : j = ln := by omega
                have HF : Hid (St W2 n Z (i + 1) (.slice a4 i1 cap4) wr) := by rw [HI1.out]; exact ⟨al, c, x, T, HSW10.out.on HBQ.out⟩
                clear HSW10 HR10 HCT
                go_wp2
                go_roundw
                case rel => exact ⟨i + 1, by go_num, by omega, HF⟩
                case measure => simp [intOf]; omega
    · obtain rfl : i = zl := by omega
      have CF := HS.out.floor
      have HBE : Hid (Below w.heap.size w wr) := HBW.out _ HS.out.bel
      clear HS
      go_wp2_with (go_at_call 23; refine CF.mono ?_; rintro e w4 ⟨rfl, rfl⟩; clear CF)
      go_ret
      exact ⟨rfl, HBE.out⟩
end Go.Proofs.YtiaopafkfadmkaaGreat.V
