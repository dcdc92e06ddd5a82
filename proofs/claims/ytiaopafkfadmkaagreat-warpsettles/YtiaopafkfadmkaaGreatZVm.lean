/- Joined: the texts that follow, each with its own sentence. -/
import Derived.Test.YtiaopafkfadmkaaGreatZVl
import Derived.Test.YtiaopafkfadmkaaGreatZBo
set_option linter.unusedVariables false
set_option maxRecDepth 100000
namespace Go.Proofs.YtiaopafkfadmkaaGreat.V
open Go.RowKit Go.Shelf
abbrev Bo (n : Nat) : Cf := cf (boD n) 0
theorem bo_ok (n : Nat) : CfOk (Bo n) := cfOk_of (boD_wld n) (by rw [boD_n]; decide) rfl
theorem bo_kd (n : Nat) : (Bo n).kd 0 = 1 ∧ (Bo n).kd 1 = 1 ∧ (Bo n).kd 2 = 0 := ⟨rfl, rfl, rfl⟩
def bx1 (n : Nat) : X := hearX (Bo n) (x0 0 0) 1 0 ((9, 1, 0), 0, 0, 0)
def bx2 (n : Nat) : X := stepX (Bo n) (bx1 n)
def bx3 (n : Nat) : X := hearX (Bo n) (bx2 n) 1 0 ((7, 1, 1), 0, 0, 0)
theorem bo_shown (n : Nat) : stepE (Bo n) (bx1 n) = 0 ∧ stepI (Bo n) (bx1 n) = [((11, 0, 0), 1, 1, 1)] ∧ hearE (Bo n) (bx2 n) 1 0 ((7, 1, 1), 0, 0, 0) = 0 ∧ hearI (Bo n) (bx2 n) 1 0 ((7, 1, 1), 0, 0, 0) = [((11, 0, 0), 1, 1, 1)] ∧ (bx3 n).nd.q.length = 2 := ⟨by kernel_rfl, by kernel_rfl, by kernel_rfl, by kernel_rfl, by kernel_rfl⟩
end Go.Proofs.YtiaopafkfadmkaaGreat.V
namespace Go.Proofs.YtiaopafkfadmkaaGreat.V
open Go.RowKit Go.Shelf
theorem bo_new (w : World) (n : Nat) (h : Ww w (boD n)) :
  Calls Tryz.prog 11 #[wv (boD n), .int .i64 0] w fun en w' => ∃ Z T, en = .returned (.tuple #[.pointer (some ⟨Z.nb, 0, none⟩), .int .i64 0]) ∧ PN w (Bo n) 2 (x0 0 0) Z T w' :=
 nnew_ok w (boD n) 0 h (boD_wld n) (by rw [boD_n]; decide) rfl
theorem one_item {W : World} {a : Option Addr} {n c : Nat} {x : G.It} (h : B.OwR G.cI 41 W (.slice a n c) [x]) : n = 1 ∧ ∃ b off, a = some ⟨b, off, none⟩ ∧ b < W.heap.size ∧ W.cell? ⟨b, off, none⟩ = some (.int .i64 x.1) ∧ W.cell? ⟨b, off + 1, none⟩ = some (.int .i64 x.2.1.1.1) ∧ W.cell? ⟨b, off + 2, none⟩ = some (.int .i64 x.2.1.1.2.1) ∧ W.cell? ⟨b, off + 3, none⟩ = some (.int .i64 x.2.1.1.2.2) ∧ W.cell? ⟨b, off + 4, none⟩ = some (.int .i64 x.2.1.2.1) ∧ W.cell? ⟨b, off + 5, none⟩ = some (.int .i64 x.2.1.2.2.1) ∧ W.cell? ⟨b, off + 6, none⟩ = some (.int .i64 x.2.1.2.2.2) ∧ (Value.slice a n c).ownBlock = some b := by
 obtain ⟨a', c', e, g⟩ := h.rd (N := fun k => (Value.slice a n c).ownBlock = some k) (fun _ e => e)
 simp at e
 obtain ⟨rfl, rfl, rfl⟩ := e
 obtain ⟨b, off, e1, e2, e3, e4⟩ := g (by simp)
 have e5 := e4 0 (by simp)
 refine ⟨rfl, b, off, e1, e2, ?_, ?_, ?_, ?_, ?_, ?_, ?_, e3⟩
 ·have := e5 0 (by decide); simp only [Nat.zero_mul, Nat.add_zero] at this; exact this
 ·have := e5 1 (by decide); simp only [Nat.zero_mul, Nat.add_zero] at this; exact this
 ·have := e5 2 (by decide); simp only [Nat.zero_mul, Nat.add_zero] at this; exact this
 ·have := e5 3 (by decide); simp only [Nat.zero_mul, Nat.add_zero] at this; exact this
 ·have := e5 4 (by decide); simp only [Nat.zero_mul, Nat.add_zero] at this; exact this
 ·have := e5 5 (by decide); simp only [Nat.zero_mul, Nat.add_zero] at this; exact this
 ·have := e5 6 (by decide); simp only [Nat.zero_mul, Nat.add_zero] at this; exact this
set_option maxHeartbeats 4000000 in
theorem shown_any (w : World) : Calls Tryz.prog 10 #[] w fun e w' => e = .returned (.bool true) ∧ Below w.heap.size w w' := by
 have mixed : Tryz.prog.follows .mixedOrders = true := by kernel_rfl
 have CB := bold_any w
 obtain ⟨n, hn⟩ : ∃ n, w.heap.size = n := ⟨_, rfl⟩
 rw [hn] at CB
 have HWN : Hid (w.heap.size = n) := hn
 obtain ⟨s1, s2, s3, s4, s5⟩ := bo_shown n
 have hmA : B.mwf ((9, 1, 0), 0, 0, 0) := by simp [B.mwf, B.kwf, B.i64]
 have hmB : B.mwf ((7, 1, 1), 0, 0, 0) := by simp [B.mwf, B.kwf, B.i64]
 have h1w : (Lit.int .i64 1).wf = true := by kernel_rfl
 have HA : Hid (∀ {w0 : World} {Z : Ad} {T : Nat → Prop} (W : World), PN w0 (Bo n) 2 (x0 0 0) Z T W → Calls Tryz.prog 13 #[.pointer (some ⟨Z.nb, 0, none⟩), .int .i64 1, .agg #[.int .i64 0, .int .i64 9, .int .i64 1, .int .i64 0, .int .i64 0, .int .i64 0, .int .i64 0, .int .i64 0]] W fun e w' => ∃ T' u, e = .returned u ∧ PN w0 (Bo n) 3 (bx1 n) Z T' w') := fun W h => (op_hear h 1 0 0 ((9, 1, 0), 0, 0, 0) h1w hmA).mono fun e w' ⟨T', a, n', c, he, g1, _⟩ => ⟨T', _, he, g1⟩
 have HS : Hid (∀ {w0 : World} {Z : Ad} {T : Nat → Prop} (W : World), PN w0 (Bo n) 3 (bx1 n) Z T W → Calls Tryz.prog 16 #[.pointer (some ⟨Z.nb, 0, none⟩)] W fun e w' => ∃ d T' a c, e = .returned (.tuple #[dv d, .slice a 1 c, .int .i64 0]) ∧ PN w0 (Bo n) 3 (bx2 n) Z T' w' ∧ B.OwR G.cI 41 w' (.slice a 1 c) [(0, ((11, 0, 0), 1, 1, 1), 0)] ∧ ∀ b, (Value.slice a 1 c).ownBlock = some b → w0.heap.size ≤ b ∧ ¬ T' b) := fun W h => (op_step h (by decide)).mono fun e w' ⟨T', a, n', c, he, g1, g2, g3, g4⟩ => by
  rw [s2] at g3
  rw [s1] at he
  obtain ⟨rfl, _⟩ := one_item g3
  exact ⟨_, T', a, c, he, g1, g3, fun b e => ⟨Nat.le_trans h.bel.size (g4 b e).1, (g4 b e).2⟩⟩
 have HT : Hid (∀ {w0 : World} {Z : Ad} {T : Nat → Prop} (W : World), PN w0 (Bo n) 3 (bx2 n) Z T W → Calls Tryz.prog 13 #[.pointer (some ⟨Z.nb, 0, none⟩), .int .i64 1, .agg #[.int .i64 0, .int .i64 7, .int .i64 1, .int .i64 1, .int .i64 0, .int .i64 0, .int .i64 0, .int .i64 0]] W fun e w' => ∃ T' a c, e = .returned (.tuple #[.slice a 1 c, .int .i64 0]) ∧ PN w0 (Bo n) 4 (bx3 n) Z T' w' ∧ Mw T T' W w' ∧ B.OwR G.cI 41 w' (.slice a 1 c) [(1, ((11, 0, 0), 1, 1, 1), 0)]) := fun W h => (op_hear h 1 0 0 ((7, 1, 1), 0, 0, 0) h1w hmB).mono fun e w' ⟨T', a, n', c, he, g1, g2, g3, _⟩ => by
  rw [s4] at g3
  rw [s3] at he
  obtain ⟨rfl, _⟩ := one_item g3
  exact ⟨T', a, c, he, g1, g2, g3⟩
 have HV : Hid (∀ {w0 : World} {Z : Ad} {T : Nat → Prop} (W : World), PN w0 (Bo n) 4 (bx3 n) Z T W → Calls Tryz.prog 31 #[.pointer (some ⟨Z.nb, 0, none⟩)] W fun e w' => ∃ a c, e = .returned (.slice a 2 c) ∧ Below W.heap.size W w') := fun W h => by
  have := op_waiting h
  rw [s5] at this
  exact this.mono fun e w' ⟨a, c, h1, _, _, h4⟩ => ⟨a, c, h1, h4⟩
 have HN : Hid (∀ W, Ww W (boD n) → Calls Tryz.prog 11 #[.agg #[.slice (boD n).pa (boD n).ps.length (boD n).pc, .slice (boD n).fa (boD n).fs.length (boD n).fc, .int .i64 (boD n).en], .int .i64 0] W fun en w' => ∃ Z T, en = .returned (.tuple #[.pointer (some ⟨Z.nb, 0, none⟩), .int .i64 0]) ∧ PN W (Bo n) 2 (x0 0 0) Z T w') := fun W h => bo_new W n h
 clear hn s1 s2 s3 s4 s5 hmA hmB h1w
 go_enter Tryz.func10, Tryz.ntmps10
 go_wp2_with (first
  | (go_at_call 35; refine CB.mono ?_; rintro e w1 ⟨rfl, hW1, hb1⟩; have HB1 : Hid (Below n w w1) := hb1; have CN := Hid.out HN _ hW1; clear hW1 hb1 CB HN)
  | (go_at_call 11; refine CN.mono ?_; rintro e w2 ⟨Z, T2, rfl, hp2⟩; have HP2 : Hid (PN w1 (Bo n) 2 (x0 0 0) Z T2 w2) := hp2; clear CN hp2)
  | (go_at_call 13; refine (Hid.out HA _ (Hid.out HP2)).mono ?_; rintro e w3 ⟨T3, u3, rfl, hp3⟩; have HP3 : Hid (PN w1 (Bo n) 3 (bx1 n) Z T3 w3) := hp3; clear HP2 hp3 HA)
  | (go_at_call 16; refine (Hid.out HS _ (Hid.out HP3)).mono ?_; rintro e w4 ⟨d4, T4, a4, c4, rfl, hp4, ho4, hn4⟩; have HP4 : Hid (PN w1 (Bo n) 3 (bx2 n) Z T4 w4 ∧ B.OwR G.cI 41 w4 (.slice a4 1 c4) [(0, ((11, 0, 0), 1, 1, 1), 0)] ∧ ∀ b, (Value.slice a4 1 c4).ownBlock = some b → w1.heap.size ≤ b ∧ ¬ T4 b) := And.intro hp4 (And.intro ho4 hn4); clear HP3 hp4 HS ho4 hn4)
  | (go_at_call 13; refine (Hid.out HT _ ((Hid.out HP4).1.below (B.al _ _))).mono ?_; rintro e w5 ⟨T5, a5, c5, rfl, hp5, hm5, ho5⟩; have ho4 := ((Hid.out HP4).2.1.below (B.al _ _)).keep hm5.fr (fun k e => ((Hid.out HP4).2.2 k e).2); have HP5 : Hid (PN w1 (Bo n) 4 (bx3 n) Z T5 w5) := hp5; have HO4 : Hid (B.OwR G.cI 41 w5 (.slice a4 1 c4) [(0, ((11, 0, 0), 1, 1, 1), 0)]) := ho4; have HO5 : Hid (B.OwR G.cI 41 w5 (.slice a5 1 c5) [(1, ((11, 0, 0), 1, 1, 1), 0)]) := ho5; clear HP4 hp5 hm5 HT ho4 ho5))
 obtain ⟨_, b4, o4, rfl, l4, x0, x1, x2, x3, x4, x5, x6, _⟩ := one_item HO4.out
 obtain ⟨_, b5, o5, rfl, l5, y0, y1, y2, y3, y4, y5, y6, _⟩ := one_item HO5.out
 dsimp only at x0 x1 x2 x3 x4 x5 x6 y0 y1 y2 y3 y4 y5 y6
 have HKP : Hid (∀ w' : World, Below w5.drew.heap.size w5.drew w' → Hid (w'.cell? ⟨b4, o4, none⟩ = some (.int .i64 0) ∧ w'.cell? ⟨b4, o4 + 1, none⟩ = some (.int .i64 11) ∧ w'.cell? ⟨b4, o4 + 1 + 1, none⟩ = some (.int .i64 0) ∧ w'.cell? ⟨b4, o4 + 1 + 2, none⟩ = some (.int .i64 0) ∧ w'.cell? ⟨b4, o4 + 1 + 3, none⟩ = some (.int .i64 1) ∧ w'.cell? ⟨b4, o4 + 1 + 4, none⟩ = some (.int .i64 1) ∧ w'.cell? ⟨b4, o4 + 1 + 5, none⟩ = some (.int .i64 1) ∧ w'.cell? ⟨b5, o5, none⟩ = some (.int .i64 1) ∧ w'.cell? ⟨b5, o5 + 1, none⟩ = some (.int .i64 11) ∧ w'.cell? ⟨b5, o5 + 1 + 1, none⟩ = some (.int .i64 0) ∧ w'.cell? ⟨b5, o5 + 1 + 2, none⟩ = some (.int .i64 0) ∧ w'.cell? ⟨b5, o5 + 1 + 3, none⟩ = some (.int .i64 1) ∧ w'.cell? ⟨b5, o5 + 1 + 4, none⟩ = some (.int .i64 1) ∧ w'.cell? ⟨b5, o5 + 1 + 5, none⟩ = some (.int .i64 1))) := fun w' hb => by
  have g4 : b4 < w5.drew.heap.size := l4
  have g5 : b5 < w5.drew.heap.size := l5
  have c : ∀ p : Addr, p.block < w5.drew.heap.size → w'.cell? p = w5.cell? p := fun p hp => (hb.cell hp)
  exact ⟨(c _ g4).trans x0, (c _ g4).trans x1, (c _ g4).trans x2, (c _ g4).trans x3, (c _ g4).trans x4, (c _ g4).trans x5, (c _ g4).trans x6, (c _ g5).trans y0, (c _ g5).trans y1, (c _ g5).trans y2, (c _ g5).trans y3, (c _ g5).trans y4, (c _ g5).trans y5, (c _ g5).trans y6⟩
 have CV := HV.out _ (HP5.out.below (below_drew w5))
 go_region_held3 (fun w' => w'.cell? ⟨b4, o4, none⟩ = some (.int .i64 0) ∧ w'.cell? ⟨b4, o4 + 1, none⟩ = some (.int .i64 11) ∧ w'.cell? ⟨b4, o4 + 1 + 1, none⟩ = some (.int .i64 0) ∧ w'.cell? ⟨b4, o4 + 1 + 2, none⟩ = some (.int .i64 0) ∧ w'.cell? ⟨b4, o4 + 1 + 3, none⟩ = some (.int .i64 1) ∧ w'.cell? ⟨b4, o4 + 1 + 4, none⟩ = some (.int .i64 1) ∧ w'.cell? ⟨b4, o4 + 1 + 5, none⟩ = some (.int .i64 1) ∧ w'.cell? ⟨b5, o5, none⟩ = some (.int .i64 1) ∧ w'.cell? ⟨b5, o5 + 1, none⟩ = some (.int .i64 11) ∧ w'.cell? ⟨b5, o5 + 1 + 1, none⟩ = some (.int .i64 0) ∧ w'.cell? ⟨b5, o5 + 1 + 2, none⟩ = some (.int .i64 0) ∧ w'.cell? ⟨b5, o5 + 1 + 3, none⟩ = some (.int .i64 1) ∧ w'.cell? ⟨b5, o5 + 1 + 4, none⟩ = some (.int .i64 1) ∧ w'.cell? ⟨b5, o5 + 1 + 5, none⟩ = some (.int .i64 1)) (first | (go_keep; done) | exact Hid.out KEEP) (first
  | (go_at_call 31; refine CV.mono ?_; rintro e w6 ⟨a6, c6, rfl, hb6⟩; have HB6 : Hid (Below w5.drew.heap.size w5.drew w6) := hb6; have KEEP := Hid.out HKP _ hb6; clear CV hb6))
 all_goals
  go_wp2_with fail
  have hz : Below n w w6 := by
   have h1 := HB1.out
   have h5 : Below w1.heap.size w1 w5 := HP5.out.bel
   have h6 : Below w5.heap.size w5 w6 := (below_drew w5).trans HB6.out
   rw [← HWN.out] at h1 ⊢
   exact h1.trans ((h5.trans (h6.mono h5.size)).mono h1.size)
  rw [HWN.out]
  first | exact bodyPost_ret rfl rfl ⟨rfl, hz⟩ | exact bodyPost_ret (v := .bool true) (by simp [results, Tryz.results10, go_sem]) rfl ⟨rfl, hz⟩ | (go_ret; exact ⟨rfl, hz⟩)
end Go.Proofs.YtiaopafkfadmkaaGreat.V
