/- Proved: the contract of what ends a round. -/
import Derived.Test.YtdfjmnckgcpmgaaPcu
namespace Go.Proofs.Ytdfjmnckgcpmgaa
open Go.RowKit Go.Shelf
open K
set_option linter.unusedVariables false

abbrev vF : Value := .bool false
def clr (f : Nat → Value) : Nat → Value := upV (upV (upV (upV (upV (upV (upV (upV (upV (upV (upV (upV (upV (upV (upV (upV f 1 vF) 2 vF) 3 vF) 4 vF) 5 vF) 6 vF) 7 vF) 8 vF) 9 vF) 10 vF) 11 vF) 12 vF) 13 vF) 14 vF) 15 vF) 16 vF
abbrev st16 (w : World) (b : Nat) : World := (((((((((((((((w.setCell ⟨b, 1, none⟩ vF).setCell ⟨b, 2, none⟩ vF).setCell ⟨b, 3, none⟩ vF).setCell ⟨b, 4, none⟩ vF).setCell ⟨b, 5, none⟩ vF).setCell ⟨b, 6, none⟩ vF).setCell ⟨b, 7, none⟩ vF).setCell ⟨b, 8, none⟩ vF).setCell ⟨b, 9, none⟩ vF).setCell ⟨b, 10, none⟩ vF).setCell ⟨b, 11, none⟩ vF).setCell ⟨b, 12, none⟩ vF).setCell ⟨b, 13, none⟩ vF).setCell ⟨b, 14, none⟩ vF).setCell ⟨b, 15, none⟩ vF).setCell ⟨b, 16, none⟩ vF
theorem Blk.set16 {w : World} {b : Nat} {f : Nat → Value} (h : Blk w b f) : Blk (st16 w b) b (clr f) :=
  (((((((((((((((h.set 1 vF).set 2 vF).set 3 vF).set 4 vF).set 5 vF).set 6 vF).set 7 vF).set 8 vF).set 9 vF).set 10 vF).set 11 vF).set 12 vF).set 13 vF).set 14 vF).set 15 vF).set 16 vF
theorem fr_set {w W : World} {b : Nat} (h : Fr (fun k => k = b) w W) (i : Nat) (v : Value) : Fr (fun k => k = b) w (W.setCell ⟨b, i, none⟩ v) := h.setCell _ _ (.inl rfl)
theorem fr16 (w : World) (b : Nat) : Fr (fun k => k = b) w (st16 w b) :=
  fr_set (fr_set (fr_set (fr_set (fr_set (fr_set (fr_set (fr_set (fr_set (fr_set (fr_set (fr_set (fr_set (fr_set (fr_set (fr_set (Fr.refl _ w) 1 _) 2 _) 3 _) 4 _) 5 _) 6 _) 7 _) 8 _) 9 _) 10 _) 11 _) 12 _) 13 _) 14 _) 15 _) 16 _
theorem clr_in (f : Nat → Value) {j : Nat} (h1 : 1 ≤ j) (h2 : j ≤ 16) : clr f j = vF := by
  unfold clr upV
  have : j = 16 ∨ j = 15 ∨ j = 14 ∨ j = 13 ∨ j = 12 ∨ j = 11 ∨ j = 10 ∨ j = 9 ∨ j = 8 ∨ j = 7 ∨ j = 6 ∨ j = 5 ∨ j = 4 ∨ j = 3 ∨ j = 2 ∨ j = 1 := by omega
  rcases this with rfl | rfl | rfl | rfl | rfl | rfl | rfl | rfl | rfl | rfl | rfl | rfl | rfl | rfl | rfl | rfl <;> rfl
theorem clr_out (f : Nat → Value) {j : Nat} (h : j = 0 ∨ 17 ≤ j) : clr f j = f j := by
  unfold clr upV
  rw [if_neg (by omega), if_neg (by omega), if_neg (by omega), if_neg (by omega), if_neg (by omega), if_neg (by omega), if_neg (by omega), if_neg (by omega), if_neg (by omega), if_neg (by omega), if_neg (by omega), if_neg (by omega), if_neg (by omega), if_neg (by omega), if_neg (by omega), if_neg (by omega)]
def endF (f : Nat → Value) (v r k : Int) : Nat → Value := clr (upV (upV (upV (upV f 22 (.int .i64 v)) 23 (.int .i64 r)) 20 vF) 17 (.int .i64 k))
set_option maxRecDepth 100000 in
set_option maxHeartbeats 2000000 in
theorem end_any {w : World} {b : Nat} {f : Nat → Value} {v le r k : Int} (h : Blk w b f) (g22 : f 22 = .int .i64 v) (g21 : f 21 = .int .i64 le) (g23 : f 23 = .int .i64 r) (g17 : f 17 = .int .i64 k) (hk : k = 0 ∨ k = 1) (hr0 : 0 ≤ r) (hr : r ≤ 1000000) :
    Calls Try.prog 33 #[pp b] w fun e w' => e = .returned (.tuple #[]) ∧ Blk w' b (endF f (max v le) (r + 1) (1 - k)) ∧ Fr (fun k => k = b) w w' := by
  obtain ⟨m, hm⟩ : ∃ m, max v le = m := ⟨_, rfl⟩
  have c22 := h.at (i := 22) (by omega) g22
  have c21 := h.at (i := 21) (by omega) g21
  have f22 := (h.c 22 (by omega)).2
  have h1 := (h.set 22 (.int .i64 m)).drew
  have h2 := h1.set 23 (.int .i64 (r + 1))
  have h3 := h2.set 20 vF
  have h4 := h3.set 17 (.int .i64 (1 - k))
  have F4 : Fr (fun k => k = b) w ((((w.setCell ⟨b, 22, none⟩ (.int .i64 m)).drew.setCell ⟨b, 23, none⟩ (.int .i64 (r + 1))).setCell ⟨b, 20, none⟩ vF).setCell ⟨b, 17, none⟩ (.int .i64 (1 - k))) := fr_set (fr_set (fr_set (fr_set (Fr.refl _ w) 22 _).drew 23 _) 20 _) 17 _
  have HF := h4.set16
  obtain ⟨W1, hW1⟩ : ∃ W1, (w.setCell ⟨b, 22, none⟩ (.int .i64 m)).drew = W1 := ⟨_, rfl⟩
  rw [hW1] at h1 h2 h3 h4 HF F4
  obtain ⟨W3, hW3⟩ : ∃ W3, ((W1.setCell ⟨b, 23, none⟩ (.int .i64 (r + 1))).setCell ⟨b, 20, none⟩ vF) = W3 := ⟨_, rfl⟩
  have c23 := h1.at (i := 23) (by omega) (v := .int .i64 r) (by rw [upV_out _ _ (by omega)]; exact g23)
  have f23 := (h1.c 23 (by omega)).2
  have f20 := (h2.c 20 (by omega)).2
  have c20 := (h2.c 20 (by omega)).1
  generalize upV (upV f 22 (.int .i64 m)) 23 (.int .i64 (r + 1)) 20 = x20 at c20
  rw [hW3] at h3 h4 HF F4
  have c17 := h3.at (i := 17) (by omega) (v := .int .i64 k) (by rw [upV_out _ _ (by omega), upV_out _ _ (by omega), upV_out _ _ (by omega)]; exact g17)
  have f17 := (h3.c 17 (by omega)).2
  obtain ⟨W4, hW4⟩ : ∃ W4, (W3.setCell ⟨b, 17, none⟩ (.int .i64 (1 - k))) = W4 := ⟨_, rfl⟩
  rw [hW4] at h4 HF F4
  have HB : Hid (Blk (st16 W4 b) b (endF f m (r + 1) (1 - k))) := HF
  have HR : Hid (Fr (fun k => k = b) w (st16 W4 b)) := F4.then (fr16 W4 b)
  have y1 := (h4.c 1 (by omega)).1
  have z1 := (h4.c 1 (by omega)).2
  have y2 := (h4.c 2 (by omega)).1
  have z2 := (h4.c 2 (by omega)).2
  have y3 := (h4.c 3 (by omega)).1
  have z3 := (h4.c 3 (by omega)).2
  have y4 := (h4.c 4 (by omega)).1
  have z4 := (h4.c 4 (by omega)).2
  have y5 := (h4.c 5 (by omega)).1
  have z5 := (h4.c 5 (by omega)).2
  have y6 := (h4.c 6 (by omega)).1
  have z6 := (h4.c 6 (by omega)).2
  have y7 := (h4.c 7 (by omega)).1
  have z7 := (h4.c 7 (by omega)).2
  have y8 := (h4.c 8 (by omega)).1
  have z8 := (h4.c 8 (by omega)).2
  have y9 := (h4.c 9 (by omega)).1
  have z9 := (h4.c 9 (by omega)).2
  have y10 := (h4.c 10 (by omega)).1
  have z10 := (h4.c 10 (by omega)).2
  have y11 := (h4.c 11 (by omega)).1
  have z11 := (h4.c 11 (by omega)).2
  have y12 := (h4.c 12 (by omega)).1
  have z12 := (h4.c 12 (by omega)).2
  have y13 := (h4.c 13 (by omega)).1
  have z13 := (h4.c 13 (by omega)).2
  have y14 := (h4.c 14 (by omega)).1
  have z14 := (h4.c 14 (by omega)).2
  have y15 := (h4.c 15 (by omega)).1
  have z15 := (h4.c 15 (by omega)).2
  have y16 := (h4.c 16 (by omega)).1
  have z16 := (h4.c 16 (by omega)).2
  generalize upV (upV (upV (upV f 22 (.int .i64 m)) 23 (.int .i64 (r + 1))) 20 vF) 17 (.int .i64 (1 - k)) 1 = x1 at y1
  generalize upV (upV (upV (upV f 22 (.int .i64 m)) 23 (.int .i64 (r + 1))) 20 vF) 17 (.int .i64 (1 - k)) 2 = x2 at y2
  generalize upV (upV (upV (upV f 22 (.int .i64 m)) 23 (.int .i64 (r + 1))) 20 vF) 17 (.int .i64 (1 - k)) 3 = x3 at y3
  generalize upV (upV (upV (upV f 22 (.int .i64 m)) 23 (.int .i64 (r + 1))) 20 vF) 17 (.int .i64 (1 - k)) 4 = x4 at y4
  generalize upV (upV (upV (upV f 22 (.int .i64 m)) 23 (.int .i64 (r + 1))) 20 vF) 17 (.int .i64 (1 - k)) 5 = x5 at y5
  generalize upV (upV (upV (upV f 22 (.int .i64 m)) 23 (.int .i64 (r + 1))) 20 vF) 17 (.int .i64 (1 - k)) 6 = x6 at y6
  generalize upV (upV (upV (upV f 22 (.int .i64 m)) 23 (.int .i64 (r + 1))) 20 vF) 17 (.int .i64 (1 - k)) 7 = x7 at y7
  generalize upV (upV (upV (upV f 22 (.int .i64 m)) 23 (.int .i64 (r + 1))) 20 vF) 17 (.int .i64 (1 - k)) 8 = x8 at y8
  generalize upV (upV (upV (upV f 22 (.int .i64 m)) 23 (.int .i64 (r + 1))) 20 vF) 17 (.int .i64 (1 - k)) 9 = x9 at y9
  generalize upV (upV (upV (upV f 22 (.int .i64 m)) 23 (.int .i64 (r + 1))) 20 vF) 17 (.int .i64 (1 - k)) 10 = x10 at y10
  generalize upV (upV (upV (upV f 22 (.int .i64 m)) 23 (.int .i64 (r + 1))) 20 vF) 17 (.int .i64 (1 - k)) 11 = x11 at y11
  generalize upV (upV (upV (upV f 22 (.int .i64 m)) 23 (.int .i64 (r + 1))) 20 vF) 17 (.int .i64 (1 - k)) 12 = x12 at y12
  generalize upV (upV (upV (upV f 22 (.int .i64 m)) 23 (.int .i64 (r + 1))) 20 vF) 17 (.int .i64 (1 - k)) 13 = x13 at y13
  generalize upV (upV (upV (upV f 22 (.int .i64 m)) 23 (.int .i64 (r + 1))) 20 vF) 17 (.int .i64 (1 - k)) 14 = x14 at y14
  generalize upV (upV (upV (upV f 22 (.int .i64 m)) 23 (.int .i64 (r + 1))) 20 vF) 17 (.int .i64 (1 - k)) 15 = x15 at y15
  generalize upV (upV (upV (upV f 22 (.int .i64 m)) 23 (.int .i64 (r + 1))) 20 vF) 17 (.int .i64 (1 - k)) 16 = x16 at y16
  have OT := oth_any k hk
  have hb := h4.lt
  rw [hm]
  clear h h1 h2 h3 h4 HF F4 g22 g21 g23 g17
  go_enter Try.func33, Try.ntmps33
  go_wp2
  go_region
  go_wp2_with (go_at_call 35; refine (OT _).mono ?_; rintro e w' ⟨rfl, rfl⟩)
  go_end0
  exact ⟨rfl, HB.out, HR.out⟩
end Go.Proofs.Ytdfjmnckgcpmgaa
