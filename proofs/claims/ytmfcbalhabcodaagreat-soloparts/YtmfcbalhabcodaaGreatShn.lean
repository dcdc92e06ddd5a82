/- Proved: the contract of the statements' shown: in the small federation one message is taken. -/
import Derived.Test.YtmfcbalhabcodaaGreatSml
namespace Go.Proofs.YtmfcbalhabcodaaGreat
open Go.RowKit Go.Shelf
set_option linter.unusedVariables false

/-- The small federation, its rows in the blocks from s on. -/
def shF0 (s : Nat) : Fd := ⟨0, 1, 0, none, 0, [], some ⟨s + 1, 0, none⟩, 1, [0], none, 0, [], some ⟨s + 1 + 1, 0, none⟩, 1, [(0, 4, 2)]⟩
def shF1 (s : Nat) : Fd := ⟨0, 1, 3, none, 0, [], none, 0, [], some ⟨s + 1 + 1 + 1, 0, none⟩, 1, [0], none, 0, []⟩
def shD (s : Nat) : Wd := ⟨some ⟨s, 0, none⟩, 1, [-1], some ⟨s + 1 + 1 + 1 + 1, 0, none⟩, 2, [shF0 s, shF1 s], 9⟩
theorem shD_wld (s : Nat) : wldE (shD s) = (-1, 0) := by rfl
theorem shD_run (s : Nat) : (stpsR (shD s) 5 (newR (shD s))).1 = 1 := by rfl
theorem shD_log (s : Nat) : logR (stpsR (shD s) 5 (newR (shD s))).2 1 = [⟨⟨4, 0, 0, 1, 0, 2⟩, 3⟩] := by rfl
theorem shD_sta (s : Nat) : staR (stpsR (shD s) 5 (newR (shD s))).2 1 = 3 := by rfl
theorem shD_dn (s : Nat) : (stpsR (shD s) 5 (newR (shD s))).2.dn.length = 1 := by rfl
theorem shD_dn0 (s : Nat) : (newR (shD s)).dn.length = 0 := by rfl
theorem rdI_new (w : World) (x : Int) : RdI (w.alloc (.cells #[.int .i64 x] 3)) (w.alloc (.cells #[.int .i64 x] 3)).heap.size (some ⟨w.heap.size, 0, none⟩) [x] := fun _ => ⟨w.heap.size, 0, rfl, by simp, fun i hi => by
  have hi0 : i = 0 := by simp at hi; omega
  subst hi0
  rw [World.cell?_alloc_new]; rfl⟩
theorem rdO_new (w : World) (o : O) : RdO (w.alloc (.cells #[.int .i64 o.1, .int .i64 o.2.1, .int .i64 o.2.2] 64)) (some ⟨w.heap.size, 0, none⟩) [o] := fun _ => ⟨w.heap.size, 0, rfl, by simp, fun i hi c hc => by
  have hi0 : i = 0 := by simp at hi; omega
  subst hi0
  rcases (by omega : c = 0 ∨ c = 1 ∨ c = 2) with rfl | rfl | rfl <;> (rw [World.cell?_alloc_new]; rfl)⟩
theorem rdR_nil (w : World) : RdR w none [] := ⟨fun g => absurd rfl g, fun r hr => by cases hr⟩
theorem rdI_nil (w : World) : RdI w w.heap.size none [] := fun g => absurd rfl g
theorem rdO_nil (w : World) : RdO w none [] := fun g => absurd rfl g
theorem ltF_sh (f : Fd) (h1 : f.rs = []) (h2 : f.ps.length ≤ 50) (h3 : f.ss.length ≤ 50) (h4 : f.is.length ≤ 20) : LtF f := ⟨by rw [h1]; exact ⟨by simp, fun r hr => by cases hr⟩, h2, h3, h4⟩
theorem shD_box (w : World) : BoxW ((((((w.alloc (.cells #[.int .i64 (-1)] 3)).alloc (.cells #[.int .i64 0] 3)).alloc (.cells #[.int .i64 0, .int .i64 4, .int .i64 2] 64)).alloc (.cells #[.int .i64 0] 3)).alloc
    (.cells #[.int .i64 0, .int .i64 1, .int .i64 0, .slice none 0 0, .slice (some ⟨w.heap.size + 1, 0, none⟩) 1 1, .slice none 0 0, .slice (some ⟨w.heap.size + 1 + 1, 0, none⟩) 1 1, .int .i64 0, .int .i64 1, .int .i64 3, .slice none 0 0, .slice none 0 0, .slice (some ⟨w.heap.size + 1 + 1 + 1, 0, none⟩) 1 1, .slice none 0 0] 54)).alloc
    (.cells #[.slice (some ⟨w.heap.size, 0, none⟩) 1 1, .slice (some ⟨w.heap.size + 1 + 1 + 1 + 1, 0, none⟩) 2 2, .int .i64 9] 25)) (w.heap.size + 1 + 1 + 1 + 1 + 1) (shD w.heap.size) := by
  obtain ⟨w1, h1⟩ : ∃ w1, w1 = w.alloc (.cells #[.int .i64 (-1)] 3) := ⟨_, rfl⟩
  obtain ⟨w2, h2⟩ : ∃ w2, w2 = w1.alloc (.cells #[.int .i64 0] 3) := ⟨_, rfl⟩
  obtain ⟨w3, h3⟩ : ∃ w3, w3 = w2.alloc (.cells #[.int .i64 0, .int .i64 4, .int .i64 2] 64) := ⟨_, rfl⟩
  obtain ⟨w4, h4⟩ : ∃ w4, w4 = w3.alloc (.cells #[.int .i64 0] 3) := ⟨_, rfl⟩
  have s1 : w1.heap.size = w.heap.size + 1 := by rw [h1]; simp
  have s2 : w2.heap.size = w.heap.size + 1 + 1 := by rw [h2]; simp [s1]
  have s3 : w3.heap.size = w.heap.size + 1 + 1 + 1 := by rw [h3]; simp [s2]
  have s4 : w4.heap.size = w.heap.size + 1 + 1 + 1 + 1 := by rw [h4]; simp [s3]
  rw [← h1, ← h2, ← h3, ← h4]
  have b12 : Below w1.heap.size w1 w2 := by rw [h2]; exact al _ _
  have b23 : Below w2.heap.size w2 w3 := by rw [h3]; exact al _ _
  have b34 : Below w3.heap.size w3 w4 := by rw [h4]; exact al _ _
  have r0 : RdI w1 w1.heap.size (some ⟨w.heap.size, 0, none⟩) [-1] := by rw [h1]; exact rdI_new _ _
  have r1 : RdI w2 w2.heap.size (some ⟨w.heap.size + 1, 0, none⟩) [0] := by rw [h2, ← s1]; exact rdI_new _ _
  have r2 : RdO w3 (some ⟨w.heap.size + 1 + 1, 0, none⟩) [(0, 4, 2)] := by rw [h3, ← s2]; exact rdO_new _ (0, 4, 2)
  have r3 : RdI w4 w4.heap.size (some ⟨w.heap.size + 1 + 1 + 1, 0, none⟩) [0] := by rw [h4, ← s3]; exact rdI_new _ _
  have r0' := ((r0.belo b12).belo b23).belo b34
  have r1' := (r1.belo b23).belo b34
  have r2' := r2.below b34
  obtain ⟨w5, h5⟩ : ∃ w5, w5 = w4.alloc (.cells #[.int .i64 0, .int .i64 1, .int .i64 0, .slice none 0 0, .slice (some ⟨w.heap.size + 1, 0, none⟩) 1 1, .slice none 0 0, .slice (some ⟨w.heap.size + 1 + 1, 0, none⟩) 1 1, .int .i64 0, .int .i64 1, .int .i64 3, .slice none 0 0, .slice none 0 0, .slice (some ⟨w.heap.size + 1 + 1 + 1, 0, none⟩) 1 1, .slice none 0 0] 54) := ⟨_, rfl⟩
  have s5 : w5.heap.size = w.heap.size + 1 + 1 + 1 + 1 + 1 := by rw [h5]; simp [s4]
  have b45 : Below w4.heap.size w4 w5 := by rw [h5]; exact al _ _
  have hF : RdF w5 (some ⟨w.heap.size + 1 + 1 + 1 + 1, 0, none⟩) [shF0 w.heap.size, shF1 w.heap.size] := by
    refine ⟨fun _ => ⟨w.heap.size + 1 + 1 + 1 + 1, 0, rfl, by omega, fun i hi c hc => ?_⟩, fun f hf => ?_⟩
    · have hi2 : i < 2 := by simpa using hi
      rw [h5, ← s4]
      rcases (by omega : i = 0 ∨ i = 1) with rfl | rfl <;> rcases (by omega : c = 0 ∨ c = 1 ∨ c = 2 ∨ c = 3 ∨ c = 4 ∨ c = 5 ∨ c = 6) with rfl | rfl | rfl | rfl | rfl | rfl | rfl <;> (rw [World.cell?_alloc_new]; rfl)
    · simp at hf
      rcases hf with rfl | rfl
      · exact ⟨rdR_nil _, r1'.belo b45, rdI_nil _, r2'.below b45⟩
      · exact ⟨rdR_nil _, rdI_nil _, r3.belo b45, rdO_nil _⟩
  have hW : Ww w5 (shD w.heap.size) := ⟨r0'.belo b45, hF, by simp [shD], by simp [shD], fun f hf => by
    simp [shD] at hf
    rcases hf with rfl | rfl <;> exact ltF_sh _ rfl (by simp [shF0, shF1]) (by simp [shF0, shF1]) (by simp [shF0, shF1])⟩
  rw [← h5]
  have := BoxW.new hW
  rw [s5] at this
  exact this

set_option maxRecDepth 100000 in
set_option maxHeartbeats 1000000 in
theorem shown_any (w : World) :
    Calls Tryz.prog 9 #[] w fun e w' => e = .returned (.bool true) ∧ Below w.heap.size w w' := by
  have BX := shD_box w
  have hb0 : Hid (Below w.heap.size w ((((((w.alloc (.cells #[.int .i64 (-1)] 3)).alloc (.cells #[.int .i64 0] 3)).alloc (.cells #[.int .i64 0, .int .i64 4, .int .i64 2] 64)).alloc (.cells #[.int .i64 0] 3)).alloc
    (.cells #[.int .i64 0, .int .i64 1, .int .i64 0, .slice none 0 0, .slice (some ⟨w.heap.size + 1, 0, none⟩) 1 1, .slice none 0 0, .slice (some ⟨w.heap.size + 1 + 1, 0, none⟩) 1 1, .int .i64 0, .int .i64 1, .int .i64 3, .slice none 0 0, .slice none 0 0, .slice (some ⟨w.heap.size + 1 + 1 + 1, 0, none⟩) 1 1, .slice none 0 0] 54)).alloc
    (.cells #[.slice (some ⟨w.heap.size, 0, none⟩) 1 1, .slice (some ⟨w.heap.size + 1 + 1 + 1 + 1, 0, none⟩) 2 2, .int .i64 9] 25))) := by
    refine (((((((Below.refl _ w).alloc ?_ _).alloc ?_ _).alloc ?_ _).alloc ?_ _).alloc ?_ _).alloc ?_ _) <;> simp <;> omega
  have ST := new_ok BX.ok (shD_wld w.heap.size)
  dsimp only [wv] at ST
  rw [show (shD w.heap.size).pa = some ⟨w.heap.size, 0, none⟩ from rfl, show (shD w.heap.size).pc = 1 from rfl, show (shD w.heap.size).ps.length = 1 from rfl, show (shD w.heap.size).fa = some ⟨w.heap.size + 1 + 1 + 1 + 1, 0, none⟩ from rfl, show (shD w.heap.size).fc = 2 from rfl, show (shD w.heap.size).fs.length = 2 from rfl, show (shD w.heap.size).en = 9 from rfl] at ST
  clear BX
  go_enter Tryz.func9, Tryz.ntmps9
  go_wp2_with fail
  refine ST.mono ?_
  rintro e w1 ⟨rb, F, rfl, hR, _, hb1⟩
  have C := steps_any hR 5 (by rw [shD_dn0]; omega)
  rw [shD_run] at C
  have HB1 : Hid _ := (hb0.out).trans (hb1.mono (hb0.out).size)
  have HF : Hid (∀ k, F k → w.heap.size ≤ k) := fun k hk => by have := ‹∀ k, F k → _› k hk; have := (hb0.out).size; omega
  clear ST hR hb1
  go_wp2_with fail
  refine C.mono ?_
  rintro e w2 ⟨rfl, F2, hR2, hS2⟩
  have C2 := log_any hR2 1 (by rw [shD_dn]; omega)
  rw [shD_log] at C2
  have HR2 : Hid _ := hR2
  have HB2 : Hid (Below w.heap.size w w2) := (HB1.out).trans (hS2.1.below (HB1.out).size HF.out)
  clear C hR2 hS2
  go_wp2_with fail
  refine C2.mono ?_
  rintro e w3 ⟨a, c, rfl, hD, hb3⟩
  obtain ⟨b, off, rfl, hbb, z0, z1, z2, z3, z4, z5, z6⟩ := hD.cells (i := 0) (by simp) (x := ⟨⟨4, 0, 0, 1, 0, 2⟩, 3⟩) rfl
  simp only [Nat.zero_mul, Nat.add_zero] at z0 z1 z2 z3 z4 z5 z6
  have C3 := state_any ((thR _ _ _).below HR2.out hb3) 1
  rw [shD_sta] at C3
  have HB3 : Hid _ := (HB2.out).trans (hb3.mono (HB2.out).size)
  clear C2 hD hb3
  go_wp2_with fail
  refine C3.mono ?_
  rintro e w4 ⟨rfl, hw4⟩
  have hw4' := hw4.symm
  subst hw4'
  go_wp2_with fail
  go_ret
  exact ⟨rfl, HB3.out⟩
end Go.Proofs.YtmfcbalhabcodaaGreat
