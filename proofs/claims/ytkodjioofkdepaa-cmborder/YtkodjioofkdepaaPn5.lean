/- Proved: contracts of the program's New. -/
import Derived.Test.YtkodjioofkdepaaPn3
import Derived.Test.YtkodjioofkdepaaKp1
namespace Go.Proofs.Ytkodjioofkdepaa
open Go.RowKit Go.Shelf
set_option linter.unusedVariables false
set_option maxRecDepth 100000

theorem boxf7 {w : World} {D : Wd} (h : Ww w D) {f : Nat} (hf : f < D.fs.length) {F : Fd} (hF : nthF D.fs f = F) : ∃ fb off, D.fa = some ⟨fb, off, none⟩ ∧ ∀ W, Below w.heap.size w W → W.cell? ⟨fb, off + f * 7, none⟩ = some (.int .i64 F.kd) ∧ W.cell? ⟨fb, off + f * 7 + 1, none⟩ = some (.int .i64 F.lk) ∧ W.cell? ⟨fb, off + f * 7 + 2, none⟩ = some (.int .i64 F.st) ∧ W.cell? ⟨fb, off + f * 7 + 3, none⟩ = some (.slice F.ra F.rs.length F.rc) ∧ W.cell? ⟨fb, off + f * 7 + 4, none⟩ = some (.slice F.pa F.ps.length F.pc) ∧ W.cell? ⟨fb, off + f * 7 + 5, none⟩ = some (.slice F.sa F.ss.length F.sc) ∧ W.cell? ⟨fb, off + f * 7 + 6, none⟩ = some (.slice F.ia F.is.length F.ic) := by
  obtain ⟨fb, off, hfa, _⟩ := h.f.cells hf hF
  refine ⟨fb, off, hfa, fun W hb => ?_⟩
  obtain ⟨fb2, off2, e, _, hc⟩ := (h.below hb).f.cells hf hF
  rw [hfa] at e
  cases e
  exact hc

set_option maxHeartbeats 1000000 in
theorem knnew_err (w : World) (D : Wd) (f : Int) (h : Ww w D) {N E : Int} (hw : wldE D = (N, E)) (hE : E ≠ 0) :
    Calls Try.prog 6 #[wv D, .int .i64 f] w fun en w' => en = .returned (.tuple #[.pointer none, .int .i64 E]) ∧ Below w.heap.size w w' := by
  have BX := BoxW.new h
  have CK := wcheck_any _ D BX.ok
  rw [hw] at CK
  have c0 := BX.c0
  have c1 := BX.c1
  have c2 := BX.c2
  have hb0 : Hid _ := al w (.cells (wcs D) 31)
  have d0 : (E != 0) = true := by simpa using hE
  dsimp only [wv, wcs] at CK c0 c1 c2 hb0 ⊢
  clear BX hw hE
  go_enter Try.func6, Try.ntmps6
  go_wp2_with (go_at_call 15; refine CK.mono ?_; rintro en w2 ⟨rfl, b2⟩; have HB : Hid (Below w.heap.size w w2) := hb0.out.trans (b2.mono hb0.out.size); clear b2 CK)
  go_ret2
  exact ⟨rfl, HB.out⟩
set_option maxHeartbeats 2000000 in
theorem knnew_no (w : World) (D : Wd) (f : Int) (h : Ww w D) (hw : wldE D = (-1, 0)) (hf : ¬ (0 ≤ f ∧ f < D.fs.length ∧ (nthF D.fs f.toNat).kd = 0)) :
    Calls Try.prog 6 #[wv D, .int .i64 f] w fun en w' => en = .returned (.tuple #[.pointer none, .int .i64 1]) ∧ Below w.heap.size w w' := by
  have BX := BoxW.new h
  have CK := wcheck_any _ D BX.ok
  rw [hw] at CK
  obtain ⟨hn1, hn8⟩ := wld_n hw
  have HBX : Hid _ := BX
  have hb0 : Hid _ := al w (.cells (wcs D) 31)
  dsimp only [wcs] at HBX
  dsimp only [wv, wcs] at CK hb0 ⊢
  have c0 := HBX.out.c0
  have c1 := HBX.out.c1
  have c2 := HBX.out.c2
  by_cases h1 : ¬ (0 ≤ f ∧ f < (D.fs.length : Int))
  · have CN : Hid (∀ w2, Calls Try.prog 16 #[.int .i64 (D.fs.length : Int), .int .i64 f] w2 fun e w' => e = .returned (.tuple #[.pointer none, .int .i64 1]) ∧ w2 = w') := fun w2 => C.new_no w2 _ _ (fun g => h1 ⟨g.2.2.1, g.2.2.2⟩)
    clear BX hw hf h1
    go_enter Try.func6, Try.ntmps6
    go_wp2_with (first
      | (go_at_call 15; refine CK.mono ?_; rintro en w2 ⟨rfl, b2⟩; have HB : Hid (Below w.heap.size w w2) := hb0.out.trans (b2.mono hb0.out.size); have k1 := (HBX.out.below b2).c1; clear b2 CK)
      | (go_at_call 16; refine (Hid.out CN _).mono ?_; rintro en w3 ⟨rfl, rfl⟩; clear CN))
    go_ret2
    exact ⟨rfl, HB.out⟩
  have h1' : 0 ≤ f ∧ f < (D.fs.length : Int) := Classical.byContradiction h1
  obtain ⟨k, rfl⟩ := Int.eq_ofNat_of_zero_le h1'.1
  have hk : k < D.fs.length := by omega
  obtain ⟨F, hF⟩ : ∃ F, nthF D.fs k = F := ⟨_, rfl⟩
  obtain ⟨fb, off, hfa, hcs⟩ := boxf7 h hk hF
  have d1 : (F.kd != 0) = true := by
    have : ¬ F.kd = 0 := fun e => hf ⟨by omega, by omega, by rw [show ((k : Int)).toNat = k from rfl, hF]; exact e⟩
    simpa using this
  have hkI : (k : Int) < (D.fs.length : Int) := by omega
  have CN : Hid (∀ w2, Calls Try.prog 16 #[.int .i64 (D.fs.length : Int), .int .i64 (k : Int)] w2 fun e w' => ∃ p, e = .returned (.tuple #[.pointer p, .int .i64 0]) ∧ Below w2.heap.size w2 w') := fun w2 => (C.new_ok w2 _ _ hn1 hn8 hk).mono fun e w' ⟨he, _, hb⟩ => ⟨_, he, hb⟩
  have HCS : Hid _ := hcs
  rw [hfa] at CK c1
  have hb0' := hb0.out
  rw [hfa] at hb0' ⊢
  have HB0 : Hid _ := hb0'
  have HK1 : Hid (∀ w2, Below (w.alloc (.cells #[.slice D.pa D.ps.length D.pc, .slice D.fa D.fs.length D.fc, .int .i64 D.en] 31)).heap.size (w.alloc (.cells #[.slice D.pa D.ps.length D.pc, .slice D.fa D.fs.length D.fc, .int .i64 D.en] 31)) w2 → w2.cell? ⟨w.heap.size, 1, none⟩ = some (.slice D.fa D.fs.length D.fc)) := fun w2 b2 => (HBX.out.below b2).c1
  rw [hfa] at HK1
  clear BX hw hf hcs hF hb0 hb0' HBX h1 h1'
  go_enter Try.func6, Try.ntmps6
  go_wp2_with (first
    | (go_at_call 15; refine CK.mono ?_; rintro en w2 ⟨rfl, b2⟩; have hbb : Below w.heap.size w w2 := HB0.out.trans (b2.mono HB0.out.size); have HB : Hid _ := And.intro hbb b2; have k1 := Hid.out HK1 _ b2; clear b2 hbb CK)
    | (go_at_call 16; refine (Hid.out CN _).mono ?_; rintro en w3 ⟨p, rfl, b3⟩; have hb3 := (Hid.out HB).2.trans (b3.mono (Hid.out HB).2.size); have hbb3 := (Hid.out HB).1.trans (b3.mono (Hid.out HB).1.size); have HB3 : Hid _ := hbb3; have l1 := Hid.out HK1 _ hb3; obtain ⟨y0, y1, y2, y3, y4, y5, y6⟩ := Hid.out HCS _ hbb3; clear b3 hb3 hbb3 CN))
  go_ret2
  exact ⟨rfl, HB3.out.trans ((al w3 _).mono HB3.out.size)⟩

set_option maxHeartbeats 4000000 in
theorem knnew_ok (w : World) (D : Wd) (f : Nat) (h : Ww w D) (hw : wldE D = (-1, 0)) (hf : f < D.fs.length) (hkd : (nthF D.fs f).kd = 0) :
    Calls Try.prog 6 #[wv D, .int .i64 (f : Int)] w fun en w' => ∃ nb cb rb qb G K D', en = .returned (.tuple #[.pointer (some ⟨nb, 0, none⟩), .int .i64 0]) ∧ LikP f D' D ∧ KN w D' f (nd0 D f) nb cb rb qb G (.slice none 0 0) K w' := by
  have BX := BoxW.new h
  have CK := wcheck_any _ D BX.ok
  rw [hw] at CK
  obtain ⟨hn1, hn8⟩ := wld_n hw
  have HBX : Hid _ := BX
  have hb0 := al w (.cells (wcs D) 31)
  obtain ⟨F, hF⟩ : ∃ F, nthF D.fs f = F := ⟨_, rfl⟩
  obtain ⟨fb, off, hfa, hcs⟩ := boxf7 h hf hF
  rw [hF] at hkd
  have d1 : (F.kd != 0) = false := by simpa using hkd
  have hfI : (f : Int) < (D.fs.length : Int) := by omega
  have hn8I : (D.fs.length : Int) ≤ 8 := by omega
  have HK : Hid (∀ w2, Below (w.alloc (.cells (wcs D) 31)).heap.size (w.alloc (.cells (wcs D) 31)) w2 → Below w.heap.size w w2 ∧ w.heap.size < w2.heap.size ∧ w2.cell? ⟨w.heap.size, 0, none⟩ = some (.slice D.pa D.ps.length D.pc) ∧ w2.cell? ⟨w.heap.size, 1, none⟩ = some (.slice (some ⟨fb, off, none⟩) D.fs.length D.fc) ∧ w2.cell? ⟨w.heap.size, 2, none⟩ = some (.int .i64 D.en)) := fun w2 b2 => by
    have hb := HBX.out.below b2
    have hs : (w.alloc (.cells (wcs D) 31)).heap.size = w.heap.size + 1 := by simp
    refine ⟨hb0.trans (b2.mono hb0.size), by have := b2.size; omega, hb.c0, by rw [← hfa]; exact hb.c1, hb.c2⟩
  have HCS : Hid _ := hcs
  have HNC : Hid (∀ w2, Below (w.alloc (.cells (wcs D) 31)).heap.size (w.alloc (.cells (wcs D) 31)) w2 → Calls Try.prog 16 #[.int .i64 (D.fs.length : Int), .int .i64 (f : Int)] w2 fun en w' => en = .returned (.tuple #[.pointer (some ⟨w2.heap.size + 1, 0, none⟩), .int .i64 0]) ∧ C.PC D.fs.length f C.noC 0 (w2.heap.size + 1) w2.heap.size w' ∧ Below w2.heap.size w2 w') := fun w2 b2 => C.new_ok w2 D.fs.length f hn1 hn8 hf
  have HBEL : Hid (∀ w2 w3, Below (w.alloc (.cells (wcs D) 31)).heap.size (w.alloc (.cells (wcs D) 31)) w2 → Below w2.heap.size w2 w3 → Below (w.alloc (.cells (wcs D) 31)).heap.size (w.alloc (.cells (wcs D) 31)) w3) := fun w2 w3 b2 b3 => b2.trans (b3.mono b2.size)
  have HKE : Hid (∀ w2, Below w.heap.size w w2 → Calls Try.prog 18 #[.agg #[.slice D.pa D.ps.length D.pc, .slice (some ⟨fb, off, none⟩) D.fs.length D.fc, .int .i64 D.en], .int .i64 (f : Int)] w2 fun e w' => ∃ D', e = .returned (.agg #[.slice D'.pa D'.ps.length D'.pc, .slice D'.fa D'.fs.length D'.fc, .int .i64 D'.en]) ∧ LikP f D' D ∧ Ww (mask (fun k => decide (k < w2.heap.size)) w') D' ∧ Below w2.heap.size w2 w') := fun w2 b2 => by
    have := kept_any w2 D f (h.below b2) hf
    dsimp only [wv] at this
    rw [hfa] at this
    exact this
  have c1 := BX.c1
  have c0 := BX.c0
  have c2 := BX.c2
  have HW : Hid _ := h
  have HOK : Hid _ := hw
  dsimp only [wcs] at HK HNC HBEL c0 c1 c2
  dsimp only [wv, wcs] at CK ⊢
  rw [hfa] at CK c1 HK HNC HBEL c0 c2 ⊢
  clear BX HBX hcs hb0 hkd h hw
  go_enter Try.func6, Try.ntmps6
  go_wp2_with (first
    | (go_at_call 15; refine CK.mono ?_; rintro en w2 ⟨rfl, b2⟩; obtain ⟨hbb, hlt2, k0, k1, k2⟩ := Hid.out HK _ b2; have HB2 : Hid _ := b2; clear b2 hbb CK)
    | (go_at_call 16; refine (Hid.out HNC _ (Hid.out HB2)).mono ?_; rintro en w3 ⟨rfl, hck, b3⟩; have HCK : Hid _ := hck; have hb3 := Hid.out HBEL _ _ (Hid.out HB2) b3; have HB3 : Hid _ := hb3; obtain ⟨hbb, hlt3, k0, k1, k2⟩ := Hid.out HK _ hb3; obtain ⟨y0, y1, y2, y3, y4, y5, y6⟩ := Hid.out HCS _ hbb; have HBW : Hid _ := And.intro hbb (And.intro b3 hlt2); clear hck b3 hb3 hbb HNC))
  obtain ⟨rb, hrb⟩ : ∃ rb, w2.heap.size = rb := ⟨_, rfl⟩
  obtain ⟨cb, hcb⟩ : ∃ cb, rb + 1 = cb := ⟨_, rfl⟩
  rw [hrb, hcb] at HCK
  try simp only [hrb, hcb]
  obtain ⟨W5, hW5⟩ : ∃ W5, W5 = w3.alloc (.cells #[.int .i64 F.kd, .int .i64 F.lk, .int .i64 F.st, .slice F.ra F.rs.length F.rc, .slice F.pa F.ps.length F.pc, .slice F.sa F.ss.length F.sc, .slice F.ia F.is.length F.ic] 65) := ⟨_, rfl⟩
  obtain ⟨FB, hFB⟩ : ∃ FB, w3.heap.size = FB := ⟨_, rfl⟩
  have hb35 : Below w3.heap.size w3 W5 := by rw [hW5]; exact al _ _
  have bx5 : W5.heap[FB]? = some (.cells #[.int .i64 F.kd, .int .i64 F.lk, .int .i64 F.st, .slice F.ra F.rs.length F.rc, .slice F.pa F.ps.length F.pc, .slice F.sa F.ss.length F.sc, .slice F.ia F.is.length F.ic] 65 (0, 0)) := by rw [hW5, ← hFB]; exact World.alloc_heap_new w3 _
  have hb5 := HBEL.out _ _ HB3.out hb35
  have HB5 : Hid _ := hb5
  have lF5 : FB < W5.heap.size := (Array.getElem?_eq_some_iff.1 bx5).1
  rw [← hW5]
  try simp only [hFB]
  have HKX : Hid (∀ W, Below W5.heap.size W5 W → Below w.heap.size w W ∧ FB < W.heap.size ∧ w.heap.size < W.heap.size ∧ (W.cell? ⟨w.heap.size, 0, none⟩ = some (.slice D.pa D.ps.length D.pc) ∧ W.cell? ⟨w.heap.size, 1, none⟩ = some (.slice (some ⟨fb, off, none⟩) D.fs.length D.fc) ∧ W.cell? ⟨w.heap.size, 2, none⟩ = some (.int .i64 D.en) ∧ W.cell? ⟨FB, 2, none⟩ = some (.int .i64 F.st) ∧ W.cell? ⟨FB, 6, none⟩ = some (.slice F.ia F.is.length F.ic))) := fun W hW => by
    obtain ⟨q1, q2, q3, q4, q5⟩ := HK.out W (hb5.trans (hW.mono hb5.size))
    have bxW := (hW.block FB lF5).trans bx5
    exact ⟨q1, Nat.lt_of_lt_of_le lF5 hW.size, q2, q3, q4, q5, cellN bxW 2, cellN bxW 6⟩
  have HQN : Hid (Calls Try.prog 17 #[.int .i64 64] W5.drew fun en w' => ∃ qb G, en = .returned (.pointer (some ⟨qb, 0, none⟩)) ∧ Q.IsQ w' G qb 64 [] ∧ (∀ k, G k → W5.heap.size ≤ k) ∧ Below W5.heap.size W5 w') := by
    refine (Q.new_any 64 W5.drew (by unfold Q.i64; omega)).mono fun en w' ⟨qb, G, he, hq, hg, hb⟩ => ⟨qb, G, he, hq, hg, ⟨hb.os, hb.tape, hb.output, hb.size, hb.block⟩⟩
  obtain ⟨_, _, _, r0, r1, r2, r3, r4⟩ := HKX.out W5 (Below.refl _ _)
  have HB35 : Hid _ := hb35
  have HFB : Hid _ := hFB
  have HRB : Hid _ := And.intro hrb hcb
  clear hrb hcb hFB hW5 bx5 hb5 hb35 k0 k1 k2 y0 y1 y2 y3 y4 y5 y6 hlt2 hlt3
  go_wp2_with fail
  go_region_held3 (fun w' => w'.cell? ⟨w.heap.size, 0, none⟩ = some (.slice D.pa D.ps.length D.pc) ∧ w'.cell? ⟨w.heap.size, 1, none⟩ = some (.slice (some ⟨fb, off, none⟩) D.fs.length D.fc) ∧ w'.cell? ⟨w.heap.size, 2, none⟩ = some (.int .i64 D.en) ∧ w'.cell? ⟨FB, 2, none⟩ = some (.int .i64 F.st) ∧ w'.cell? ⟨FB, 6, none⟩ = some (.slice F.ia F.is.length F.ic)) (first | (go_keep; done) | exact Hid.out KEEP2 | exact Hid.out KEEP) (first
    | (go_at_call 17; refine (Hid.out HQN).mono ?_; rintro en w6 ⟨qb, G, rfl, hq, hg, b6⟩; have HQ6 : Hid _ := And.intro hq (And.intro hg b6); obtain ⟨hbb, l6, l7, hc⟩ := Hid.out HKX _ b6; have KEEP : Hid _ := hc; have HBB : Hid _ := hbb; clear hq hg b6 hbb hc HQN)
    | (go_at_call 18; refine (Hid.out HKE _ (Hid.out HBB)).mono ?_; rintro en w8 ⟨D', rfl, hlik, hww, b8⟩; have HD8 : Hid _ := And.intro hlik (And.intro hww b8); obtain ⟨hbb8, l8, l9, hc8⟩ := Hid.out HKX _ ((Hid.out HQ6).2.2.trans (b8.mono (Hid.out HQ6).2.2.size)); have KEEP2 : Hid _ := hc8; have HBB8 : Hid _ := hbb8; clear hlik hww b8 hbb8 hc8 HKE))
  go_wp2
  go_ret2
  obtain ⟨hq, hg, b6⟩ := HQ6.out
  obtain ⟨hlik, hww, b8⟩ := HD8.out
  obtain ⟨hrb, hcb⟩ := HRB.out
  have hFB := HFB.out
  have hck := (HCK.out.below HB35.out).below b6
  have hbx := al w8 (.cells (pcs D' f F.st F.is.length cb qb (.slice none 0 0)) 46)
  have hB : Below w.heap.size w (w8.alloc (.cells (pcs D' f F.st F.is.length cb qb (.slice none 0 0)) 46)) := HBB8.out.trans (hbx.mono HBB8.out.size)
  have hq4 := hq.lt
  have l1 := HCK.out.lt
  have l2 := HCK.out.mlt
  have hs35 := HB35.out.size
  have hs56 := b6.size
  have hs68 := b8.size
  have hlw : w.heap.size < rb := by have := HBW.out.2.2; omega
  have hmem : nthF D.fs f ∈ D.fs := by unfold nthF; simp [hf]
  have hil : (nthF D.fs f).is.length ≤ 20 := (HW.out.lt _ hmem).i
  rw [hF] at hil
  have hs8 : (w8.alloc (.cells (pcs D' f F.st F.is.length cb qb (.slice none 0 0)) 46)).heap[w8.heap.size]? = some (.cells (pcs D' f F.st F.is.length cb qb (.slice none 0 0)) 46 (0, 0)) := (MapKept.heap_alloc w8 _).1
  have hsz8 : (w8.alloc (.cells (pcs D' f F.st F.is.length cb qb (.slice none 0 0)) 46)).heap.size = w8.heap.size + 1 := by simp
  have e0 : nd0 D f = ⟨F.st, F.is.length, C.noC, 0, [], []⟩ := by unfold nd0; rw [hF]
  have hKi : ∀ k, decide (w6.heap.size ≤ k ∧ k < w8.heap.size) = true ↔ w6.heap.size ≤ k ∧ k < w8.heap.size := fun k => by simp
  have hKo : ∀ k, (¬ (w6.heap.size ≤ k ∧ k < w8.heap.size)) → decide (w6.heap.size ≤ k ∧ k < w8.heap.size) = false := fun k g => by simpa using g
  have hKN : KN w D' f (nd0 D f) w8.heap.size cb rb qb G (.slice none 0 0) (fun k => decide (w6.heap.size ≤ k ∧ k < w8.heap.size)) (w8.alloc (.cells (pcs D' f F.st F.is.length cb qb (.slice none 0 0)) 46)) := by
    rw [e0]
    refine ⟨hww.sub (sub_mask hbx.size (fun k hk hS => ⟨?_, hbx.block k hk⟩)), hB, hs8, ?_, (hq.below b8).below hbx, World.ownsRow_nil _ _ _ _, ?_, fun k g => ?_, by omega, by omega, fun g => ?_, fun g => ?_, fun g => ?_, by simp [Value.ownBlock], by simp [Value.ownBlock], by simp [Value.ownBlock], fun k g => by simp [Value.ownBlock] at g, hKo _ (by omega), hKo _ (by omega), hKo _ (by omega), fun k g => hKo _ (by have := hq4 k g; omega), fun k g => by simp [Value.ownBlock] at g, by rw [hlik.fl]; exact hf, by show (0 : Int) ≤ (F.is.length : Int); omega, by show (F.is.length : Int) ≤ 1000000; omega⟩
    · have hk2 : w6.heap.size ≤ k := by simpa using hS
      have : decide (w6.heap.size ≤ k ∧ k < w8.heap.size) = true := (hKi k).2 ⟨hk2, hk⟩
      show (!decide (w6.heap.size ≤ k ∧ k < w8.heap.size)) = false
      rw [this]
      rfl
    · rw [hlik.fl]
      exact (hck.below b8).below hbx
    · rintro k (e | e | e | g | g | g)
      · have := HBB8.out.size; omega
      · omega
      · omega
      · have := hg k g; omega
      · simp [Value.ownBlock] at g
      · have := (hKi k).1 g; omega
    · have := (hKi k).1 g; omega
    · have := hq4 _ g; omega
    · have := hg _ g; omega
    · have := hg _ g; omega
  exact ⟨_, cb, rb, qb, G, _, D', rfl, hlik, hKN⟩
end Go.Proofs.Ytkodjioofkdepaa
