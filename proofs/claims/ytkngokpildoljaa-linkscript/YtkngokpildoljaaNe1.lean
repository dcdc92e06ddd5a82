/- Proved: contracts of a net's First, Recv, Send. -/
import Derived.Test.YtkngokpildoljaaBx
namespace Go.Proofs.Ytkngokpildoljaa
open Go.RowKit Go.Shelf
set_option linter.unusedVariables false

set_option maxRecDepth 100000 in
theorem first_any {n room : Nat} {L : Ln} {B : Nat} {w : World} (h : Nt n room L B w) (a b : Int) :
    Calls Try.prog 12 #[.pointer (some ⟨B, 0, none⟩), .int .i64 a, .int .i64 b] w fun e w' => e = .returned (.tuple #[iv (nthT (L a b) 0), .bool (fstB (L a b))]) ∧ Below w.heap.size w w' := by
  have I : ∀ W, Below w.heap.size w W → _ := fun W hb => islink_any W B n a b (h.below hb).see.1
  have HI : Hid _ := I
  clear I
  obtain ⟨x, hx⟩ : ∃ x, isL n a b = x := ⟨_, rfl⟩
  simp only [hx] at HI
  cases x
  · rw [h.ok.no a b hx]
    clear hx h
    go_enter Try.func12, Try.ntmps12
    go_wp2_with (go_at_call 26; refine (Hid.out HI _ (al _ _)).mono ?_; rintro e w' ⟨rfl, rfl⟩; clear HI)
    exact bodyPost_ret (v := .tuple #[iv (nthT [] 0), .bool (fstB [])]) (by simp [results, Try.results12, go_sem, nthT, it0, fstB]) rfl ⟨rfl, al _ _⟩
  · obtain ⟨⟨h1, h2⟩, ⟨h3, h4⟩, _⟩ := (isL_iff n a b).1 hx
    have h8 := h.ok.n8
    have hb := h.lt
    obtain ⟨k, rfl⟩ := Int.eq_ofNat_of_zero_le h1
    obtain ⟨m, rfl⟩ := Int.eq_ofNat_of_zero_le h3
    have hk : (k : Int) < 8 := by omega
    have hm : (m : Int) < 8 := by omega
    obtain ⟨f, hf⟩ := h
    obtain ⟨st, hst⟩ := hf.rg k m (by omega) (by omega)
    have F : ∀ W, Below w.heap.size w W → Calls Try.prog 30 #[.pointer (some ⟨B, 2 + k * 1040 + m * 130, none⟩)] W fun e w' => e = .returned (.tuple #[iv (nthT (L k m) 0), .bool (fstB (L k m))]) ∧ Below W.heap.size W w' := fun W hW => by
      have bl := hf.blk.below hW
      by_cases hl : (L k m).length = 0
      · have e : L k m = [] := List.eq_nil_of_length_eq_zero hl
        have c := bl.at (i := 2 + k * 1040 + m * 130 + 129) (by omega) (v := 0) (by rw [hst.s3, hl]; rfl)
        rw [e]
        exact first_none W B _ c bl.lt
      · have hi := hst.s5 0 (by omega)
        have hs := hst.s1
        rw [show (st + 0) % 16 = st by omega] at hi
        have hfb : fstB (L k m) = true := by unfold fstB; rw [decide_eq_true]; omega
        rw [hfb]
        obtain ⟨i0, i1, i2, i3, i4, i5, i6, i7⟩ := hi
        exact first_some W B _ st bl.lt _ _ (by omega) hs (bl.at (by omega) hst.s2) (bl.at (by omega) hst.s3) (bl.at (by omega) i0) (bl.at (by omega) i1) (bl.at (by omega) i2) (bl.at (by omega) i3) (bl.at (by omega) i4) (bl.at (by omega) i5) (bl.at (by omega) i6) (bl.at (by omega) i7)
    obtain ⟨x, hx⟩ : ∃ x, nthT (L k m) 0 = x := ⟨_, rfl⟩
    obtain ⟨y, hy⟩ : ∃ y, fstB (L k m) = y := ⟨_, rfl⟩
    simp only [hx, hy] at F ⊢
    have HF : Hid _ := F
    clear hf hst hx hy F
    go_enter Try.func12, Try.ntmps12
    go_wp2_with (first | (go_at_call 26; refine (Hid.out HI _ (al _ _)).mono ?_; rintro e w' ⟨rfl, rfl⟩; clear HI) | (go_at_call 30; refine (Hid.out HF _ (al _ _)).mono ?_; rintro e w' ⟨rfl, hb2⟩; (clear HF; have bx := (BoxT.zero w).below hb2; obtain ⟨c0, c1, c2, c3, c4, c5, c6, c7⟩ := bx.cells; obtain ⟨z0, z1, z2, z3, z4, z5, z6, z7⟩ := bx.frozs; dsimp only [it0] at c0 c1 c2 c3 c4 c5 c6 c7; have HX : Hid _ := bx.set8 x; have HB2 : Hid _ := below8 (Below.on (al w _) hb2) (Nat.le_refl _) x; clear bx hb2)))
    obtain ⟨W9, hW⟩ : ∃ W9, W9 = se8 w' w.heap.size x := ⟨_, rfl⟩
    rw [← hW] at HX HB2
    simp only [se8] at hW
    rw [← hW]
    obtain ⟨c0, c1, c2, c3, c4, c5, c6, c7⟩ := HX.out.cells
    exact bodyPost_ret (v := .tuple #[iv x, .bool y]) (by simp [results, Try.results12, go_sem, c0, c1, c2, c3, c4, c5, c6, c7]) rfl ⟨rfl, HB2.out⟩

set_option maxRecDepth 100000 in
set_option maxHeartbeats 1000000 in
theorem recv_any {n room : Nat} {L : Ln} {B : Nat} {w : World} (h : Nt n room L B w) (a b : Int) :
    Calls Try.prog 14 #[.pointer (some ⟨B, 0, none⟩), .int .i64 a, .int .i64 b] w fun e w' => e = .returned (.tuple #[iv (nthT (L a b) 0), .bool (fstB (L a b))]) ∧ Nt n room (rcvL L a b) B w' ∧ Fr (fun k => k = B) w w' := by
  have F : ∀ W, Below w.heap.size w W → _ := fun W hb => first_any (h.below hb) a b
  have hb := h.lt
  obtain ⟨x, hx⟩ : ∃ x, nthT (L a b) 0 = x := ⟨_, rfl⟩
  obtain ⟨y, hy⟩ : ∃ y, fstB (L a b) = y := ⟨_, rfl⟩
  simp only [hx, hy] at F ⊢
  have HF : Hid _ := F
  clear F hx
  cases y
  · have he : rcvL L a b = L := by
      have : (L a b).length = 0 := by unfold fstB at hy; simp at hy; simpa using hy
      have e : L a b = [] := List.eq_nil_of_length_eq_zero this
      have e2 : (L a b).tail = L a b := by rw [e]; rfl
      unfold rcvL
      rw [e2, updL_self]
    rw [he]
    have HN : Hid _ := h
    clear he hy h
    go_enter Try.func14, Try.ntmps14
    go_wp2_with (go_at_call 12; refine (Hid.out HF _ (al _ _)).mono ?_; rintro e w' ⟨rfl, hb2⟩; have bx := (BoxT.zero w).below (Below.on hb2 (al w' (.cells (ics x) 35))); obtain ⟨c0, c1, c2, c3, c4, c5, c6, c7⟩ := bx.cells; obtain ⟨z0, z1, z2, z3, z4, z5, z6, z7⟩ := bx.frozs; dsimp only [it0] at c0 c1 c2 c3 c4 c5 c6 c7; have by2 := BoxT.new w' x; obtain ⟨k0, k1, k2, k3, k4, k5, k6, k7⟩ := by2.cells; have hbw := hb2.size; have HX : Hid _ := bx.set8 x; have HB2 : Hid _ := below8 (Below.on (Below.on (al w _) hb2) (al w' (.cells (ics x) 35))) (Nat.le_refl _) x; simp only [World.size_alloc] at hbw; clear bx by2 hb2)
    obtain ⟨W9, hW⟩ : ∃ W9, W9 = se8 (w'.alloc (.cells (ics x) 35)) w.heap.size x := ⟨_, rfl⟩
    rw [← hW] at HX HB2
    simp only [se8, ics] at hW
    rw [← hW]
    obtain ⟨c0, c1, c2, c3, c4, c5, c6, c7⟩ := HX.out.cells
    exact bodyPost_ret (v := .tuple #[iv x, .bool false]) (by simp [results, Try.results14, go_sem, c0, c1, c2, c3, c4, c5, c6, c7]) rfl ⟨rfl, Nt.below HN.out HB2.out, Fr.of_below HB2.out⟩
  · have hne : 0 < (L a b).length := by unfold fstB at hy; simpa using hy
    have hx : isL n a b = true := by
      cases e : isL n a b
      · rw [h.ok.no a b e] at hne; simp at hne
      · rfl
    obtain ⟨⟨h1, h2⟩, ⟨h3, h4⟩, _⟩ := (isL_iff n a b).1 hx
    have h8 := h.ok.n8
    obtain ⟨k, rfl⟩ := Int.eq_ofNat_of_zero_le h1
    obtain ⟨m, rfl⟩ := Int.eq_ofNat_of_zero_le h3
    have hk : (k : Int) < 8 := by omega
    have hm : (m : Int) < 8 := by omega
    have D : ∀ W, Below w.heap.size w W → Calls Try.prog 31 #[.pointer (some ⟨B, 2 + k * 1040 + m * 130, none⟩)] W fun e w' => e = .returned (.tuple #[]) ∧ Nt n room (rcvL L k m) B w' ∧ Fr (fun k => k = B) W w' := fun W hW => by
      obtain ⟨f, hf⟩ := h.below hW
      obtain ⟨st, hst⟩ := hf.rg k m (by omega) (by omega)
      refine (drop_any W B _ st _ f hf.blk (by omega) hst.s1 hst.s4 (by omega) hst.s2 hst.s3).mono ?_
      rintro e w' ⟨rfl, hB, hF⟩
      have h4 := hf.ok.len k m
      have hs := hst.s1
      refine ⟨rfl, hf.ring (by omega) (by omega) hx (by simp; omega) hB (fun i hi => ?_) ⟨_, hst.drop (by omega)⟩, hF⟩
      rw [upF_out _ _ _ _ (by omega), upF_out _ _ _ _ (by omega), put8_out _ _ _ _ (by omega)]
    have HD : Hid _ := D
    clear D h hx
    go_enter Try.func14, Try.ntmps14
    go_wp2_with (first | (go_at_call 12; refine (Hid.out HF _ (al _ _)).mono ?_; rintro e w' ⟨rfl, hb2⟩; have HZ : Hid _ := (BoxT.zero w).below (Below.on hb2 (al w' (.cells (ics x) 35))); have HY : Hid _ := BoxT.new w' x; have HU : Hid _ := Below.on (Below.on (al w _) hb2) (al w' (.cells (ics x) 35)); have hbw := hb2.size; simp only [World.size_alloc] at hbw; clear hb2 HF) | (go_at_call 31; refine (Hid.out HD _ (Hid.out HU)).mono ?_; rintro e w2 ⟨rfl, hn2, hf2⟩; (have bx := HZ.out.keep hf2 (by omega); have b2 := HY.out.keep hf2 (by omega); obtain ⟨c0, c1, c2, c3, c4, c5, c6, c7⟩ := bx.cells; obtain ⟨z0, z1, z2, z3, z4, z5, z6, z7⟩ := bx.frozs; dsimp only [it0] at c0 c1 c2 c3 c4 c5 c6 c7; obtain ⟨k0, k1, k2, k3, k4, k5, k6, k7⟩ := b2.cells; have HX : Hid _ := bx.set8 x; have HR : Hid _ := fre8 ((Fr.of_below (S := fun k => k = B) HU.out).then hf2) (.inr (Nat.le_refl _)) x; have HN : Hid _ := hn2.keep (S := fun k => k = w.heap.size) (fre8 (B := w.heap.size) (Fr.refl (fun k => k = w.heap.size) w2) (.inl rfl) x) (by omega); clear bx b2 hn2 hf2 HD)))
    obtain ⟨W9, hW⟩ : ∃ W9, W9 = se8 w2 w.heap.size x := ⟨_, rfl⟩
    rw [← hW] at HX HR HN
    simp only [se8] at hW
    rw [← hW]
    obtain ⟨c0, c1, c2, c3, c4, c5, c6, c7⟩ := HX.out.cells
    exact bodyPost_ret (v := .tuple #[iv x, .bool true]) (by simp [results, Try.results14, go_sem, c0, c1, c2, c3, c4, c5, c6, c7]) rfl ⟨rfl, HN.out, HR.out⟩
end Go.Proofs.Ytkngokpildoljaa
