/- Proved: contracts of a net's isFederate, isLink, isItem, Len, Room. -/
import Derived.Test.YtkngokpildoljaaDat
namespace Go.Proofs.Ytkngokpildoljaa
open Go.RowKit Go.Shelf
set_option linter.unusedVariables false

theorem isfed_any (w : World) (B n : Nat) (a : Int) (h0 : w.cell? ⟨B, 0, none⟩ = some (.int .i64 n)) :
    Calls Try.prog 35 #[.pointer (some ⟨B, 0, none⟩), .int .i64 a] w fun e w' => e = .returned (.bool (isF n a)) ∧ w = w' := by
  unfold isF
  by_cases h1 : 0 ≤ a
  · have d1 : decide (0 ≤ a) = true := by simpa using h1
    by_cases h2 : a < (n : Int)
    · have d2 : decide (a < (n : Int)) = true := by simpa using h2
      rw [d1, d2]
      go_enter Try.func35, Try.ntmps35
      go_wp2
      go_ret
      exact ⟨rfl, rfl⟩
    · have d2 : decide (a < (n : Int)) = false := by simpa using h2
      rw [d1, d2]
      go_enter Try.func35, Try.ntmps35
      go_wp2
      go_ret
      exact ⟨rfl, rfl⟩
  · have d1 : decide (0 ≤ a) = false := by simpa using h1
    rw [d1]
    go_enter Try.func35, Try.ntmps35
    go_wp2
    go_ret
    exact ⟨rfl, rfl⟩
theorem islink_any (w : World) (B n : Nat) (a b : Int) (h0 : w.cell? ⟨B, 0, none⟩ = some (.int .i64 n)) :
    Calls Try.prog 26 #[.pointer (some ⟨B, 0, none⟩), .int .i64 a, .int .i64 b] w fun e w' => e = .returned (.bool (isL n a b)) ∧ w = w' := by
  have A : ∀ c, Calls Try.prog 35 #[.pointer (some ⟨B, 0, none⟩), .int .i64 c] w fun e w' => e = .returned (.bool (isF n c)) ∧ w = w' := fun c => isfed_any w B n c h0
  have HA : Hid _ := A
  clear A
  unfold isL
  cases hx : isF n a
  · go_enter Try.func26, Try.ntmps26
    go_wp2_with (go_at_call 35; refine (Hid.out HA _).mono ?_; rintro e w' ⟨rfl, rfl⟩)
    go_ret
    exact ⟨rfl, rfl⟩
  · cases hy : isF n b
    · go_enter Try.func26, Try.ntmps26
      go_wp2_with (go_at_call 35; refine (Hid.out HA _).mono ?_; rintro e w' ⟨rfl, rfl⟩)
      go_ret
      exact ⟨rfl, rfl⟩
    · by_cases h : a = b
      · have d : (a != b) = false := by simpa using h
        have d' : (a == b) = true := by simpa using h
        have e' : isF n b = true := hy
        go_enter Try.func26, Try.ntmps26
        go_wp2_with (go_at_call 35; refine (Hid.out HA _).mono ?_; rintro e w' ⟨rfl, rfl⟩)
        go_ret
        exact ⟨by rw [d]; rfl, rfl⟩
      · have d : (a != b) = true := by simpa using h
        have d' : (a == b) = false := by simpa using h
        go_enter Try.func26, Try.ntmps26
        go_wp2_with (go_at_call 35; refine (Hid.out HA _).mono ?_; rintro e w' ⟨rfl, rfl⟩)
        go_ret
        exact ⟨by rw [d]; rfl, rfl⟩
set_option maxRecDepth 100000 in
theorem isitem_any (w : World) (x : It) :
    Calls Try.prog 27 #[iv x] w fun e w' => e = .returned (.bool (okI x)) ∧ Below w.heap.size w w' := by
  obtain ⟨k, t, fr, sq, dst, cl, bd, co⟩ := x
  unfold okI
  dsimp only
  by_cases h1 : 0 ≤ k
  · have d1 : decide (0 ≤ k) = true := by simpa using h1
    by_cases h2 : k ≤ 2
    · have d2 : decide (k ≤ 2) = true := by simpa using h2
      by_cases h3 : co = 0
      · have d3 : (co == 0) = true := by simpa using h3
        rw [d1, d2, d3]
        go_enter Try.func27, Try.ntmps27
        go_wp2
        go_ret
        exact ⟨rfl, al w _⟩
      · have d3 : (co == 0) = false := by simpa using h3
        by_cases h4 : co = 1
        · have d4 : (co == 1) = true := by simpa using h4
          rw [d1, d2, d3, d4]
          go_enter Try.func27, Try.ntmps27
          go_wp2
          go_ret
          exact ⟨rfl, al w _⟩
        · have d4 : (co == 1) = false := by simpa using h4
          rw [d1, d2, d3, d4]
          go_enter Try.func27, Try.ntmps27
          go_wp2
          go_ret
          exact ⟨rfl, al w _⟩
    · have d2 : decide (k ≤ 2) = false := by simpa using h2
      rw [d1, d2]
      go_enter Try.func27, Try.ntmps27
      go_wp2
      go_ret
      exact ⟨rfl, al w _⟩
  · have d1 : decide (0 ≤ k) = false := by simpa using h1
    rw [d1]
    go_enter Try.func27, Try.ntmps27
    go_wp2
    go_ret
    exact ⟨rfl, al w _⟩
/-- What a link's ring tells. -/
theorem Nt.see {n room : Nat} {L : Ln} {B : Nat} {w : World} (h : Nt n room L B w) : w.cell? ⟨B, 0, none⟩ = some (.int .i64 n) ∧ w.cell? ⟨B, 1, none⟩ = some (.int .i64 room) := by
  obtain ⟨f, h⟩ := h
  exact ⟨h.blk.at (by omega) h.f0, h.blk.at (by omega) h.f1⟩
theorem len_any {n room : Nat} {L : Ln} {B : Nat} {w : World} (h : Nt n room L B w) (a b : Int) :
    Calls Try.prog 16 #[.pointer (some ⟨B, 0, none⟩), .int .i64 a, .int .i64 b] w fun e w' => e = .returned (.int .i64 (L a b).length) ∧ w = w' := by
  have I := islink_any w B n a b h.see.1
  obtain ⟨x, hx⟩ : ∃ x, isL n a b = x := ⟨_, rfl⟩
  rw [hx] at I
  cases x
  · rw [h.ok.no a b hx]
    clear hx h
    go_enter Try.func16, Try.ntmps16
    go_wp2_with (go_at_call 26; refine I.mono ?_; rintro e w' ⟨rfl, rfl⟩; clear I)
    go_ret
    exact ⟨rfl, rfl⟩
  · obtain ⟨⟨h1, h2⟩, ⟨h3, h4⟩, _⟩ := (isL_iff n a b).1 hx
    have h8 := h.ok.n8
    obtain ⟨k, rfl⟩ := Int.eq_ofNat_of_zero_le h1
    obtain ⟨m, rfl⟩ := Int.eq_ofNat_of_zero_le h3
    have hk : (k : Int) < 8 := by omega
    have hm : (m : Int) < 8 := by omega
    obtain ⟨f, hf⟩ := h
    obtain ⟨st, hst⟩ := hf.rg k m (by omega) (by omega)
    have c := hf.blk.at (by omega) hst.s3
    obtain ⟨l, hl⟩ : ∃ l, (L k m).length = l := ⟨_, rfl⟩
    rw [hl] at c ⊢
    clear hf hst hl hx
    go_enter Try.func16, Try.ntmps16
    go_wp2_with (go_at_call 26; refine I.mono ?_; rintro e w' ⟨rfl, rfl⟩; clear I)
    go_ret
    exact ⟨rfl, rfl⟩
theorem room_any {n room : Nat} {L : Ln} {B : Nat} {w : World} (h : Nt n room L B w) (a b : Int) :
    Calls Try.prog 18 #[.pointer (some ⟨B, 0, none⟩), .int .i64 a, .int .i64 b] w fun e w' => e = .returned (.int .i64 (roomN n room L a b)) ∧ Below w.heap.size w w' := by
  have I := islink_any w B n a b h.see.1
  have LE : ∀ W, Below w.heap.size w W → _ := fun W hb => len_any (h.below hb) a b
  have c1 := h.see.2
  have h16 := h.ok.r16
  have hle := h.ok.len a b
  have hb := h.lt
  unfold roomN
  obtain ⟨x, hx⟩ : ∃ x, isL n a b = x := ⟨_, rfl⟩
  rw [hx] at I ⊢
  obtain ⟨l, hl⟩ : ∃ l, (L a b).length = l := ⟨_, rfl⟩
  simp only [hl] at LE hle ⊢
  have HL : Hid _ := LE
  clear hx hl h LE
  cases x
  · rw [if_neg (by simp)]
    go_enter Try.func18, Try.ntmps18
    go_wp2_with (go_at_call 26; refine I.mono ?_; rintro e w' ⟨rfl, rfl⟩; clear I)
    go_ret
    exact ⟨rfl, Below.refl _ _⟩
  · rw [if_pos rfl]
    have e1 : IntKind.i64.wrap ((room : Int) - (l : Int)) = (room : Int) - (l : Int) := by rw [IntKind.wrap_i64]; omega
    go_enter Try.func18, Try.ntmps18
    go_wp2_with (go_at_call 26; refine I.mono ?_; rintro e w' ⟨rfl, rfl⟩; clear I)
    go_region_held3 (fun w' => w'.cell? ⟨B, 1, none⟩ = some (.int .i64 room)) (go_keep) (first | (go_at_call 16; refine (Hid.out HL _ ((Below.refl _ _).drew)).mono ?_; rintro e w' ⟨rfl, rfl⟩))
    go_wp2
    go_ret
    exact ⟨rfl, (Below.refl _ _).drew⟩
end Go.Proofs.Ytkngokpildoljaa
