/- Proved: contracts of a net's Send, and of New. -/
import Derived.Test.YtkngokpildoljaaNe1
namespace Go.Proofs.Ytkngokpildoljaa
open Go.RowKit Go.Shelf
set_option linter.unusedVariables false

set_option maxRecDepth 100000 in
set_option maxHeartbeats 1000000 in
theorem send_any {n room : Nat} {L : Ln} {B : Nat} {w : World} (h : Nt n room L B w) (a b : Int) (x : It) :
    Calls Try.prog 10 #[.pointer (some ⟨B, 0, none⟩), .int .i64 a, .int .i64 b, iv x] w fun e w' => e = .returned (.int .i64 (sndE n room L a b x)) ∧ Nt n room (sndL n room L a b x) B w' ∧ Fr (fun k => k = B) w w' := by
  have I : ∀ W, Below w.heap.size w W → Calls Try.prog 26 #[.pointer (some ⟨B, 0, none⟩), .int .i64 a, .int .i64 b] W fun e w' => e = .returned (.bool (isL n a b)) ∧ W = w' := fun W hb => islink_any W B n a b (h.below hb).see.1
  have T : ∀ W, Calls Try.prog 27 #[iv x] W fun e w' => e = .returned (.bool (okI x)) ∧ Below W.heap.size W w' := fun W => isitem_any W x
  have R : ∀ W, Below w.heap.size w W → Calls Try.prog 18 #[.pointer (some ⟨B, 0, none⟩), .int .i64 a, .int .i64 b] W fun e w' => e = .returned (.int .i64 (roomN n room L a b)) ∧ Below W.heap.size W w' := fun W hb => room_any (h.below hb) a b
  have hb := h.lt
  have HBX : Hid _ := BoxT.new w x
  have HN : Hid (Nt n room L B w) := h
  unfold sndL sndE
  cases hx : isL n a b
  · rw [if_neg (by simp), if_neg (by omega)]
    rw [hx] at I
    have HI : Hid _ := I
    clear I T R h hx
    go_enter Try.func10, Try.ntmps10
    go_wp2_with (go_at_call 26; refine (Hid.out HI _ (al _ _)).mono ?_; rintro e w' ⟨rfl, rfl⟩; clear HI)
    go_ret
    exact ⟨rfl, HN.out.below (al _ _), Fr.of_below (al _ _)⟩
  · rw [hx] at I
    cases hy : okI x
    · rw [if_neg (by simp), if_neg (by omega)]
      rw [hy] at T
      have HI : Hid _ := I
      have HT : Hid _ := T
      obtain ⟨c0, c1, c2, c3, c4, c5, c6, c7⟩ := HBX.out.cells
      clear I T R h hx hy
      go_enter Try.func10, Try.ntmps10
      go_wp2_with (first | (go_at_call 26; refine (Hid.out HI _ (al _ _)).mono ?_; rintro e w' ⟨rfl, rfl⟩; clear HI) | (go_at_call 27; refine (Hid.out HT _).mono ?_; rintro e w' ⟨rfl, hb2⟩; have HB2 : Hid _ := Below.on (al w _) hb2; clear HT hb2))
      go_ret
      exact ⟨rfl, HN.out.below HB2.out, Fr.of_below HB2.out⟩
    · rw [hy] at T
      obtain ⟨⟨h1, h2⟩, ⟨h3, h4⟩, _⟩ := (isL_iff n a b).1 hx
      have h8 := h.ok.n8
      have h16 := h.ok.r16
      have hln := h.ok.len a b
      obtain ⟨k, rfl⟩ := Int.eq_ofNat_of_zero_le h1
      obtain ⟨m, rfl⟩ := Int.eq_ofNat_of_zero_le h3
      have hk : (k : Int) < 8 := by omega
      have hm : (m : Int) < 8 := by omega
      have hrm : roomN n room L k m = (room : Int) - ((L k m).length : Int) := by unfold roomN; rw [if_pos hx]
      by_cases hf : (L k m).length = room
      · rw [if_pos ⟨rfl, rfl⟩, if_pos hf, if_neg (by omega)]
        have hr0 : roomN n room L k m = 0 := by rw [hrm, hf]; omega
        rw [hr0] at R
        have HI : Hid _ := I
        have HT : Hid _ := T
        have HR : Hid _ := R
        obtain ⟨c0, c1, c2, c3, c4, c5, c6, c7⟩ := HBX.out.cells
        clear I T R h hx hy hrm hr0 hf hln
        go_enter Try.func10, Try.ntmps10
        go_wp2_with (first | (go_at_call 26; refine (Hid.out HI _ (al _ _)).mono ?_; rintro e w' ⟨rfl, rfl⟩; clear HI) | (go_at_call 27; refine (Hid.out HT _).mono ?_; rintro e w' ⟨rfl, hb2⟩; have HB2 : Hid _ := Below.on (al w _) hb2; clear HT hb2) | (go_at_call 18; refine (Hid.out HR _ (Hid.out HB2)).mono ?_; rintro e w3 ⟨rfl, hb3⟩; have HB3 : Hid _ := Below.on HB2.out hb3; clear HR hb3))
        go_ret
        exact ⟨rfl, HN.out.below HB3.out, Fr.of_below HB3.out⟩
      · rw [if_pos ⟨rfl, rfl⟩, if_neg hf, if_pos rfl]
        obtain ⟨r, hr⟩ : ∃ r, roomN n room L k m = r := ⟨_, rfl⟩
        have hr1 : (r == 0) = false := by simp; omega
        simp only [hr] at R
        have D : ∀ W, Below w.heap.size w W → Calls Try.prog 28 #[.pointer (some ⟨B, 2 + k * 1040 + m * 130, none⟩), iv x] W fun e w' => e = .returned (.tuple #[]) ∧ Nt n room (updL L k m (L k m ++ [x])) B w' ∧ Fr (fun k => k = B) W w' := fun W hW => by
          obtain ⟨f, hf⟩ := h.below hW
          obtain ⟨st, hst⟩ := hf.rg k m (by omega) (by omega)
          refine (put_any W B _ st _ f hf.blk (by omega) x hst.s1 (by omega) hst.s2 hst.s3).mono ?_
          rintro e w' ⟨rfl, hB, hF⟩
          have h4 := hf.ok.len k m
          have hs := hst.s1
          refine ⟨rfl, hf.ring (by omega) (by omega) hx (by simp; omega) hB (fun i hi => ?_) ⟨_, hst.put (by omega) x⟩, hF⟩
          rw [upF_out _ _ _ _ (by omega), put8_out _ _ _ _ (by omega)]
        have HI : Hid _ := I
        have HT : Hid _ := T
        have HR : Hid _ := R
        have HD : Hid _ := D
        obtain ⟨c0, c1, c2, c3, c4, c5, c6, c7⟩ := HBX.out.cells
        clear I T R h hx hy hrm hr hf hln D
        go_enter Try.func10, Try.ntmps10
        go_wp2_with (first | (go_at_call 26; refine (Hid.out HI _ (al _ _)).mono ?_; rintro e w' ⟨rfl, rfl⟩; clear HI) | (go_at_call 27; refine (Hid.out HT _).mono ?_; rintro e w' ⟨rfl, hb2⟩; have HB2 : Hid _ := Below.on (al w _) hb2; have HX2 : Hid _ := HBX.out.below hb2; clear HT hb2) | (go_at_call 18; refine (Hid.out HR _ (Hid.out HB2)).mono ?_; rintro e w3 ⟨rfl, hb3⟩; have HB3 : Hid _ := Below.on HB2.out hb3; have bx := HX2.out.below hb3; obtain ⟨c0, c1, c2, c3, c4, c5, c6, c7⟩ := bx.cells; have HX3 : Hid _ := bx; clear HR hb3 bx))
        go_region_held3 (fun w' => w'.cell? ⟨w.heap.size, 0, none⟩ = some (.int .i64 x.k) ∧ w'.cell? ⟨w.heap.size, 1, none⟩ = some (.int .i64 x.t) ∧ w'.cell? ⟨w.heap.size, 2, none⟩ = some (.int .i64 x.fr) ∧ w'.cell? ⟨w.heap.size, 3, none⟩ = some (.int .i64 x.sq) ∧ w'.cell? ⟨w.heap.size, 4, none⟩ = some (.int .i64 x.dst) ∧ w'.cell? ⟨w.heap.size, 5, none⟩ = some (.int .i64 x.cl) ∧ w'.cell? ⟨w.heap.size, 6, none⟩ = some (.int .i64 x.bd) ∧ w'.cell? ⟨w.heap.size, 7, none⟩ = some (.int .i64 x.co)) (first | (go_keep; done) | exact Hid.out KEEP) (first | (go_at_call 28; refine (Hid.out HD _ (Hid.out HB3).drew).mono ?_; rintro e w4 ⟨rfl, hn4, hf4⟩; have KEEP : Hid _ := (HX3.out.drew.keep hf4 (by omega)).cells))
        have HN4 : Hid _ := hn4
        clear KEEP hn4
        go_wp2
        go_ret
        exact ⟨rfl, HN4.out, (Fr.of_below HB3.out.drew).then hf4⟩

/-! ### New -/
def allZ : List Value → Nat → Bool
  | [], 0 => true
  | .int .i64 v :: r, n + 1 => (v == 0) && allZ r n
  | _, _ => false
theorem allZ_get : ∀ (l : List Value) (n : Nat), allZ l n = true → l.length = n ∧ ∀ i, i < n → l[i]? = some (.int .i64 0)
  | [], 0, _ => ⟨rfl, fun i hi => by omega⟩
  | .int .i64 v :: r, n + 1, h => by
    rw [allZ, Bool.and_eq_true] at h
    obtain ⟨h1, h2⟩ := allZ_get r n h.2
    have hv : v = 0 := by simpa using h.1
    subst hv
    refine ⟨by simp [h1], fun i hi => ?_⟩
    cases i with
    | zero => rfl
    | succ i => simpa using h2 i (by omega)
set_option maxRecDepth 100000 in
theorem zero55 : (match Try.t55.zero with | some (.agg cs) => allZ cs.toList 8322 | _ => false) = true := by kernel_rfl
end Go.Proofs.Ytkngokpildoljaa
