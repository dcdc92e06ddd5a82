/- Proved: the contract of handOn, by a method of the pile that is handed on: all messages are put, one behind the other. -/
import Derived.Test.YtmfcbalhabcodaaGreatHPut
namespace Go.Proofs.YtmfcbalhabcodaaGreat
open Go.RowKit Go.Shelf
set_option linter.unusedVariables false

/-- The messages l can be read at a, in a block that is none of F's. -/
def RdX (F : Nat → Prop) (w : World) (a : Option Addr) (l : List M) : Prop :=
  l ≠ [] → ∃ b off, a = some ⟨b, off, none⟩ ∧ b < w.heap.size ∧ ¬ F b ∧ ∀ i, i < l.length → ∀ c, c < 6 → w.cell? ⟨b, off + i * 6 + c, none⟩ = (encM (nthM l i))[c]?
theorem RdX.rd {F : Nat → Prop} {w W : World} {a : Option Addr} {l : List M} (h : RdX F w a l) (hf : Fr F w W) : RdM W a l := fun g => by
  obtain ⟨b, off, rfl, hB, hF, hc⟩ := h g
  exact ⟨b, off, rfl, Nat.lt_of_lt_of_le hB hf.size, fun i hi c hc6 => (hf.cell (p := ⟨b, off + i * 6 + c, none⟩) hB hF).trans (hc i hi c hc6)⟩
theorem putL_snoc (wt l : List M) (x : M) : putL wt (l ++ [x]) = put1 x (putL wt l) := by simp [putL]
theorem take_snoc (l : List M) {i : Nat} (h : i < l.length) : l.take (i + 1) = l.take i ++ [nthM l i] := by
  rw [List.take_succ_eq_append_getElem h]
  simp [nthM, h]

set_option maxRecDepth 100000 in
set_option maxHeartbeats 1000000 in
theorem handOn_any {w : World} {pb : Nat} {v : Value} {wt : List M} (h : Pil w pb v wt) (a : Option Addr) (c : Nat) (l : List M) (hr : RdX (H.FP pb v) w a l) (hl : wt.length + l.length ≤ 20000) :
    Calls Tryz.prog 27 #[.slice a l.length c, .func (.func 29) #[.pointer (some ⟨pb, 0, none⟩)] #[]] w fun e w' => e = .returned (.tuple #[]) ∧ ∃ v', Pil w' pb v' (putL wt l) ∧ Fr (H.FP pb v) w w' ∧ (∀ k, H.FP pb v' k → H.FP pb v k ∨ w.heap.size ≤ k) := by
  have HR : Hid _ := hr
  have HP : Hid _ := h
  have eg : ∀ args w, (callFunc 29 args).run Tryz.prog w = .ok (.enter 29 args) w := enters_of Tryz.func29 (by kernel_rfl) rfl
  have hl0 : l.length ≤ 20000 := by omega
  clear h hr
  go_enter Tryz.func27, Tryz.ntmps27
  go_wp2_with fail
  go_loopw [8] (fun s8 wr => ∃ (i : Nat) (v' : Value), i ≤ l.length ∧ s8 = .int .i64 i ∧ Pil wr pb v' (putL wt (l.take i)) ∧ Fr (H.FP pb v) w wr ∧ (∀ k, H.FP pb v' k → H.FP pb v k ∨ w.heap.size ≤ k)) (fun s8 _ => l.length - (intOf s8).toNat)
  case atStart => exact ⟨0, v, Nat.zero_le _, rfl, HP.out, Fr.refl _ _, fun k hk => .inl hk⟩
  case round =>
    obtain ⟨i, v', hi, rfl, hp, hf, hs⟩ := hrel
    by_cases hil : i < l.length
    · have hi' : (i : Int) < (l.length : Int) := by omega
      obtain ⟨x, hx⟩ : ∃ x, nthM l i = x := ⟨_, rfl⟩
      obtain ⟨b, off, rfl, hB, x0, x1, x2, x3, x4, x5⟩ := (RdX.rd HR.out hf).cells hil hx
      have hb1 := al wr (.cells #[.int .i64 x.t, .int .i64 x.fr, .int .i64 x.sq, .int .i64 x.dst, .int .i64 x.cl, .int .i64 x.bd] 38)
      have P := put_any (hp.below hb1) x (by rw [putL_len, List.length_take]; omega)
      have HX : Hid _ := hx
      have HF : Hid _ := hf
      have HS : Hid _ := hs
      have HB : Hid _ := hb1
      obtain ⟨t, fr, sq, dst, cl, bd⟩ := x
      dsimp only [mv] at P x0 x1 x2 x3 x4 x5
      clear hx hf hs hp hb1
      go_wp2_with (go_at_call 29; refine P.mono ?_; rintro e w1 ⟨rfl, v2, hp2, hf2, hs2⟩; have HP2 : Hid _ := hp2; have HF2 : Hid _ := hf2; have HS2 : Hid _ := hs2; clear hp2 hf2 hs2)
      go_roundw
      case rel =>
        refine ⟨i + 1, v2, by omega, by go_num, ?_, ?_, ?_⟩
        · rw [take_snoc l hil, putL_snoc, HX.out]
          exact HP2.out
        · exact ((HF.out).then (Fr.of_below HB.out)).trans HF2.out (fun k hk hk2 => (HS.out k hk2).elim id (fun g => by omega))
        · intro k hk
          have s1 := (HF.out).size
          have s2 := (HB.out).size
          rcases HS2.out k hk with g | g
          · exact HS.out k g
          · exact .inr (by omega)
      case measure => simp [intOf]; omega
    · obtain rfl : i = l.length := by omega
      rw [List.take_of_length_le (Nat.le_refl _)] at hp
      go_wp2_with fail
      go_end0
      exact ⟨rfl, v', hp, hf, hs⟩
end Go.Proofs.YtmfcbalhabcodaaGreat
