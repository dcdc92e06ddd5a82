/- Decode tells the same as the document's own: the key whose code the bytes are, or none. -/
import Derived.Test.YtdnhlabdpciclabDec2
import Derived.Lib.Strings
namespace Go.Proofs.Ytdnhlabdpciclab
open Go.RowKit
set_option linter.unusedVariables false

def p1 (s : ByteArray) : List UInt8 := (s.data.toList.take 8)
def p2 (s : ByteArray) : List UInt8 := ((s.data.toList.drop 8).take 2)
def p3 (s : ByteArray) : List UInt8 := (s.data.toList.drop 10)
def okS (s : ByteArray) : Bool := decide (s.size = 16) && vldB (val (p1 s))
def decT (s : ByteArray) : Int := if okS s = true then val (p1 s) else 0
def decF (s : ByteArray) : Int := if okS s = true then val (p2 s) else 0
def decS (s : ByteArray) : Int := if okS s = true then val (p3 s) else 0
def decE (s : ByteArray) : Int := if okS s = true then 0 else 20

theorem list_len (s : ByteArray) : s.data.toList.length = s.size := by rw [Array.length_toList]; rfl
theorem p1_len {s : ByteArray} (h : s.size = 16) : (p1 s).length = 8 := by unfold p1; have := list_len s; rw [List.length_take]; omega
theorem p2_len {s : ByteArray} (h : s.size = 16) : (p2 s).length = 2 := by unfold p2; have := list_len s; rw [List.length_take, List.length_drop]; omega
theorem p3_len {s : ByteArray} (h : s.size = 16) : (p3 s).length = 6 := by unfold p3; have := list_len s; rw [List.length_drop]; omega
theorem p1_lt {s : ByteArray} (h : s.size = 16) : val (p1 s) < 18446744073709551616 := by have := val_lt (p1 s); rw [p1_len h] at this; omega
theorem p2_lt {s : ByteArray} (h : s.size = 16) : val (p2 s) ≤ 65535 := by have := val_lt (p2 s); rw [p2_len h] at this; omega
theorem p3_lt {s : ByteArray} (h : s.size = 16) : val (p3 s) ≤ 281474976710655 := by have := val_lt (p3 s); rw [p3_len h] at this; omega

theorem e1 {s : ByteArray} (h : s.size = 16) : (s.extract 0 8).data.toList = p1 s := by
  rw [Lib.extract_data]; simp [p1]
theorem e2 {s : ByteArray} (h : s.size = 16) : (s.extract 8 10).data.toList = p2 s := by
  rw [Lib.extract_data]; simp [p2]
theorem e3 {s : ByteArray} (h : s.size = 16) : (s.extract 10 16).data.toList = p3 s := by
  rw [Lib.extract_data]; have := list_len s; rw [p3, List.take_of_length_le (by rw [List.length_drop]; omega)]

theorem z1 {s : ByteArray} (h : s.size = 16) : (s.extract 0 8).size = 8 := by rw [← list_len, e1 h, p1_len h]
theorem z2 {s : ByteArray} (h : s.size = 16) : (s.extract 8 10).size = 2 := by rw [← list_len, e2 h, p2_len h]
theorem z3 {s : ByteArray} (h : s.size = 16) : (s.extract 10 16).size = 6 := by rw [← list_len, e3 h, p3_len h]

theorem join_parts {s : ByteArray} (h : s.size = 16) : s.data.toList = p1 s ++ (p2 s ++ p3 s) := by
  unfold p1 p2 p3
  conv => lhs; rw [← List.take_append_drop 8 s.data.toList]
  congr 1
  conv => lhs; rw [← List.take_append_drop 2 (s.data.toList.drop 8)]
  rw [List.drop_drop]

theorem code_parts {s : ByteArray} (h : s.size = 16) : code (val (p1 s)) (val (p2 s)) (val (p3 s)) = s.data.toList := by
  unfold code
  have a := be_val (p1 s); rw [p1_len h] at a
  have b := be_val (p2 s); rw [p2_len h] at b
  have c := be_val (p3 s); rw [p3_len h] at c
  rw [a, b, c, ← join_parts h]

theorem cdB_of {n : Int} {x y : Nat} (hx : x ≤ 65535) (hy : y ≤ 281474976710655) : cdB n x y = vldB n := by
  unfold cdB
  rw [show wthB (x : Int) 65535 = true from decide_eq_true (by omega), show wthB (y : Int) 281474976710655 = true from decide_eq_true (by omega)]
  simp

theorem vld_wrap {v : Nat} (h : v < 18446744073709551616) : vldB (wrap64 v) = vldB v := by
  unfold vldB wrap64; apply decide_eq_decide.2; omega
theorem vld_small {n : Int} (h : vldB n = true) : 0 ≤ n ∧ n ≤ 1125899906842624 := by
  have := of_decide_eq_true h; omega

theorem decode_any (s : ByteArray) (w : World) (hm : s.size ≤ maxLen) :
    Calls Try.prog 5 #[.string s] w fun e w' => e = .returned (.tuple #[.agg #[.int .i64 (decT s), .int .i64 (decF s), .int .i64 (decS s)], .int .i64 (decE s)]) ∧ Below w.heap.size w w' := by
  by_cases hs : s.size = 16
  · have K1 : Hid (∀ w, Calls Try.prog 12 #[.string (s.extract 0 8)] w fun e w' => e = .returned (.int .i64 (wrap64 (val (p1 s)))) ∧ w' = w) := by
      intro w; rw [← e1 hs]; exact read_any _ w (by rw [z1 hs]; omega)
    have K2 : Hid (∀ w, Calls Try.prog 12 #[.string (s.extract 8 10)] w fun e w' => e = .returned (.int .i64 (val (p2 s))) ∧ w' = w) := by
      intro w
      have := read_any (s.extract 8 10) w (by rw [z2 hs]; omega)
      rw [e2 hs, wrap64_id (by omega) (by have := p2_lt hs; omega)] at this; exact this
    have K3 : Hid (∀ w, Calls Try.prog 12 #[.string (s.extract 10 16)] w fun e w' => e = .returned (.int .i64 (val (p3 s))) ∧ w' = w) := by
      intro w
      have := read_any (s.extract 10 16) w (by rw [z3 hs]; omega)
      rw [e3 hs, wrap64_id (by omega) (by have := p3_lt hs; omega)] at this; exact this
    have hc : cdB (wrap64 (val (p1 s))) (val (p2 s)) (val (p3 s)) = vldB (val (p1 s)) := by
      rw [cdB_of (p2_lt hs) (p3_lt hs), vld_wrap (p1_lt hs)]
    rcases hv : vldB (val (p1 s)) with _ | _
    · have ho : ¬ okS s = true := by simp [okS, hv]
      rw [decT, decF, decS, decE, if_neg ho, if_neg ho, if_neg ho, if_neg ho]
      exact decode_no s w (by omega) _ _ _ (hc.trans hv) K1 K2 K3
    · have ho : okS s = true := by simp [okS, hv, hs]
      have hb := vld_small hv
      rw [decT, decF, decS, decE, if_pos ho, if_pos ho, if_pos ho, if_pos ho]
      have hw : wrap64 (val (p1 s)) = val (p1 s) := wrap64_id (by omega) (by omega)
      rw [hw] at K1 hc
      exact decode_yes s w (by omega) _ _ _ (hc.trans hv) K1 K2 K3
  · have ho : ¬ okS s = true := by simp [okS, hs]
    rw [decT, decF, decS, decE, if_neg ho, if_neg ho, if_neg ho, if_neg ho]
    exact decode_short s w hs hm

theorem num_small (l : List UInt8) (h : val l ≤ 4503599627370496) : numTo l l.length = val l := by
  rcases numTo_val l l.length (Nat.le_refl _) with g | ⟨_, g⟩
  · rw [List.take_length] at g; exact g
  · rw [List.take_length] at g; omega
theorem num_vld (l : List UInt8) : vldB (numTo l l.length) = vldB (val l) := by
  rcases numTo_val l l.length (Nat.le_refl _) with g | ⟨g1, g2⟩
  · rw [List.take_length] at g; rw [g]
  · rw [List.take_length] at g2
    rw [show vldB (numTo l l.length) = false from decide_eq_false (by omega), show vldB (val l) = false from decide_eq_false (by omega)]

theorem refdecode_any (s : ByteArray) (w : World) (hm : s.size ≤ maxLen) :
    Calls Try.prog 6 #[.string s] w fun e w' => e = .returned (.tuple #[.agg #[.int .i64 (decT s), .int .i64 (decF s), .int .i64 (decS s)], .int .i64 (decE s)]) ∧ Below w.heap.size w w' := by
  by_cases hs : s.size = 16
  · have K1 : Hid (∀ w, Calls Try.prog 14 #[.string (s.extract 0 8)] w fun e w' => e = .returned (.int .i64 (numTo (p1 s) (p1 s).length)) ∧ w' = w) := by
      intro w
      have := number_any (s.extract 0 8) w (by rw [z1 hs]; omega)
      rw [← list_len, e1 hs] at this; exact this
    have K2 : Hid (∀ w, Calls Try.prog 14 #[.string (s.extract 8 10)] w fun e w' => e = .returned (.int .i64 (val (p2 s))) ∧ w' = w) := by
      intro w
      have := number_any (s.extract 8 10) w (by rw [z2 hs]; omega)
      rw [← list_len, e2 hs, num_small _ (by have := p2_lt hs; omega)] at this; exact this
    have K3 : Hid (∀ w, Calls Try.prog 14 #[.string (s.extract 10 16)] w fun e w' => e = .returned (.int .i64 (val (p3 s))) ∧ w' = w) := by
      intro w
      have := number_any (s.extract 10 16) w (by rw [z3 hs]; omega)
      rw [← list_len, e3 hs, num_small _ (by have := p3_lt hs; omega)] at this; exact this
    have hc : cdB (numTo (p1 s) (p1 s).length) (val (p2 s)) (val (p3 s)) = vldB (val (p1 s)) := by
      rw [cdB_of (p2_lt hs) (p3_lt hs), num_vld]
    rcases hv : vldB (val (p1 s)) with _ | _
    · have ho : ¬ okS s = true := by simp [okS, hv]
      rw [decT, decF, decS, decE, if_neg ho, if_neg ho, if_neg ho, if_neg ho]
      exact refdecode_no s w (by omega) _ _ _ (by unfold codeE; rw [hc, hv]; rfl) K1 K2 K3
    · have ho : okS s = true := by simp [okS, hv, hs]
      have hb := vld_small hv
      rw [decT, decF, decS, decE, if_pos ho, if_pos ho, if_pos ho, if_pos ho]
      have hw : numTo (p1 s) (p1 s).length = val (p1 s) := num_small _ (by omega)
      rw [hw] at K1 hc
      refine refdecode_yes s w (by omega) _ _ _ (by unfold codeE; rw [hc, hv]; rfl) ?_ K1 K2 K3
      unfold codeS
      rw [hc, hv, if_pos rfl, ByteArray.toList_mk]
      simp only [Int.toNat_natCast]
      rw [code_parts hs, ByteArray.toList_eq]
      simp
  · have ho : ¬ okS s = true := by simp [okS, hs]
    rw [decT, decF, decS, decE, if_neg ho, if_neg ho, if_neg ho, if_neg ho]
    exact refdecode_short s w hs hm
end Go.Proofs.Ytdnhlabdpciclab
