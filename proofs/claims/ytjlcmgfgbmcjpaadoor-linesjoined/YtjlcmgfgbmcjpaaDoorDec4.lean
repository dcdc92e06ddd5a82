/- Proved: what lines.Decode tells of any text: its rows, or the number of the first line that is wrong and ErrForm. -/
import Derived.Test.YtjlcmgfgbmcjpaaDoorDec3
import Derived.Test.YtjlcmgfgbmcjpaaDoorAs
namespace Go.Proofs.YtjlcmgfgbmcjpaaDoor
open Go.RowKit
set_option linter.unusedVariables false

/-- What Decode tells. -/
def DecTells (s : ByteArray) (w : World) (e : Ending) (w' : World) : Prop :=
  Below w.heap.size w w' ∧ ((∃ n : Nat, dec 1 [] [] s.data.toList = .error n ∧ e = .returned (.tuple #[.slice none 0 0, .int .i64 n, .int .i64 20])) ∨
    ∃ (a : Option Addr) (cap : Nat) (RS : List (List ByteArray)), e = .returned (.tuple #[.slice a RS.length cap, .int .i64 0, .int .i64 0]) ∧ IsRows w'.heap.size w' (.slice a RS.length cap) RS ∧ dec 1 [] [] s.data.toList = .ok (lettersR RS))

theorem ErrTypeAt.lt {w : World} (h : ErrTypeAt w) : 0 < w.heap.size := by
  rcases Nat.lt_or_ge 0 w.heap.size with h' | h'
  · exact h'
  · rw [ErrTypeAt, World.cell?, Array.getElem?_eq_none (by simpa using h')] at h; cases h
theorem ErrTypeAt.keep {B : Nat} {w w' : World} (h : ErrTypeAt w) (hB : 0 < B) (hb : Below B w w') : ErrTypeAt w' := (hb.cell (p := ⟨0, 0, none⟩) hB).trans h

set_option maxRecDepth 100000 in
set_option maxHeartbeats 1000000 in
theorem decode_any (s : ByteArray) (w : World) (hs : s.size ≤ 1073741824) (hm : MaxAt w) (hg : ErrTypeAt w) : Calls Tryd.prog 12 #[.string s] w (DecTells s w) := by
  have h28 := readRows_any s w hs hm
  have hlt := hg.lt
  have hcall : Calls Tryd.prog 28 #[.string s] w fun e w' => RowsTell s w e w' := h28
  cases hd : dec 1 [] [] s.data.toList with
  | error n =>
    have h28' : Calls Tryd.prog 28 #[.string s] w fun e w' => e = .returned (.tuple #[.slice none 0 0, .iface 68 (.agg #[.int .i64 n, .iface 24 (.int .i64 20)])]) ∧ Below w.heap.size w w' := by
      refine h28.mono ?_
      rintro e w' ⟨hb, ⟨m, _, he, rfl⟩ | ⟨a, cap, RS, _, _, he⟩⟩
      · rw [hd] at he
        cases he
        exact ⟨rfl, hb⟩
      · rw [hd] at he; cases he
    have HD := hide hd
    clear hd hcall h28
    go_enter Tryd.func12, Tryd.ntmps12
    go_wp2_with (first | (go_at_call 28; refine h28'.mono ?_; rintro e w1 ⟨rfl, hb1⟩; have hg1 := hg.keep hlt hb1; have HB1 := hide hb1; clear hb1) | (go_at_call 29; refine (is_line _ _).mono ?_; rintro e w2 ⟨rfl, hb2⟩; have hg2 := hg1.keep hg1.lt hb2; have HB2 := hide hb2; clear hb2) | (go_at_call 30; refine (numberOf_line _ _ hg2 hg2.lt).mono ?_; rintro e w3 ⟨rfl, hb3⟩; have HB3 := hide hb3; clear hb3))
    refine bodyPost_ret (v := .tuple #[.slice none 0 0, .int .i64 n, .int .i64 20]) (by simp [results, Tryd.results12, go_sem]) rfl ⟨?_, .inl ⟨n, HD.out, rfl⟩⟩
    have e2 := HB2.out.mono HB1.out.size
    have e3 := HB3.out.mono (Nat.le_trans HB1.out.size HB2.out.size)
    exact (HB1.out.trans e2).trans e3
  | ok rows =>
    have h28' : Calls Tryd.prog 28 #[.string s] w fun e w' => ∃ a cap, ∃ RS : List (List ByteArray), e = .returned (.tuple #[.slice a RS.length cap, .nilIface]) ∧ Below w.heap.size w w' ∧ IsRows w'.heap.size w' (.slice a RS.length cap) RS ∧ rows = lettersR RS := by
      refine h28.mono ?_
      rintro e w' ⟨hb, ⟨m, _, he, rfl⟩ | ⟨a, cap, RS, rfl, ho, he⟩⟩
      · rw [hd] at he; cases he
      · rw [hd] at he
        cases he
        exact ⟨a, cap, RS, rfl, hb, ho.rows, rfl⟩
    have HD := hide hd
    clear hd hcall h28
    go_enter Tryd.func12, Tryd.ntmps12
    go_wp2_with (first | (go_at_call 28; refine h28'.mono ?_; rintro e w1 ⟨a, cap, RS, rfl, hb1, ho1, hr1⟩; have HB1 := hide hb1; have HO := hide ho1; have HR := hide hr1; clear hb1 ho1 hr1) | (go_at_call 29; refine (is_nil _).mono ?_; rintro e w2 ⟨rfl, rfl⟩))
    refine bodyPost_ret (v := .tuple #[.slice a RS.length cap, .int .i64 0, .int .i64 0]) (by simp [results, Tryd.results12, go_sem]) rfl ⟨HB1.out, .inr ⟨a, cap, RS, rfl, HO.out, ?_⟩⟩
    rw [HD.out, HR.out]
end Go.Proofs.YtjlcmgfgbmcjpaaDoor
