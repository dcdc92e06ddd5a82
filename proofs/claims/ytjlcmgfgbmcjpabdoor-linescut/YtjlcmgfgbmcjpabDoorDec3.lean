/- Proved: what lines.readRows tells of any text: its rows, or an error that holds the number of the first line that is wrong. -/
import Derived.Test.YtjlcmgfgbmcjpabDoorDec2
namespace Go.Proofs.YtjlcmgfgbmcjpabDoor
open Go.RowKit
set_option linter.unusedVariables false

theorem own_mono {w : World} {B B' e n : Nat} {v : Value} {xs : List Value} (h : w.ownsRow B e 1 v n xs) (hb : B' ≤ B) : w.ownsRow B' e 1 v n xs := by
  refine ⟨h.1, ?_⟩
  rcases h.2 with hn | ⟨g, cap, cur, hv, hg, rest⟩
  · exact .inl hn
  · exact .inr ⟨g, cap, cur, hv, Nat.le_trans hb hg, rest⟩
theorem below_of_drewN {w w' : World} {n : Nat} (h : Below (w.drewN n).heap.size (w.drewN n) w') : Below w.heap.size w w' := ⟨h.os, h.tape, h.output, h.size, h.block⟩
theorem toArray_data (S : ByteArray) : (⟨S.data.toList.toArray⟩ : ByteArray) = S := by cases S; simp
theorem cut_any (s : ByteArray) (w : World) (hs : s.size ≤ 1073741824) (hm : MaxAt w) :
    Calls Tryd.prog 18 #[.string s, .string ⟨#[10]⟩] w fun e w' => e = .returned (.tuple #[.string ⟨(Lib.cut s.data.toList [10]).1.toArray⟩, .string ⟨(Lib.cut s.data.toList [10]).2.1.toArray⟩, .bool (Lib.cut s.data.toList [10]).2.2]) ∧ ∃ n, w' = w.drewN n := by
  obtain ⟨m, hm⟩ := hm
  exact Tryd.strings_Cut s ⟨#[10]⟩ m w (by omega) hm

/-- Rows behind rows that were read. -/
def behind (rs : List (List (List UInt8))) : Except Nat (List (List (List UInt8))) → Except Nat (List (List (List UInt8)))
  | .ok rows => .ok (rs ++ rows)
  | .error n => .error n
/-- How reading stands: S is left, the rows RS are read. -/
def Stands (s : ByteArray) (w wr : World) (S : ByteArray) (v : Value) (RS : List (List ByteArray)) : Prop :=
  Below w.heap.size w wr ∧ OwnR w.heap.size wr.heap.size wr v RS ∧ dec 1 [] [] s.data.toList = behind (lettersR RS) (dec (RS.length + 1) [] [] S.data.toList) ∧ RS.length + S.size ≤ s.size
/-- What readRows tells. -/
def RowsTell (s : ByteArray) (w : World) (e : Ending) (w' : World) : Prop :=
  Below w.heap.size w w' ∧ ((∃ n : Nat, n ≤ s.size + 1 ∧ dec 1 [] [] s.data.toList = .error n ∧ e = .returned (.tuple #[.slice none 0 0, .iface 54 (.agg #[.int .i64 n, .iface 24 (.int .i64 20)])])) ∨
    ∃ (a : Option Addr) (cap : Nat) (RS : List (List ByteArray)), e = .returned (.tuple #[.slice a RS.length cap, .nilIface]) ∧ OwnR w.heap.size w'.heap.size w' (.slice a RS.length cap) RS ∧ dec 1 [] [] s.data.toList = .ok (lettersR RS))

theorem OwnR.form {B C : Nat} {w : World} {v : Value} {RS : List (List ByteArray)} (h : OwnR B C w v RS) : ∃ a cap, v = .slice a RS.length cap := by
  obtain ⟨vs, h0, _⟩ := h
  rcases h0.2 with ⟨rfl, hn⟩ | ⟨g, cap, cur, rfl, _⟩
  · exact ⟨none, 0, by rw [hn]⟩
  · exact ⟨_, _, rfl⟩
theorem OwnR.empty (B C : Nat) (w : World) : OwnR B C w (.slice none 0 0) [] := ⟨[], World.ownsRow_nil w B 22 1, fun i h => absurd h (Nat.not_lt_zero _)⟩
theorem lettersR_length (rs : List (List ByteArray)) : (lettersR rs).length = rs.length := by simp [lettersR]

theorem own_rows_kept {B C : Nat} {w w1 : World} {v : Value} {RS : List (List ByteArray)} {vs : List Value}
    (h : w.ownsRow B 22 1 v RS.length vs ∧ ∀ i (h : i < RS.length), ∃ u, vs[i]? = some u ∧ OwnS B w u RS[i] ∧ ∀ k, u.ownBlock = some k → k < C) (hb : Below w.heap.size w w1) :
    w1.ownsRow B 22 1 v RS.length vs ∧ ∀ i (h : i < RS.length), ∃ u, vs[i]? = some u ∧ OwnS B w1 u RS[i] ∧ ∀ k, u.ownBlock = some k → k < C := by
  refine ⟨own_kept h.1 hb, fun i hi => ?_⟩
  obtain ⟨u, hu, ho, hk⟩ := h.2 i hi
  exact ⟨u, hu, own_kept ho hb, hk⟩
/-- A line that is read. -/
theorem stands_next {s : ByteArray} {w wr w1 w2 : World} {S : ByteArray} {v v' u : Value} {RS : List (List ByteArray)} {F : List ByteArray} {vs : List Value} {a b : List UInt8} {o : Obj} {B1 : Nat}
    (h : Stands s w wr S v RS) (hS : S.data.toList = a ++ 10 :: b) (ha : 10 ∉ a) (hd : decLine a = some (letters F)) (hB : Below wr.heap.size wr w1) (hB1 : w.heap.size ≤ B1) (hu : OwnS B1 w1 u F)
    (h0 : w1.ownsRow w.heap.size 22 1 v RS.length vs ∧ ∀ i (h : i < RS.length), ∃ u, vs[i]? = some u ∧ OwnS w.heap.size w1 u RS[i] ∧ ∀ k, u.ownBlock = some k → k < wr.heap.size)
    (h1 : w2.ownsRow w.heap.size 22 1 v' (RS.length + 1) (vs ++ [u])) (hg : (w1.alloc o).grownBy w2 v.ownBlock) : Stands s w w2 ⟨b.toArray⟩ v' (RS ++ [F]) := by
  obtain ⟨k1, k2, k3, k4⟩ := h
  have hw1 : Below w.heap.size w w1 := k1.trans (hB.mono k1.size)
  have hu' : OwnS w.heap.size w1 u F := own_mono hu hB1
  have hgs := hg.size
  simp at hgs
  have hs1 := hB.size
  refine ⟨?_, OwnR.push h0 hu' (fun k hk => ?_) (by omega) h1 hg, ?_, ?_⟩
  · refine (hw1.alloc hw1.size o).grown hg ?_ (fun k hk => ?_)
    · have := hw1.size; simp; omega
    · exact (h0.1.lt k hk).1
  · have := (World.ownsRow.lt hu k hk).2; omega
  · rw [k3, hS, dec_line _ a (Nat.le_refl _) _ _ _ ha, hd]
    simp only [List.length_append, List.length_cons, List.length_nil]
    have e : lettersR (RS ++ [F]) = lettersR RS ++ [letters F] := by simp [lettersR]
    rw [e]
    cases dec (RS.length + 1 + 1) [] [] b <;> simp [behind]
  · have e1 : (⟨b.toArray⟩ : ByteArray).size = b.length := by simp [ByteArray.size]
    have e2 := len_size S
    rw [hS, List.length_append, List.length_cons] at e2
    rw [e1, List.length_append, List.length_cons, List.length_nil]; omega
theorem stands_bad {s : ByteArray} {w wr : World} {S : ByteArray} {v : Value} {RS : List (List ByteArray)} {a b : List UInt8} (h : Stands s w wr S v RS) (hS : S.data.toList = a ++ 10 :: b) (ha : 10 ∉ a) (hd : decLine a = none) :
    dec 1 [] [] s.data.toList = .error (RS.length + 1) := by
  rw [h.2.2.1, hS, dec_line _ a (Nat.le_refl _) _ _ _ ha, hd]; rfl
theorem stands_open {s : ByteArray} {w wr : World} {S : ByteArray} {v : Value} {RS : List (List ByteArray)} (h : Stands s w wr S v RS) (hS : 10 ∉ S.data.toList) (h0 : 0 < S.size) :
    dec 1 [] [] s.data.toList = .error (RS.length + 1) := by
  rw [h.2.2.1, dec_open _ _ _ _ (fun x hx e => hS (e ▸ hx)) (.inr (.inr ?_))]
  · rfl
  · intro e
    have := len_size S
    rw [e] at this
    simp at this; omega
theorem stands_done {s : ByteArray} {w wr : World} {S : ByteArray} {v : Value} {RS : List (List ByteArray)} (h : Stands s w wr S v RS) (h0 : ¬ 0 < S.size) : dec 1 [] [] s.data.toList = .ok (lettersR RS) := by
  rw [h.2.2.1, nil_of h0, dec_nil]; simp [behind]

theorem readRow_bad (s : ByteArray) (w : World) (n : Nat) (hs : s.size ≤ 1073741824) (hm : MaxAt w) (hd : decLine s.data.toList = none) :
    Calls Tryd.prog 19 #[.string s] (w.drewN n) fun e w' => e = .returned (.tuple #[.slice none 0 0, .iface 24 (.int .i64 20)]) ∧ Below w.heap.size w w' := by
  refine (readRow_any s (w.drewN n) hs hm).mono ?_
  rintro e w1 ⟨hb, ⟨_, rfl⟩ | ⟨FZ, _, _, hx⟩⟩
  · exact ⟨rfl, below_of_drewN hb⟩
  · rw [hd] at hx; cases hx
theorem readRow_good (s : ByteArray) (w : World) (n : Nat) (fs : List (List UInt8)) (hs : s.size ≤ 1073741824) (hm : MaxAt w) (hd : decLine s.data.toList = some fs) :
    Calls Tryd.prog 19 #[.string s] (w.drewN n) fun e w' => ∃ FZ : List ByteArray, e = .returned (.tuple #[.slice (some ⟨w.heap.size, 0, none⟩) FZ.length FZ.length, .nilIface]) ∧ Below w.heap.size w w' ∧ OwnS w.heap.size w' (.slice (some ⟨w.heap.size, 0, none⟩) FZ.length FZ.length) FZ ∧ fs = letters FZ := by
  refine (readRow_any s (w.drewN n) hs hm).mono ?_
  rintro e w1 ⟨hb, ⟨hx, _⟩ | ⟨FZ, rfl, ho, hx⟩⟩
  · rw [hd] at hx; cases hx
  · rw [hd] at hx
    exact ⟨FZ, rfl, below_of_drewN hb, ho, Option.some.inj hx⟩

set_option maxRecDepth 100000 in
set_option maxHeartbeats 2000000 in
theorem readRows_any (s : ByteArray) (w : World) (hs : s.size ≤ 1073741824) (hm : MaxAt w) : Calls Tryd.prog 12 #[.string s] w (RowsTell s w) := by
  obtain ⟨i0, hi, hz0, hz1, hz2⟩ := info_parts info42
  have hm4 := hm.lt
  go_enter Tryd.func12, Tryd.ntmps12
  go_wp2
  go_loopw [0, 4] (fun c r wr => ∃ (S : ByteArray) (RS : List (List ByteArray)), c = .string S ∧ Hid (Stands s w wr S r RS)) (fun c _ _ => match c with | .string S => S.size | _ => 0)
  case atStart => exact ⟨s, [], rfl, Below.refl _ _, OwnR.empty _ _ _, by cases dec 1 [] [] s.data.toList <;> simp [behind, lettersR], by simp⟩
  case round =>
    obtain ⟨S, RS, rfl, hh⟩ := hrel
    have hlen := hh.out.2.2.2
    obtain ⟨ra, rcap, rfl⟩ := hh.out.2.1.form
    have hmr : MaxAt wr := hm.keep hm4 hh.out.1
    have hmr' : ∀ n, MaxAt (wr.drewN n) := fun n => hmr
    by_cases h0 : 0 < S.size
    · have hS := full_of h0
      rcases cut_feed S.data.toList with ⟨hno, hcut⟩ | ⟨a, b, hab, hno, hcut⟩
      · have hcall := cut_any S wr (by omega) hmr
        rw [hcut] at hcall
        simp only [toArray_data] at hcall
        have HE := hide (stands_open hh.out hno h0)
        clear hno hcut
        go_wp2_with (first | (go_at_call 18; refine hcall.mono ?_; rintro e w1 ⟨rfl, nq, rfl⟩) | (go_at_call 19; refine (readRow_any S _ (by omega) (hmr' _)).mono ?_; rintro e w1 ⟨hb1, ⟨_, rfl⟩ | ⟨FZ, rfl, _⟩⟩ <;> (have HB := hide (below_of_drewN hb1); clear hb1)))
        all_goals go_ret2
        all_goals exact ⟨hh.out.1.trans (HB.out.mono hh.out.1.size), .inl ⟨RS.length + 1, by omega, HE.out, by simp⟩⟩
      · have hcall := cut_any S wr (by omega) hmr
        rw [hcut] at hcall
        simp only at hcall
        have hla : (⟨a.toArray⟩ : ByteArray).size ≤ 1073741824 := by
          have e1 : (⟨a.toArray⟩ : ByteArray).size = a.length := by simp [ByteArray.size]
          have e2 := len_size S
          rw [hab, List.length_append] at e2
          omega
        cases hd : decLine a with
        | none =>
          have hrow := fun n => readRow_bad ⟨a.toArray⟩ wr n hla hmr hd
          have HE := hide (stands_bad hh.out hab hno hd)
          clear hno hcut hab hd
          go_wp2_with (first | (go_at_call 18; refine hcall.mono ?_; rintro e w1 ⟨rfl, nq, rfl⟩) | (go_at_call 19; refine (hrow _).mono ?_; rintro e w1 ⟨rfl, hb1⟩; have HB := hide hb1; clear hb1))
          go_ret2
          exact ⟨hh.out.1.trans (HB.out.mono hh.out.1.size), .inl ⟨RS.length + 1, by omega, HE.out, by simp⟩⟩
        | some fs =>
          have hrow := fun n => readRow_good ⟨a.toArray⟩ wr n fs hla hmr hd
          have HD := hide hd
          have HAB := hide hab
          have HNO := hide hno
          clear hno hcut hab hd
          obtain ⟨vs, hvs⟩ := hh.out.2.1
          have HV := hide hvs
          clear hvs
          go_wp2_with (first | (go_at_call 18; refine hcall.mono ?_; rintro e w1 ⟨rfl, nq, rfl⟩) | (go_at_call 19; refine (hrow _).mono ?_; rintro e w1 ⟨FZ, rfl, hb1, ho, hx⟩; have HB := hide hb1; have HX := hide hx; have HO := hide ho; have HV1 : Hid _ := own_rows_kept HV.out hb1; clear hb1 hx ho) | (at_builtin; refine wpList_append_own _ rfl _ _ 23 rfl w.heap.size 22 i0 (.slice none 0 0) 1 24 Tryd.underlying23 hi hz0 hz1 hz2 rfl (by decide) _ _ _ rfl (HV1.out.1.alloc _) ⟨w1.heap.size, 0, none⟩ 1 1 [.slice (some ⟨wr.heap.size, 0, none⟩) FZ.length FZ.length] rfl rfl ?c1 ?c2 ?c3 ?c4 ?c5 ?_))
          case c1 => exact cell_one_new _ _ _
          case c2 => intro u hu; simp at hu; subst hu; rfl
          case c3 => unfold maxLen; omega
          case c4 => omega
          case c5 =>
            have h1 := hh.out.1.size
            have h2 := HB.out.size
            simp; omega
          intro v' w2 hown' hgrow _
          have HW := hide hown'
          have HG := hide hgrow
          clear hown' hgrow
          go_wp2
          go_roundw
          case rel =>
            have hd2 := HD.out
            rw [HX.out] at hd2
            exact ⟨_, RS ++ [FZ], rfl, stands_next hh.out HAB.out HNO.out hd2 HB.out hh.out.1.size HO.out HV1.out HW.out HG.out⟩
          case measure =>
            have e1 : (⟨b.toArray⟩ : ByteArray).size = b.length := by simp [ByteArray.size]
            have e2 := len_size S
            rw [HAB.out, List.length_append, List.length_cons] at e2
            show (⟨b.toArray⟩ : ByteArray).size < S.size
            omega
    · have hS := empty_of h0
      go_wp2
      go_ret2
      exact ⟨hh.out.1, .inr ⟨_, _, _, rfl, hh.out.2.1, stands_done hh.out h0⟩⟩
end Go.Proofs.YtjlcmgfgbmcjpabDoor
