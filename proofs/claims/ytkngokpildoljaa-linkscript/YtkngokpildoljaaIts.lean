/- Proved: the iterator over all items of a net hands them out, one by one, to whatever loop. -/
import Derived.Test.YtkngokpildoljaaNe3
import Derived.RegionIn
import Derived.Stop.RegionWithIn
namespace Go.Proofs.Ytkngokpildoljaa
open Go.RowKit Go.Shelf
set_option linter.unusedVariables false
attribute [local go_sem] Oper.semAt_some

/-- What the first b links from a have. -/
def colsF (L : Ln) (a b : Nat) : List It := (List.range b).flatMap fun d : Nat => L a d
def rowsF (n : Nat) (L : Ln) (a : Nat) : List It := (List.range a).flatMap fun c : Nat => colsF L c n
/-- What all links have. -/
def itms (n : Nat) (L : Ln) : List It := rowsF n L n
theorem colsF_succ (L : Ln) (a b : Nat) : colsF L a (b + 1) = colsF L a b ++ L a b := by simp [colsF, List.range_succ]
theorem rowsF_succ (n : Nat) (L : Ln) (a : Nat) : rowsF n L (a + 1) = rowsF n L a ++ colsF L a n := by simp [rowsF, List.range_succ]
theorem rowsF_pre (n : Nat) (L : Ln) (a b : Nat) (h : a ≤ b) : rowsF n L a <+: rowsF n L b := by
  induction b with
  | zero => obtain rfl : a = 0 := by omega
            exact List.prefix_refl _
  | succ b ih =>
    rcases Nat.lt_or_eq_of_le h with g | g
    · exact (ih (by omega)).trans ⟨_, (rowsF_succ n L b).symm⟩
    · rw [g]; exact List.prefix_refl _
theorem colsF_pre (L : Ln) (a b c : Nat) (h : b ≤ c) : colsF L a b <+: colsF L a c := by
  induction c with
  | zero => obtain rfl : b = 0 := by omega
            exact List.prefix_refl _
  | succ c ih =>
    rcases Nat.lt_or_eq_of_le h with g | g
    · exact (ih (by omega)).trans ⟨_, (colsF_succ L a c).symm⟩
    · rw [g]; exact List.prefix_refl _
/-- Any beginning of what a link has, behind what stands ahead of it, is a beginning of all. -/
theorem pre_all {n : Nat} {L : Ln} {a b k : Nat} (ha : a < n) (hb : b < n) : rowsF n L a ++ colsF L a b ++ (L a b).take k <+: itms n L := by
  have h1 : colsF L a b ++ (L a b).take k <+: colsF L a n := by
    have : colsF L a b ++ (L a b).take k <+: colsF L a (b + 1) := by
      rw [colsF_succ]
      exact (List.prefix_append_right_inj _).2 (List.take_prefix _ _)
    exact this.trans (colsF_pre L a (b + 1) n hb)
  have h2 : rowsF n L a ++ (colsF L a b ++ (L a b).take k) <+: rowsF n L (a + 1) := by
    rw [rowsF_succ]
    exact (List.prefix_append_right_inj _).2 h1
  rw [List.append_assoc]
  exact h2.trans (rowsF_pre n L (a + 1) n ha)
theorem take_succ' (l : List It) (k : Nat) (h : k < l.length) : l.take (k + 1) = l.take k ++ [nthT l k] := by
  rw [List.take_add_one]
  simp [nthT, h]
theorem itms_len {n room : Nat} {L : Ln} (h : OKL n room L) : (itms n L).length ≤ 1024 := by
  have hc : ∀ a b, (colsF L a b).length ≤ b * 16 := by
    intro a b
    induction b with
    | zero => simp [colsF]
    | succ b ih =>
      rw [colsF_succ, List.length_append]
      have := h.len a b
      have := h.r16
      omega
  have hr : ∀ a, (rowsF n L a).length ≤ a * 128 := by
    intro a
    induction a with
    | zero => simp [rowsF]
    | succ a ih =>
      rw [rowsF_succ, List.length_append]
      have := hc a n
      have := h.n8
      omega
  have := hr n
  have := h.n8
  unfold itms
  omega

/-- The blocks of S are as they were. -/
def KpS (S : Nat → Prop) (W W' : World) : Prop := W.heap.size ≤ W'.heap.size ∧ ∀ b, S b → b < W.heap.size → W'.heap[b]? = W.heap[b]?
theorem KpS.trans {S : Nat → Prop} {A B C : World} (h : KpS S A B) (k : KpS S B C) : KpS S A C := ⟨Nat.le_trans h.1 k.1, fun b hs hb => (k.2 b hs (Nat.lt_of_lt_of_le hb h.1)).trans (h.2 b hs hb)⟩
theorem KpS.refl (S : Nat → Prop) (A : World) : KpS S A A := ⟨Nat.le_refl _, fun _ _ _ => rfl⟩
theorem KpS.put {S : Nat → Prop} {w : World} (hS : ∀ b, S b → b < w.heap.size) (W : World) (l : Nat) (o o' : Obj) (hl : w.heap.size ≤ l) (h : W.heap[l]? = some o) (_ : o.isCells = false) (_ : o.isWalk = false) : KpS S W (W.putObj l o') := by
  have hg := grownBy_putObj' W l o'
  exact ⟨hg.size, fun b hs hb => hg.block b hb (fun e => by have := hS b hs; simp at e; omega)⟩
theorem KpS.cell {S : Nat → Prop} {W W' : World} (h : KpS S W W') {p : Addr} {v : Value} (hs : S p.block) (hc : W.cell? p = some v) : W'.cell? p = some v := by
  rw [World.cell?_of_block (h.2 p.block hs (clt hc))]
  exact hc
theorem KpS.net {S : Nat → Prop} {W W' : World} (h : KpS S W W') {n room : Nat} {L : Ln} {B : Nat} (hs : S B) (hn : Nt n room L B W) : Nt n room L B W' := by
  obtain ⟨f, hf⟩ := hn
  refine ⟨f, ⟨fun i hi => ⟨h.cell (p := ⟨B, i, none⟩) hs (hf.blk.c i hi).1, ?_⟩⟩, hf.f0, hf.f1, hf.rg, hf.ok⟩
  rw [World.frozen?_of_block (a := ⟨B, i, none⟩) (h.2 B hs hf.blk.lt)]
  exact (hf.blk.c i hi).2
/-- What a ring's place k holds. -/
theorem Nt.item {n room : Nat} {L : Ln} {B : Nat} {w : World} (h : Nt n room L B w) {a b k : Nat} (ha : a < 8) (hb : b < 8) (hk : k < (L a b).length) : ∃ st : Nat, st < 16 ∧ w.cell? ⟨B, 2 + a * 1040 + b * 130 + 128, none⟩ = some (.int .i64 st) ∧ w.cell? ⟨B, 2 + a * 1040 + b * 130 + (st + k) % 16 * 8, none⟩ = some (.int .i64 (nthT (L a b) k).k) ∧ w.cell? ⟨B, 2 + a * 1040 + b * 130 + (st + k) % 16 * 8 + 1, none⟩ = some (.int .i64 (nthT (L a b) k).t) ∧ w.cell? ⟨B, 2 + a * 1040 + b * 130 + (st + k) % 16 * 8 + 2, none⟩ = some (.int .i64 (nthT (L a b) k).fr) ∧ w.cell? ⟨B, 2 + a * 1040 + b * 130 + (st + k) % 16 * 8 + 3, none⟩ = some (.int .i64 (nthT (L a b) k).sq) ∧ w.cell? ⟨B, 2 + a * 1040 + b * 130 + (st + k) % 16 * 8 + 4, none⟩ = some (.int .i64 (nthT (L a b) k).dst) ∧ w.cell? ⟨B, 2 + a * 1040 + b * 130 + (st + k) % 16 * 8 + 5, none⟩ = some (.int .i64 (nthT (L a b) k).cl) ∧ w.cell? ⟨B, 2 + a * 1040 + b * 130 + (st + k) % 16 * 8 + 6, none⟩ = some (.int .i64 (nthT (L a b) k).bd) ∧ w.cell? ⟨B, 2 + a * 1040 + b * 130 + (st + k) % 16 * 8 + 7, none⟩ = some (.int .i64 (nthT (L a b) k).co) := by
  obtain ⟨f, hf⟩ := h
  obtain ⟨st, hst⟩ := hf.rg a b ha hb
  have hs := hst.s1
  obtain ⟨i0, i1, i2, i3, i4, i5, i6, i7⟩ := hst.s5 k hk
  exact ⟨st, hs, hf.blk.at (by omega) hst.s2, hf.blk.at (by omega) i0, hf.blk.at (by omega) i1, hf.blk.at (by omega) i2, hf.blk.at (by omega) i3, hf.blk.at (by omega) i4, hf.blk.at (by omega) i5, hf.blk.at (by omega) i6, hf.blk.at (by omega) i7⟩
theorem Nt.has {n room : Nat} {L : Ln} {B : Nat} {w : World} (h : Nt n room L B w) {a b : Nat} (ha : a < 8) (hb : b < 8) : w.cell? ⟨B, 2 + a * 1040 + b * 130 + 129, none⟩ = some (.int .i64 (L a b).length) := by
  obtain ⟨f, hf⟩ := h
  obtain ⟨st, hst⟩ := hf.rg a b ha hb
  exact hf.blk.at (by omega) hst.s3

/-- items(): a box, and the closure over it. -/
theorem items_any (w : World) (B : Nat) :
    Calls Try.prog 32 #[.pointer (some ⟨B, 0, none⟩)] w fun e w' => e = .returned (.func (.func 37) #[] #[.pointer (some ⟨w.heap.size, 0, none⟩)]) ∧ w' = w.alloc (.cells #[.pointer (some ⟨B, 0, none⟩)] 23) := by
  go_enter Try.func32, Try.ntmps32
  go_wp2
  go_ret
  exact ⟨rfl, rfl⟩

set_option maxRecDepth 100000 in
set_option maxHeartbeats 4000000 in
theorem iter_in (n0 : Nat) (hn0 : 1 ≤ n0) (l Bb B n room : Nat) (L : Ln) (S : Nat → Prop) (hSB : S B) (hSb : S Bb) (J Jx : List It → World → Prop)
    (hY : ∀ pre x W, J pre W → pre.length < (itms n L).length → YieldAt Fence.wide (n0 - 1) Try.prog l #[iv x, .bool (x.k != 2)] W fun e W' =>
      (e = .returned (.bool true) ∧ J (pre ++ [x]) W' ∧ KpS S W W') ∨ (e = .returned (.bool false) ∧ Jx (pre ++ [x]) W'))
    (W : World) (hJA : ∀ pre A o, J pre A → J pre (World.alloc A o).drew) (hp : W.cell? ⟨Bb, 0, none⟩ = some (.pointer (some ⟨B, 0, none⟩))) (h : Nt n room L B W) (h0 : J [] W) :
    CallsIn Fence.wide n0 Try.prog 37 #[.func (.yield l) #[] #[], .pointer (some ⟨Bb, 0, none⟩)] W fun e W' => (∃ u, e = .returned u) ∧
      ((∃ ys, ys = itms n L ∧ J ys W') ∨ (∃ pre, pre <+: itms n L ∧ Jx pre W')) := by
  have hn8 := h.ok.n8
  have hr16 := h.ok.r16
  have HL : Hid (∀ a b, (L a b).length ≤ room) := h.ok.len
  have HY : Hid _ := hY
  have HA : Hid _ := hJA
  have HN : Hid _ := h
  have c0 := h.see.1
  clear hY h hJA
  refine callsIn_of_wp Try.func37 rfl trivial ?_ rfl
  simp only [Try.ntmps37, List.size_toArray, List.length_cons, List.length_nil, Nat.reduceAdd, Nat.reduceSub, Array.replicate_succ, Array.replicate_zero, List.push_toArray, List.append_toArray, List.nil_append, List.cons_append]
  gi_wp2
  gi_loopw [12] (fun s12 wr => ∃ (a : Nat) (pre : List It), s12 = .int .i64 a ∧ a ≤ n ∧ Hid (pre = rowsF n L a) ∧ J pre wr ∧ wr.cell? ⟨Bb, 0, none⟩ = some (.pointer (some ⟨B, 0, none⟩)) ∧ Hid (Nt n room L B wr)) (fun s12 _ => n - (intOf s12).toNat)
  case atStart => exact ⟨0, [], rfl, Nat.zero_le _, rfl, h0, hp, HN.out⟩
  case round =>
    obtain ⟨a, pre, rfl, ha, HP, hJ, hp', HN'⟩ := hrel
    by_cases hlt : a < n
    · have hlt' : (a : Int) < (n : Int) := by omega
      have c0' := (Nt.see HN'.out).1
      gi_wp2
      gi_loopw [19] (fun s19 wr => ∃ (b : Nat) (pre : List It), s19 = .int .i64 b ∧ b ≤ n ∧ Hid (pre = rowsF n L a ++ colsF L a b) ∧ J pre wr ∧ wr.cell? ⟨Bb, 0, none⟩ = some (.pointer (some ⟨B, 0, none⟩)) ∧ Hid (Nt n room L B wr)) (fun s19 _ => n - (intOf s19).toNat)
      case atStart => exact ⟨0, pre, rfl, Nat.zero_le _, by show pre = _; rw [HP.out]; simp [colsF], hJ, hp', HN'.out⟩
      case round =>
        obtain ⟨b, pre, rfl, hb, HP, hJ, hp', HN'⟩ := hrel
        by_cases hltb : b < n
        · have hltb' : (b : Int) < (n : Int) := by omega
          have ha8 : (a : Int) < 8 := by omega
          have hb8 : (b : Int) < 8 := by omega
          have ch := Nt.has HN'.out (a := a) (b := b) (by omega) (by omega)
          have hm := HL.out a b
          obtain ⟨m, hme⟩ : ∃ m, (L a b).length = m := ⟨_, rfl⟩
          rw [hme] at ch hm
          have HM : Hid _ := hme
          clear hme
          gi_wp2
          gi_loopw [33] (fun s33 wr => ∃ (k : Nat) (pre : List It), s33 = .int .i64 k ∧ k ≤ m ∧ Hid (pre = rowsF n L a ++ colsF L a b ++ (L a b).take k) ∧ J pre wr ∧ wr.cell? ⟨Bb, 0, none⟩ = some (.pointer (some ⟨B, 0, none⟩)) ∧ Hid (Nt n room L B wr)) (fun s33 _ => m - (intOf s33).toNat)
          case atStart => exact ⟨0, pre, rfl, Nat.zero_le _, by show pre = _; rw [HP.out]; simp, hJ, hp', HN'.out⟩
          case round =>
            obtain ⟨k, pre, rfl, hk, HP, hJ, hp', HN'⟩ := hrel
            by_cases hltk : k < m
            · have hltk' : (k : Int) < (m : Int) := by omega
              have hB := Nt.lt HN'.out
              obtain ⟨st, hst, i1, i2, i3, i4, i5, i6, i7, i8, i9⟩ := Nt.item HN'.out (a := a) (b := b) (k := k) (by omega) (by omega) (by rw [HM.out]; omega)
              obtain ⟨x, hx⟩ : ∃ x, nthT (L a b) k = x := ⟨_, rfl⟩
              rw [hx] at i2 i3 i4 i5 i6 i7 i8 i9
              have PL : ∀ V : World, V.cell? ⟨B, 2 + a * 1040 + b * 130 + 128, none⟩ = some (.int .i64 st) → Calls Try.prog 36 #[.pointer (some ⟨B, 2 + a * 1040 + b * 130, none⟩), .int .i64 k] V fun e w' => e = .returned (.int .i64 (((st + k) % 16 : Nat) : Int)) ∧ V = w' := fun V hv => place_any V B _ st k hv hst (by omega)
              obtain ⟨q, hq⟩ : ∃ q, (st + k) % 16 = q := ⟨_, rfl⟩
              have hq1 : (q : Int) < 16 := by omega
              simp only [hq] at PL i2 i3 i4 i5 i6 i7 i8 i9
              have HPL : Hid _ := PL
              have HX : Hid _ := hx
              have hbx := (BoxT.new wr x).drew
              have hnA : Nt n room L B (wr.alloc (.cells (ics x) 35)).drew := Nt.below HN'.out ((al wr _).drew)
              have hJA2 := HA.out pre wr (.cells (ics x) 35) hJ
              have hpA := ((al wr (.cells (ics x) 35)).drew).cell (p := ⟨Bb, 0, none⟩) (clt hp')
              rw [hp'] at hpA
              clear PL hq hx hst
              gi_wp2
              gi_region_with (refine ⟨trivial, ?_⟩; gi_at_call 36; refine (callsIn_wide.2 (Hid.out HPL _ (by first | assumption | go_keep))).mono ?_; rintro e w' ⟨rfl, rfl⟩)
              all_goals (
                clear i1 i2 i3 i4 i5 i6 i7 i8 i9 HPL
                obtain ⟨V, hV⟩ : ∃ V, V = (wr.alloc (.cells (ics x) 35)).drew := ⟨_, rfl⟩
                rw [← hV] at hbx hnA hJA2 hpA
                simp only [ics] at hV
                rw [← hV]
                clear hV
                obtain ⟨e0, e1, e2, e3, e4, e5, e6, e7⟩ := hbx.cells
                have HPR : Hid (pre ++ [x] <+: itms n L ∧ pre ++ [x] = rowsF n L a ++ colsF L a b ++ (L a b).take (k + 1)) := by
                  have e : pre ++ [x] = rowsF n L a ++ colsF L a b ++ (L a b).take (k + 1) := by
                    rw [HP.out, take_succ' _ _ (by rw [HM.out]; omega), HX.out]
                    simp only [List.append_assoc]
                  refine ⟨?_, e⟩
                  rw [e]
                  exact pre_all hlt hltb
                have hlen : pre.length < (itms n L).length := by
                  have := HPR.out.1.length_le
                  simp at this
                  omega
                obtain ⟨fn, tmps, assign, body, hy, hR⟩ := HY.out pre x V hJA2 hlen
                have HNA : Hid _ := hnA
                clear hlen hnA hbx
                gi_wp2
                refine hR.mono ?_
                rintro e W3 (⟨rfl, hJ3, hk3⟩ | ⟨rfl, hJx3⟩)
                · gi_wp2
                  go_roundw
                  case rel => exact ⟨k + 1, pre ++ [x], by go_num, by omega, HPR.out.2, hJ3, hk3.cell (p := ⟨Bb, 0, none⟩) hSb hpA, hk3.net hSB HNA.out⟩
                  case measure => simp [intOf]; omega
                · gi_wp2
                  refine bodyPost_ret (results_none rfl _ _ _) rfl ?_
                  exact ⟨⟨_, rfl⟩, .inr ⟨pre ++ [x], HPR.out.1, hJx3⟩⟩)
            · obtain rfl : k = m := by omega
              gi_wp2
              go_roundw
              case rel => exact ⟨b + 1, pre, by go_num, by omega, by show pre = _; rw [HP.out, colsF_succ, List.take_of_length_le (by rw [HM.out]; omega), List.append_assoc], hJ, hp', HN'.out⟩
              case measure => simp [intOf]; omega
        · obtain rfl : b = n := by omega
          gi_wp2
          go_roundw
          case rel => exact ⟨a + 1, pre, by go_num, by omega, by show pre = _; rw [HP.out, rowsF_succ], hJ, hp', HN'.out⟩
          case measure => simp [intOf]; omega
    · obtain rfl : a = n := by omega
      gi_wp2
      go_end0
      exact ⟨⟨_, rfl⟩, .inl ⟨pre, HP.out, hJ⟩⟩

/-- The iterator's contract. -/
theorem iter_stops (n0 : Nat) (hn0 : 1 ≤ n0) (Bb B n room : Nat) (L : Ln) (S : Nat → Prop) (hSB : S B) (hSb : S Bb) (w : World) (hp : w.cell? ⟨Bb, 0, none⟩ = some (.pointer (some ⟨B, 0, none⟩))) (h : Nt n room L B w) :
    SeqStopsK Fence.wide n0 Try.prog 37 #[.pointer (some ⟨Bb, 0, none⟩)] (fun x : It => #[iv x, .bool (x.k != 2)]) (KpS S) (fun ys => ys = itms n L) (fun pre => pre <+: itms n L) (itms n L).length w := fun l J Jx W hW hJ _ hY h0 =>
  iter_in n0 hn0 l Bb B n room L S hSB hSb J Jx hY W (fun pre A o hj => hJ pre A _ none hj ⟨rfl, rfl, rfl, by simp, fun k hk _ => Below.heap_alloc _ _ _ hk⟩ (fun r e => by cases e)) ((hW.cell (p := ⟨Bb, 0, none⟩) (clt hp)).trans hp) (h.below hW) h0
end Go.Proofs.Ytkngokpildoljaa
