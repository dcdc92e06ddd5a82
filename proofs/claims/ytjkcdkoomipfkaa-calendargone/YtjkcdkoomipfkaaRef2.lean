/- Proved: contracts of the document's Without and of its look for a key. -/
import Derived.Test.YtjkcdkoomipfkaaRef1
namespace Go.Proofs.Ytjkcdkoomipfkaa
open Go.RowKit Go.Sort
set_option linter.unusedVariables false

theorem del_snoc (d : List M) (i : Nat) (k : K) (h : i < d.length) : del (d.take (i + 1)) k = if (nth d i).1 = k then del (d.take i) k else del (d.take i) k ++ [nth d i] := by
  rw [take_nth d i h]
  unfold del
  rw [List.filter_append]
  split <;> simp [*]
theorem del_len (d : List M) (k : K) : (del d k).length ≤ d.length := List.length_filter_le _ _
theorem equal28 (a1 a2 a3 b1 b2 b3 : Int) (w : World) : (Op.equalIn 10000 30 (.agg #[.int .i64 a1, .int .i64 a2, .int .i64 a3]) (.agg #[.int .i64 b1, .int .i64 b2, .int .i64 b3])).run Try.prog w = .ok (decide (((a1, a2, a3) : K) = (b1, b2, b3))) w := by
  have u3 := Try.underlying3
  have a3' := Try.isAgg3
  have z3 := Try.sizeOf3
  have hS : Try.prog.underlying 30 = some (.struct (Try.prog.fieldsOf 30)) := by kernel_rfl
  have hp : Try.prog.stoodInHeld 30 = false := by kernel_rfl
  rw [show (10000 : Nat) = 9999 + 1 from rfl, run_equalIn_agg w 9999 30 _ _ hS hp]
  simp only [Program.fieldsOf, Try.underlying30]
  go_simp
  by_cases h1 : a1 = b1 <;> by_cases h2 : a2 = b2 <;> by_cases h3 : a3 = b3 <;> simp [h1, h2, h3]
theorem neq28 (a1 a2 a3 b1 b2 b3 : Int) (w : World) : (binOp .neq 30 (.agg #[.int .i64 a1, .int .i64 a2, .int .i64 a3]) (.agg #[.int .i64 b1, .int .i64 b2, .int .i64 b3])).run Try.prog w = .ok (.bool (!decide (((a1, a2, a3) : K) = (b1, b2, b3)))) w := by
  rw [run_neq_struct, equal28]; rfl
theorem eql28 (a1 a2 a3 b1 b2 b3 : Int) (w : World) : (binOp .eql 30 (.agg #[.int .i64 a1, .int .i64 a2, .int .i64 a3]) (.agg #[.int .i64 b1, .int .i64 b2, .int .i64 b3])).run Try.prog w = .ok (.bool (decide (((a1, a2, a3) : K) = (b1, b2, b3)))) w := by
  rw [run_eql_struct, equal28]; rfl

set_option maxRecDepth 100000 in
set_option maxHeartbeats 2000000 in
theorem without_any {w : World} {v : Value} {l : List M} (h : Own w v l) (hlen : l.length ≤ 1000) (k1 k2 k3 : Int) :
    Calls Try.prog 41 #[v, .agg #[.int .i64 k1, .int .i64 k2, .int .i64 k3]] w fun e w' => ∃ v', e = .returned v' ∧ Own w' v' (del l (k1, k2, k3)) ∧ (∀ k, v'.ownBlock = some k → w.heap.size ≤ k) ∧ Below w.heap.size w w' := by
  have mixed : Try.prog.follows .mixedOrders = true := by kernel_rfl
  obtain ⟨w0, hw0⟩ : ∃ w0, w0 = w.alloc (.cells #[.int .i64 k1, .int .i64 k2, .int .i64 k3] 30) := ⟨_, rfl⟩
  have s0 : w0.heap.size = w.heap.size + 1 := by rw [hw0]; simp
  have b0 : Below w.heap.size w w0 := by rw [hw0]; exact (Below.refl _ _).alloc (Nat.le_refl _) _
  have xc : ∀ j, j < 3 → w0.cell? ⟨w.heap.size, j, none⟩ = [Value.int .i64 k1, .int .i64 k2, .int .i64 k3][j]? := fun j hj => by
    rw [hw0]
    simp only [World.cell?, heap_alloc_new]
    simp
  have hown0 : Own w0 v l := h.keep (S := fun _ => False) (Fr.of_below b0) (fun _ _ g => g)
  obtain ⟨a, cap, rfl, _⟩ := h.rd
  have HW : Hid _ := hw0
  clear hw0
  go_enter Try.func41, Try.ntmps41
  go_wp2_with fail
  rw [← HW.out]
  go_loopw [5, 6] (fun v5 si wr => ∃ k : Nat, k ≤ l.length ∧ si = .int .i64 k ∧ Own wr v5 (del (l.take k) (k1, k2, k3)) ∧ (∀ j, v5.ownBlock = some j → w0.heap.size ≤ j) ∧ Below w0.heap.size w0 wr) (fun _ si _ => l.length - (intOf si).toNat)
  case atStart =>
    refine ⟨0, Nat.zero_le _, rfl, ?_, ?_, ?_⟩
    · have := own_empty w0
      rw [s0] at this
      exact this
    · intro j hj
      simp [Value.ownBlock] at hj
      omega
    · exact (Below.refl _ _).alloc (Nat.le_refl _) _
  case round =>
    obtain ⟨k, hk, rfl, hown5, hblk, hb⟩ := hrel
    have htk : (l.take k).length = k := by rw [List.length_take]; omega
    have hdl := del_len (l.take k) (k1, k2, k3)
    have MF : ∀ W : World, Below w0.heap.size w0 W → W.cell? ⟨w.heap.size, 0, none⟩ = some (.int .i64 k1) ∧ W.cell? ⟨w.heap.size, 1, none⟩ = some (.int .i64 k2) ∧ W.cell? ⟨w.heap.size, 2, none⟩ = some (.int .i64 k3) := fun W hW => by
      have c := fun j (hj : j < 3) => (hW.cell (p := ⟨w.heap.size, j, none⟩) (by rw [s0]; exact Nat.lt_succ_self _)).trans (xc j hj)
      exact ⟨c 0 (by omega), c 1 (by omega), c 2 (by omega)⟩
    by_cases hlt : k < l.length
    · obtain ⟨g, cap', hv, hg⟩ := own_nonempty hown0 hlt
      obtain ⟨rfl, rfl⟩ : a = some ⟨g, 0, none⟩ ∧ cap = cap' := by simpa using hv
      obtain ⟨x, hx⟩ : ∃ x, nth l k = x := ⟨_, rfl⟩
      have XF := fun (W : World) (hW : Below w0.heap.size w0 W) => own_cell (hown0.keep (S := fun _ => False) (Fr.of_below hW) (fun _ _ g => g)) (x := x) hlt (by rw [← nth_get]; exact hx)
      have hsn := del_snoc l k (k1, k2, k3) hlt
      rw [hx] at hsn
      have HSN : Hid _ := hsn
      have hlt' : (k : Int) < (l.length : Int) := by omega
      clear hx hv hsn
      obtain ⟨⟨b1, b2, b3⟩, b4, b5, b6⟩ := x
      obtain ⟨m0, m1, m2⟩ := MF wr hb
      obtain ⟨x0, x1, x2, _, _, _⟩ := XF wr hb
      dsimp only at x0 x1 x2
      by_cases e : (b1, b2, b3) = ((k1, k2, k3) : K)
      · have R1 : del (l.take (k + 1)) (k1, k2, k3) = del (l.take k) (k1, k2, k3) := by rw [HSN.out, if_pos e]
        obtain ⟨rfl, rfl, rfl⟩ : b1 = k1 ∧ b2 = k2 ∧ b3 = k3 := by simpa using e
        clear e
        go_wp2_with fail
        go_quiet (fail)
        generalize hwq : World.drewN _ _ = wq
        have hbq : Below w0.heap.size w0 wq := by rw [← hwq]; exact below_drewN hb _
        have hownq : Own wq u5 (del (l.take k) (b1, b2, b3)) := by rw [← hwq]; exact hown5
        clear hwq hown5 hb XF MF x0 x1 x2 m0 m1 m2
        go_wp2
        go_roundw
        case rel => exact ⟨k + 1, by omega, by go_num, by rw [R1]; exact hownq, hblk, hbq⟩
        case measure => simp [intOf]; omega
      · have R1 : del (l.take (k + 1)) (k1, k2, k3) = del (l.take k) (k1, k2, k3) ++ [((b1, b2, b3), b4, b5, b6)] := by rw [HSN.out, if_neg e]
        have hne := fun W => neq28 b1 b2 b3 k1 k2 k3 W
        rw [decide_eq_false e] at hne
        simp only [Bool.not_false] at hne
        clear e
        go_wp2_with fail
        go_quiet (fail)
        generalize hwq : World.drewN _ _ = wq
        have hbq : Below w0.heap.size w0 wq := by rw [← hwq]; exact below_drewN hb _
        have hownq : Own wq u5 (del (l.take k) (k1, k2, k3)) := by rw [← hwq]; exact hown5
        clear x0 x1 x2 m0 m1 m2
        obtain ⟨x0, x1, x2, x3, x4, x5⟩ := XF wq hbq
        clear hwq hown5 hb
        go_wp2_with (at_builtin; refine wpList_append_msg _ rfl (.tmp 21) (.tmp 26) rfl _ (del (l.take k) (k1, k2, k3)) rfl ?c1 ?c2 ((b1, b2, b3), b4, b5, b6) ⟨wq.heap.size, 0, none⟩ rfl ?c3 ?_)
        case c1 => exact hownq.keep (S := fun _ => False) ((Fr.refl _ _).alloc _) (fun _ _ g => g)
        case c2 => first | omega | (simp; omega)
        case c3 => first | exact (fun j u hj => hj) | exact cells_new1 _ ((b1, b2, b3), b4, b5, b6) 32
        intro a1 cap1 w1 hown1 hfr1 hloc1
        obtain ⟨hb1, hblk1⟩ := stage hbq hblk hfr1 hloc1
        clear x0 x1 x2 x3 x4 x5 hfr1 hloc1 hownq hbq hblk XF MF
        go_wp2
        go_roundw
        case rel => exact ⟨k + 1, by omega, by go_num, by rw [R1]; exact hown1, hblk1, hb1⟩
        case measure => simp [intOf]; omega
    · have hkd : k = l.length := by omega
      subst hkd
      rw [List.take_length] at hown5
      have hgt : ¬ ((l.length : Int) < (l.length : Int)) := by omega
      clear MF
      go_wp2
      go_ret
      exact ⟨_, rfl, hown5, fun j hj => by have := hblk j hj; omega, b0.trans (hb.mono (by omega))⟩

theorem hasK_snoc (d : List M) (i : Nat) (k : K) (h : i < d.length) : hasK (d.take (i + 1)) k = (hasK (d.take i) k || decide ((nth d i).1 = k)) := by
  rw [take_nth d i h]
  simp [hasK]
theorem hasK_take {d : List M} {i : Nat} {k : K} (h : i < d.length) (e : (nth d i).1 = k) : hasK d k = true := by
  rw [hasK_iff, ← e, nth_get d i h]
  exact List.mem_map.2 ⟨_, List.getElem_mem h, rfl⟩

set_option maxRecDepth 100000 in
set_option maxHeartbeats 2000000 in
theorem find_any {w : World} {v : Value} {l : List M} {rb : Nat} (c1 : w.cell? ⟨rb, 1, none⟩ = some v) (h : Own w v l) (hlen : l.length ≤ 1000) (k1 k2 k3 : Int) :
    Calls Try.prog 42 #[.pointer (some ⟨rb, 0, none⟩), .agg #[.int .i64 k1, .int .i64 k2, .int .i64 k3]] w fun e w' => ∃ r : Int, e = .returned (.int .i64 r) ∧ (hasK l (k1, k2, k3) = true → ∃ i : Nat, i < l.length ∧ r = i ∧ (nth l i).1 = (k1, k2, k3)) ∧ (hasK l (k1, k2, k3) = false → r = -1) ∧ Below w.heap.size w w' := by
  have mixed : Try.prog.follows .mixedOrders = true := by kernel_rfl
  obtain ⟨w0, hw0⟩ : ∃ w0, w0 = w.alloc (.cells #[.int .i64 k1, .int .i64 k2, .int .i64 k3] 30) := ⟨_, rfl⟩
  have s0 : w0.heap.size = w.heap.size + 1 := by rw [hw0]; simp
  have b0 : Below w.heap.size w w0 := by rw [hw0]; exact (Below.refl _ _).alloc (Nat.le_refl _) _
  have xc : ∀ j, j < 3 → w0.cell? ⟨w.heap.size, j, none⟩ = [Value.int .i64 k1, .int .i64 k2, .int .i64 k3][j]? := fun j hj => by
    rw [hw0]
    simp only [World.cell?, heap_alloc_new]
    simp
  have hown0 : Own w0 v l := h.keep (S := fun _ => False) (Fr.of_below b0) (fun _ _ g => g)
  have c1' := (b0.cell (p := ⟨rb, 1, none⟩) (cell_lt c1)).trans c1
  have hrb : rb < w0.heap.size := cell_lt c1'
  obtain ⟨a, cap, rfl, _⟩ := h.rd
  have HW : Hid _ := hw0
  clear hw0
  go_enter Try.func42, Try.ntmps42
  go_wp2_with fail
  rw [← HW.out]
  go_loopw [5] (fun si wr => ∃ k : Nat, k ≤ l.length ∧ si = .int .i64 k ∧ hasK (l.take k) (k1, k2, k3) = false ∧ Below w0.heap.size w0 wr) (fun si _ => l.length - (intOf si).toNat)
  case atStart => exact ⟨0, Nat.zero_le _, rfl, rfl, Below.refl _ _⟩
  case round =>
    obtain ⟨k, hk, rfl, hno, hb⟩ := hrel
    have MF : ∀ W : World, Below w0.heap.size w0 W → W.cell? ⟨w.heap.size, 0, none⟩ = some (.int .i64 k1) ∧ W.cell? ⟨w.heap.size, 1, none⟩ = some (.int .i64 k2) ∧ W.cell? ⟨w.heap.size, 2, none⟩ = some (.int .i64 k3) := fun W hW => by
      have c := fun j (hj : j < 3) => (hW.cell (p := ⟨w.heap.size, j, none⟩) (by rw [s0]; exact Nat.lt_succ_self _)).trans (xc j hj)
      exact ⟨c 0 (by omega), c 1 (by omega), c 2 (by omega)⟩
    have r1 := (hb.cell (p := ⟨rb, 1, none⟩) hrb).trans c1'
    by_cases hlt : k < l.length
    · obtain ⟨g, cap', hv, hg⟩ := own_nonempty hown0 hlt
      obtain ⟨rfl, rfl⟩ : a = some ⟨g, 0, none⟩ ∧ cap = cap' := by simpa using hv
      obtain ⟨x, hx⟩ : ∃ x, nth l k = x := ⟨_, rfl⟩
      obtain ⟨x0, x1, x2, _, _, _⟩ := own_cell (hown0.keep (S := fun _ => False) (Fr.of_below hb) (fun _ _ g => g)) (x := x) hlt (by rw [← nth_get]; exact hx)
      have hsn := hasK_snoc l k (k1, k2, k3) hlt
      rw [hx, hno] at hsn
      simp only [Bool.false_or] at hsn
      have hlt' : (k : Int) < (l.length : Int) := by omega
      have HX : Hid _ := hx
      have HN : Hid _ := hno
      clear hx hv hno
      obtain ⟨⟨b1, b2, b3⟩, b4, b5, b6⟩ := x
      obtain ⟨m0, m1, m2⟩ := MF wr hb
      dsimp only at x0 x1 x2 hsn
      have heq := fun W => eql28 b1 b2 b3 k1 k2 k3 W
      by_cases e : (b1, b2, b3) = ((k1, k2, k3) : K)
      · rw [decide_eq_true e] at heq
        have R1 : ∀ W : World, Below w0.heap.size w0 W → ∃ r : Int, Ending.returned (.int .i64 (k : Int)) = .returned (.int .i64 r) ∧ (hasK l (k1, k2, k3) = true → ∃ i : Nat, i < l.length ∧ r = i ∧ (nth l i).1 = (k1, k2, k3)) ∧ (hasK l (k1, k2, k3) = false → r = -1) ∧ Below w.heap.size w W := fun W hW =>
          ⟨k, rfl, fun _ => ⟨k, hlt, rfl, by rw [HX.out]; exact e⟩, fun g => (by rw [hasK_take hlt (by rw [HX.out]; exact e)] at g; cases g), b0.trans (hW.mono (by omega))⟩
        have RA : Aside _ := R1
        clear e R1 hsn MF
        go_wp2_with fail
        go_quiet (fail)
        go_wp2_with fail
        go_ret
        exact RA.out _ (below_drewN hb _)
      · rw [decide_eq_false e] at heq hsn
        have HSN : Hid _ := hsn
        clear e hsn MF
        go_wp2_with fail
        go_quiet (fail)
        go_wp2_with fail
        go_roundw
        case rel => exact ⟨k + 1, by omega, by go_num, HSN.out, below_drewN hb _⟩
        case measure => simp [intOf]; omega
    · have hkd : k = l.length := by omega
      subst hkd
      rw [List.take_length] at hno
      have hgt : ¬ ((l.length : Int) < (l.length : Int)) := by omega
      have HN : Hid _ := hno
      clear MF hno
      go_wp2
      go_ret
      exact ⟨_, rfl, fun g => (by rw [HN.out] at g; cases g), fun _ => rfl, b0.trans (hb.mono (by omega))⟩
end Go.Proofs.Ytjkcdkoomipfkaa
