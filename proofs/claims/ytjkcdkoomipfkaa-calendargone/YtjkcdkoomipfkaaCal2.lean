/- Proved: the contract of a calendar's find. -/
import Derived.Test.YtjkcdkoomipfkaaCal1
import Derived.Test.YtjkcdkoomipfkaaRef1
namespace Go.Proofs.Ytjkcdkoomipfkaa
open Go.RowKit Go.Sort Go.Lib
set_option linter.unusedVariables false

theorem pgN_int (day : Nat) (t : Int) (ht : 0 ≤ t) : (t / (day : Int)).tmod 8 = (pgN day t : Int) := by
  obtain ⟨T, rfl⟩ := Int.eq_ofNat_of_zero_le ht
  have e : ((T : Int) / (day : Int)) = ((T / day : Nat) : Int) := by norm_cast
  rw [e, Int.tmod_eq_emod_of_nonneg (Int.natCast_nonneg _)]
  unfold pgN
  simp

set_option maxRecDepth 100000 in
set_option maxHeartbeats 1000000 in
theorem cfind_any {w : World} {qb room day : Nat} {vs : Nat → Value} {s : List M} (h : IsC w qb room day vs s) (k : K) (hk : vt k.1 = true) :
    Calls Try.prog 35 #[.pointer (some ⟨qb, 0, none⟩), kv k] w fun e w' => e = .returned (.tuple #[.int .i64 (pgN day k.1), .int .i64 (pos (pg day (pgN day k.1) s) k), .bool (hasK s k)]) ∧ Below w.heap.size w w' := by
  have mixed : Try.prog.follows .mixedOrders = true := by kernel_rfl
  obtain ⟨k1, k2, k3⟩ := k
  have hk1 : 0 ≤ k1 ∧ k1 ≤ 1125899906842624 := by
    unfold vt at hk
    simp only [decide_eq_true_eq] at hk
    omega
  have hlen := h.len
  have hrm := h.rm
  have hd1 := h.d1
  have hd2 := h.d2
  obtain ⟨p, hp⟩ : ∃ p, pgN day k1 = p := ⟨_, rfl⟩
  have hp8 : p < 8 := by rw [← hp]; exact pgN_lt _ _
  have hz := hasK_pg s day (k1, k2, k3)
  dsimp only at hz ⊢
  rw [hp] at hz ⊢
  rw [← hz]
  have hpl : (pg day p s).length ≤ 1000 := by have := pg_len_le day p s; omega
  have hps := h.srt.pg day p
  obtain ⟨w0, hw0⟩ : ∃ w0, w0 = w.alloc (.cells #[.int .i64 k1, .int .i64 k2, .int .i64 k3] 30) := ⟨_, rfl⟩
  have s0 : w0.heap.size = w.heap.size + 1 := by rw [hw0]; simp
  have b0 : Below w.heap.size w w0 := by rw [hw0]; exact (Below.refl _ _).alloc (Nat.le_refl _) _
  have c0 : w0.cell? ⟨w.heap.size, 0, none⟩ = some (.int .i64 k1) := by rw [hw0]; simp only [World.cell?, heap_alloc_new]; rfl
  have c1 : w0.cell? ⟨w.heap.size, 1, none⟩ = some (.int .i64 k2) := by rw [hw0]; simp only [World.cell?, heap_alloc_new]; rfl
  have c2 : w0.cell? ⟨w.heap.size, 2, none⟩ = some (.int .i64 k3) := by rw [hw0]; simp only [World.cell?, heap_alloc_new]; rfl
  have h0 := h.below b0
  have q1 := h0.c1
  have hql : qb < w0.heap.size := h0.lt qb (.inl rfl)
  have hne : ((day : Int) == 0) = false := by simp; omega
  have hne2 : ¬ ((day : Int) = 0) := by omega
  have hmod := pgN_int day k1 hk1.1
  rw [hp] at hmod
  clear hp hz
  obtain ⟨a, cap, hv, _⟩ := (h.own p hp8).rd
  have HB : ∀ W, Below w0.heap.size w0 W → Calls Try.prog 56 #[vs p, kv (k1, k2, k3), .func (.func 57) #[] #[]] W fun e w' => e = .returned (.tuple #[.int .i64 (pos (pg day p s) (k1, k2, k3)), .bool (hasK (pg day p s) (k1, k2, k3))]) ∧ ∃ q os, w' = grow (W.drewN q) os := fun W hW =>
    bsf_any ((h0.own p hp8).keep (S := fun _ => False) (Fr.of_below hW) (fun _ _ g => g)) hps hpl (k1, k2, k3)
  have qp := h0.cp p hp8
  rw [hv] at HB qp
  have HB' : Aside _ := HB
  have hp8' : (p : Int) < 8 := by omega
  have HW : Hid _ := hw0
  have hBw : w.heap.size < w0.heap.size := by omega
  clear hw0 h h0 hps hv HB
  go_enter Try.func35, Try.ntmps35
  go_wp2_with fail
  rw [← HW.out]
  go_quiet (fail)
  go_wp2_with fail
  obtain ⟨w1, hw1⟩ : ∃ w1, w0.drewN nq = w1 := ⟨_, rfl⟩
  have b1 : Below w0.heap.size w0 w1 := by rw [← hw1]; exact below_drewN (Below.refl _ _) nq
  rw [hw1]
  have e1 : w1.heap.size = w0.heap.size := by rw [← hw1]; rfl
  have B1 := fun n os => HB'.out _ (below_grown (n := n) (os := os) b1 b1.size)
  have X0 := fun n os => cell_grown (n := n) (os := os) (w := w1) (a := ⟨w.heap.size, 0, none⟩) (by rw [e1]; exact hBw) ((b1.cell (p := ⟨w.heap.size, 0, none⟩) hBw).trans c0)
  have X1 := fun n os => cell_grown (n := n) (os := os) (w := w1) (a := ⟨w.heap.size, 1, none⟩) (by rw [e1]; exact hBw) ((b1.cell (p := ⟨w.heap.size, 1, none⟩) hBw).trans c1)
  have X2 := fun n os => cell_grown (n := n) (os := os) (w := w1) (a := ⟨w.heap.size, 2, none⟩) (by rw [e1]; exact hBw) ((b1.cell (p := ⟨w.heap.size, 2, none⟩) hBw).trans c2)
  have Y := fun n os => cell_grown (n := n) (os := os) (w := w1) (a := ⟨qb, 2 + p, none⟩) (by rw [e1]; exact hql) ((b1.cell (p := ⟨qb, 2 + p, none⟩) hql).trans qp)
  have B0 : Aside _ := b0.trans (b1.mono b0.size)
  clear hw1 b1 c0 c1 c2 q1 qp b0 HB'
  go_quiet_grown (first | (go_at_call 56; refine Calls.grown_of (B1 _ _)))
  go_wp2
  refine bodyPost_ret (v := .tuple #[.int .i64 p, .int .i64 (pos (pg day p s) (k1, k2, k3)), .bool (hasK (pg day p s) (k1, k2, k3))]) (by simp [results, Try.results35, go_sem]) rfl ⟨rfl, ?_⟩
  exact below_grown B0.out (by rw [e1, s0]; omega) _ _
end Go.Proofs.Ytjkcdkoomipfkaa
