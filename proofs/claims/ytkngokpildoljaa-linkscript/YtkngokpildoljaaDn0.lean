/- Proved: how the document's net lies in memory; contracts of its is, Len, Room. -/
import Derived.Test.YtkngokpildoljaaRwt
namespace Go.Proofs.Ytkngokpildoljaa
open Go.RowKit Go.Shelf
set_option linter.unusedVariables false

/-- What the k-th of n * n links has. -/
def lk (n : Nat) (L : Ln) (k : Nat) : List It := L ((k / n : Nat) : Int) ((k % n : Nat) : Int)
theorem lk_at {n : Nat} (L : Ln) {a b : Nat} (hb : b < n) : lk n L (a * n + b) = L a b := by
  unfold lk
  have h1 : (a * n + b) / n = a := by
    rw [Nat.mul_comm, Nat.mul_add_div (by omega), Nat.div_eq_of_lt hb, Nat.add_zero]
  have h2 : (a * n + b) % n = b := by
    rw [Nat.mul_comm, Nat.mul_add_mod, Nat.mod_eq_of_lt hb]
  rw [h1, h2]
theorem at_lt {n a b : Nat} (ha : a < n) (hb : b < n) : a * n + b < n * n := by
  have : (a + 1) * n ≤ n * n := Nat.mul_le_mul_right n ha
  rw [Nat.succ_mul] at this
  omega
def RdG (w : World) (G : Nat → Prop) (a : Option Addr) (l : List It) : Prop :=
  l ≠ [] → ∃ b off, a = some ⟨b, off, none⟩ ∧ G b ∧ b < w.heap.size ∧ ∀ i, i < l.length → ∀ c, c < 8 → w.cell? ⟨b, off + i * 8 + c, none⟩ = (encT (nthT l i))[c]?
theorem RdG.rd {w : World} {G : Nat → Prop} {a : Option Addr} {l : List It} (h : RdG w G a l) : RdT w a l := fun g => by
  obtain ⟨b, off, e, _, hb, hc⟩ := h g
  exact ⟨b, off, e, hb, hc⟩
theorem RdG.keep {S G : Nat → Prop} {w w' : World} {a : Option Addr} {l : List It} (h : RdG w G a l) (hf : Fr S w w') (hd : ∀ k, G k → ¬ S k) : RdG w' G a l := fun g => by
  obtain ⟨b, off, e, hg, hb, hc⟩ := h g
  exact ⟨b, off, e, hg, Nat.lt_of_lt_of_le hb hf.size, fun i hi c h8 => (hf.cell (p := ⟨b, off + i * 8 + c, none⟩) hb (hd b hg)).trans (hc i hi c h8)⟩
theorem RdG.wide {w : World} {G G2 : Nat → Prop} {a : Option Addr} {l : List It} (h : RdG w G a l) (hd : ∀ k, G k → G2 k) : RdG w G2 a l := fun g => by
  obtain ⟨b, off, e, hg, hb, hc⟩ := h g
  exact ⟨b, off, e, hd b hg, hb, hc⟩
/-- The document's net. -/
structure DN (n room : Nat) (L : Ln) (tb pu : Nat) (w : World) (F : Nat → Prop) : Prop where
  c0 : w.cell? ⟨tb, 0, none⟩ = some (.int .i64 n)
  c1 : w.cell? ⟨tb, 1, none⟩ = some (.int .i64 room)
  c2 : w.cell? ⟨tb, 2, none⟩ = some (.slice (some ⟨pu, 0, none⟩) (n * n) (n * n))
  ls : ∀ k, k < n * n → ∃ a c, w.cell? ⟨pu, k, none⟩ = some (.slice a (lk n L k).length c) ∧ w.frozen? ⟨pu, k, none⟩ = false ∧ RdG w (fun j => F j ∧ j ≠ tb ∧ j ≠ pu) a (lk n L k)
  cp : ∀ k, k < n * n → ∀ a c, w.cell? ⟨pu, k, none⟩ = some (.slice a (lk n L k).length c) → (lk n L k).length ≤ c
  ft : F tb
  fp : F pu
  n1 : tb ≠ pu
  lt : ∀ k, F k → k < w.heap.size
  ok : OKL n room L
theorem DN.keep {S : Nat → Prop} {n room : Nat} {L : Ln} {tb pu : Nat} {w w' : World} {F : Nat → Prop} (h : DN n room L tb pu w F) (hf : Fr S w w') (hd : ∀ k, F k → ¬ S k) : DN n room L tb pu w' F where
  c0 := (hf.cell (p := ⟨tb, 0, none⟩) (h.lt _ h.ft) (hd _ h.ft)).trans h.c0
  c1 := (hf.cell (p := ⟨tb, 1, none⟩) (h.lt _ h.ft) (hd _ h.ft)).trans h.c1
  c2 := (hf.cell (p := ⟨tb, 2, none⟩) (h.lt _ h.ft) (hd _ h.ft)).trans h.c2
  ls := fun k hk => by
    obtain ⟨a, c, h1, h2, h3⟩ := h.ls k hk
    exact ⟨a, c, (hf.cell (p := ⟨pu, k, none⟩) (h.lt _ h.fp) (hd _ h.fp)).trans h1, (hf.frozen (p := ⟨pu, k, none⟩) (h.lt _ h.fp) (hd _ h.fp)).trans h2, h3.keep hf (fun j hj => hd j hj.1)⟩
  cp := fun k hk a c hc => h.cp k hk a c ((hf.cell (p := ⟨pu, k, none⟩) (h.lt _ h.fp) (hd _ h.fp)).symm.trans hc)
  ft := h.ft
  fp := h.fp
  n1 := h.n1
  lt := fun k hk => Nat.lt_of_lt_of_le (h.lt k hk) hf.size
  ok := h.ok
theorem DN.below {n room : Nat} {L : Ln} {tb pu : Nat} {w w' : World} {F : Nat → Prop} (h : DN n room L tb pu w F) (hb : Below w.heap.size w w') : DN n room L tb pu w' F := h.keep (Fr.of_below (S := fun _ => False) hb) (fun _ _ g => g)

theorem drN {B : Nat} {a w : World} (h : Below B a w) (n : Nat) : Below B a (w.drewN n) := ⟨h.os, h.tape, h.output, h.size, h.block⟩
theorem dis_any (w : World) (tb n : Nat) (a b : Int) (h0 : w.cell? ⟨tb, 0, none⟩ = some (.int .i64 n)) :
    Calls Try.prog 29 #[.pointer (some ⟨tb, 0, none⟩), .int .i64 a, .int .i64 b] w fun e w' => e = .returned (.bool (isL n a b)) ∧ w = w' := by
  unfold isL isF
  by_cases h1 : 0 ≤ a
  · have d1 : decide (0 ≤ a) = true := by simpa using h1
    by_cases h2 : a < (n : Int)
    · have d2 : decide (a < (n : Int)) = true := by simpa using h2
      by_cases h3 : 0 ≤ b
      · have d3 : decide (0 ≤ b) = true := by simpa using h3
        by_cases h4 : b < (n : Int)
        · have d4 : decide (b < (n : Int)) = true := by simpa using h4
          by_cases h5 : a = b
          · have d5 : (a != b) = false := by simpa using h5
            rw [d1, d2, d3, d4, d5]
            go_enter Try.func29, Try.ntmps29
            go_wp2
            go_ret
            exact ⟨by simp [h5], rfl⟩
          · have d5 : (a != b) = true := by simpa using h5
            rw [d1, d2, d3, d4, d5]
            go_enter Try.func29, Try.ntmps29
            go_wp2
            go_ret
            exact ⟨rfl, rfl⟩
        · have d4 : decide (b < (n : Int)) = false := by simpa using h4
          rw [d1, d2, d3, d4]
          go_enter Try.func29, Try.ntmps29
          go_wp2
          go_ret
          exact ⟨rfl, rfl⟩
      · have d3 : decide (0 ≤ b) = false := by simpa using h3
        rw [d1, d2, d3]
        go_enter Try.func29, Try.ntmps29
        go_wp2
        go_ret
        exact ⟨rfl, rfl⟩
    · have d2 : decide (a < (n : Int)) = false := by simpa using h2
      rw [d1, d2]
      go_enter Try.func29, Try.ntmps29
      go_wp2
      go_ret
      exact ⟨rfl, rfl⟩
  · have d1 : decide (0 ≤ a) = false := by simpa using h1
    rw [d1]
    go_enter Try.func29, Try.ntmps29
    go_wp2
    go_ret
    exact ⟨rfl, rfl⟩
/-- The place of a link: what is reckoned for it. -/
theorem place_of {n a b : Nat} (hn : n ≤ 8) (ha : a < n) (hb : b < n) : ∃ p q : Nat, a * n = p ∧ p + b = q ∧ q < n * n ∧ (a : Int) * (n : Int) = (p : Int) ∧ (p : Int) + (b : Int) = (q : Int) ∧ IntKind.i64.wrap ((a : Int) * (n : Int)) = (p : Int) ∧ IntKind.i64.wrap ((p : Int) + (b : Int)) = (q : Int) ∧ p ≤ 64 ∧ q < 64 ∧ n * n ≤ 64 := by
  have h1 := at_lt ha hb
  have h2 : n * n ≤ 8 * 8 := Nat.mul_le_mul hn hn
  refine ⟨a * n, a * n + b, rfl, rfl, h1, by simp, by simp, ?_, ?_, by omega, by omega, by omega⟩
  · rw [show (a : Int) * (n : Int) = ((a * n : Nat) : Int) by simp, IntKind.wrap_i64]; omega
  · rw [show ((a * n : Nat) : Int) + (b : Int) = ((a * n + b : Nat) : Int) by simp, IntKind.wrap_i64]; omega
set_option maxRecDepth 100000 in
set_option maxHeartbeats 1000000 in
theorem dlen_any {n room : Nat} {L : Ln} {tb pu : Nat} {w : World} {F : Nat → Prop} (h : DN n room L tb pu w F) (a b : Int) :
    Calls Try.prog 17 #[.pointer (some ⟨tb, 0, none⟩), .int .i64 a, .int .i64 b] w fun e w' => e = .returned (.int .i64 (L a b).length) ∧ Below w.heap.size w w' := by
  have I := dis_any w tb n a b h.c0
  obtain ⟨x, hx⟩ : ∃ x, isL n a b = x := ⟨_, rfl⟩
  rw [hx] at I
  cases x
  · rw [h.ok.no a b hx]
    clear hx h
    go_enter Try.func17, Try.ntmps17
    go_wp2_with (go_at_call 29; refine I.mono ?_; rintro e w' ⟨rfl, rfl⟩; clear I)
    go_ret
    exact ⟨rfl, Below.refl _ _⟩
  · obtain ⟨⟨h1, h2⟩, ⟨h3, h4⟩, _⟩ := (isL_iff n a b).1 hx
    have h8 := h.ok.n8
    obtain ⟨k, rfl⟩ := Int.eq_ofNat_of_zero_le h1
    obtain ⟨m, rfl⟩ := Int.eq_ofNat_of_zero_le h3
    obtain ⟨p, q, e1, e2, hq, g1, g2, g3, g4, g5, g6, g7⟩ := place_of h8 (a := k) (b := m) (by omega) (by omega)
    obtain ⟨sa, sc, k1, k2, k3⟩ := h.ls q hq
    rw [show lk n L q = L k m by rw [← e2, ← e1]; exact lk_at L (by omega)] at k1
    obtain ⟨l, hl⟩ : ∃ l, (L k m).length = l := ⟨_, rfl⟩
    rw [hl] at k1 ⊢
    have c0 := h.c0
    have c2 := h.c2
    obtain ⟨nn, hnn⟩ : ∃ nn, n * n = nn := ⟨_, rfl⟩
    rw [hnn] at c2 hq g7
    have hq' : (q : Int) < (nn : Int) := by omega
    clear h hl hx k2 k3 e1 e2 hnn
    go_enter Try.func17, Try.ntmps17
    go_wp2_with (go_at_call 29; refine I.mono ?_; rintro e w' ⟨rfl, rfl⟩; clear I)
    go_quiet (fail)
    go_wp2
    go_ret
    exact ⟨rfl, drN (Below.refl _ _) _⟩
set_option maxRecDepth 100000 in
set_option maxHeartbeats 1000000 in
theorem droom_any {n room : Nat} {L : Ln} {tb pu : Nat} {w : World} {F : Nat → Prop} (h : DN n room L tb pu w F) (a b : Int) :
    Calls Try.prog 19 #[.pointer (some ⟨tb, 0, none⟩), .int .i64 a, .int .i64 b] w fun e w' => e = .returned (.int .i64 (roomN n room L a b)) ∧ Below w.heap.size w w' := by
  have I := dis_any w tb n a b h.c0
  unfold roomN
  obtain ⟨x, hx⟩ : ∃ x, isL n a b = x := ⟨_, rfl⟩
  rw [hx] at I ⊢
  cases x
  · rw [if_neg (by simp)]
    clear hx h
    go_enter Try.func19, Try.ntmps19
    go_wp2_with (go_at_call 29; refine I.mono ?_; rintro e w' ⟨rfl, rfl⟩; clear I)
    go_ret
    exact ⟨rfl, Below.refl _ _⟩
  · rw [if_pos rfl]
    obtain ⟨⟨h1, h2⟩, ⟨h3, h4⟩, _⟩ := (isL_iff n a b).1 hx
    have h8 := h.ok.n8
    have h16 := h.ok.r16
    have hln := h.ok.len a b
    obtain ⟨k, rfl⟩ := Int.eq_ofNat_of_zero_le h1
    obtain ⟨m, rfl⟩ := Int.eq_ofNat_of_zero_le h3
    obtain ⟨p, q, e1, e2, hq, g1, g2, g3, g4, g5, g6, g7⟩ := place_of h8 (a := k) (b := m) (by omega) (by omega)
    obtain ⟨sa, sc, k1, k2, k3⟩ := h.ls q hq
    rw [show lk n L q = L k m by rw [← e2, ← e1]; exact lk_at L (by omega)] at k1
    obtain ⟨l, hl⟩ : ∃ l, (L k m).length = l := ⟨_, rfl⟩
    rw [hl] at k1 hln ⊢
    have c0 := h.c0
    have c1 := h.c1
    have c2 := h.c2
    obtain ⟨nn, hnn⟩ : ∃ nn, n * n = nn := ⟨_, rfl⟩
    rw [hnn] at c2 hq g7
    have hq' : (q : Int) < (nn : Int) := by omega
    have e9 : IntKind.i64.wrap ((room : Int) - (l : Int)) = (room : Int) - (l : Int) := by rw [IntKind.wrap_i64]; omega
    clear h hl hx k2 k3 e1 e2 hnn
    go_enter Try.func19, Try.ntmps19
    go_wp2_with (go_at_call 29; refine I.mono ?_; rintro e w' ⟨rfl, rfl⟩; clear I)
    go_quiet (fail)
    go_wp2
    go_ret
    exact ⟨rfl, drN (Below.refl _ _) _⟩
end Go.Proofs.Ytkngokpildoljaa
