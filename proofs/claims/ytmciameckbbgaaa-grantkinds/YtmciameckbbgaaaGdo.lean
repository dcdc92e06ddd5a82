/- Proved: contracts of the document's many and Decide, and of the laws' rising. -/
import Derived.Test.YtmciameckbbgaaaInt
namespace Go.Proofs.Ytmciameckbbgaaa
open Go.RowKit Go.Shelf
open D (Gr dec many Up)
set_option linter.unusedVariables false

theorem many_step {q : List Int} {t : Int} : ∀ {k : Nat}, k ≤ q.length → (∀ j, j < k → q.getD j 0 ≤ t) → k ≤ many q t := by
  induction q with
  | nil => intro k h _; simp at h; omega
  | cons x r ih =>
    intro k h hj
    cases k with
    | zero => exact Nat.zero_le _
    | succ k =>
      have h0 : x ≤ t := by simpa using hj 0 (by omega)
      unfold D.many
      rw [if_pos h0]
      have := ih (k := k) (by simpa using h) (fun j hjk => by simpa using hj (j + 1) (by omega))
      omega
theorem many_eq {q : List Int} {t : Int} {k : Nat} (hk : k ≤ q.length) (h : ∀ j, j < k → q.getD j 0 ≤ t) (h2 : k < q.length → t < q.getD k 0) : many q t = k := by
  have h3 := many_step hk h
  rcases Nat.lt_or_ge k (many q t) with g | g
  · exfalso
    have h4 := D.many_lt (q := q) (t := t) g
    have h5 := D.many_le q t
    have := h2 (by omega)
    omega
  · omega
set_option maxHeartbeats 1000000 in
theorem many_any {N : Nat → Prop} {w : World} {a : Option Addr} {c n : Nat} {q : List Int} (hq : RdN cI N w a q) (hn : q.length = n) (hm : n ≤ 100000) (t : Int) :
    Calls Try.prog 15 #[.slice a n c, .int .i64 t] w fun e w' => e = .returned (.int .i64 (many q t)) ∧ w = w' := by
  have HQ : Hid (RdN cI N w a q) := hq
  have HN : Hid (q.length = n) := hn
  clear hq hn
  go_enter Try.func15, Try.ntmps15
  go_wp2
  go_loop [5] (fun s5 => ∃ k : Nat, s5 = .int .i64 k ∧ k ≤ n ∧ Hid (∀ j, j < k → q.getD j 0 ≤ t)) (fun s5 => n - (intOf s5).toNat)
  case atStart => exact ⟨0, rfl, Nat.zero_le _, fun j hj => by omega⟩
  case round =>
    obtain ⟨k, rfl, hk, HK⟩ := hrel
    by_cases hlt : k < n
    · have hlt' : (k : Int) < (n : Int) := by omega
      obtain ⟨x, hx⟩ : ∃ x, q.getD k 0 = x := ⟨_, rfl⟩
      obtain ⟨b, off, rfl, hb, cx⟩ := RdN.int HQ.out (by rw [HN.out]; exact hlt) hx
      by_cases hxt : x ≤ t
      · have HK2 : Hid (∀ j, j < k + 1 → q.getD j 0 ≤ t) := fun j hj => by
          by_cases e : j = k
          · rw [e, hx]; exact hxt
          · exact HK.out j (by omega)
        clear hx
        go_wp2
        go_round
        case rel => exact ⟨k + 1, by go_num, by omega, HK2.out⟩
        case measure => simp [intOf]; omega
      · have HE : Hid (many q t = k) := many_eq (by rw [HN.out]; omega) HK.out (fun _ => by rw [hx]; omega)
        clear hx
        go_wp2
        go_ret
        exact ⟨by rw [HE.out]; rfl, rfl⟩
    · obtain rfl : k = n := by omega
      have HE : Hid (many q t = k) := many_eq (by rw [HN.out]; omega) HK.out (fun g => by rw [HN.out] at g; omega)
      go_wp2
      go_ret
      exact ⟨by rw [HE.out]; rfl, rfl⟩
/-- What Decide answers. -/
abbrev grV (g : Gr) : Value := .tuple #[.bool g.is, .int .i64 g.t, .int .i64 g.n]
end Go.Proofs.Ytmciameckbbgaaa
