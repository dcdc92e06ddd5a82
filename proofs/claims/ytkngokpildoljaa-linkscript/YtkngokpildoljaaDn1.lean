/- Proved: contracts of All, Carried, Least of the document's net. -/
import Derived.Test.YtkngokpildoljaaDn0
namespace Go.Proofs.Ytkngokpildoljaa
open Go.RowKit Go.Shelf
set_option linter.unusedVariables false

def lkF (n : Nat) (L : Ln) (k : Nat) : List It := (List.range k).flatMap (lk n L)
theorem lkF_succ (n : Nat) (L : Ln) (k : Nat) : lkF n L (k + 1) = lkF n L k ++ lk n L k := by simp [lkF, List.range_succ]
theorem lkF_row (n : Nat) (L : Ln) (a : Nat) (ha : lkF n L (a * n) = rowsF n L a) : ∀ b, b ≤ n → lkF n L (a * n + b) = rowsF n L a ++ colsF L a b := by
  intro b
  induction b with
  | zero => intro _; rw [Nat.add_zero, ha]; simp [colsF]
  | succ b ih =>
    intro hb
    rw [← Nat.add_assoc, lkF_succ, ih (by omega), lk_at L (by omega), colsF_succ, List.append_assoc]
theorem lkF_rows (n : Nat) (L : Ln) (a : Nat) : lkF n L (a * n) = rowsF n L a := by
  induction a with
  | zero => simp [lkF, rowsF]
  | succ a ih => rw [Nat.succ_mul, lkF_row n L a ih n (Nat.le_refl _), rowsF_succ]
theorem lkF_all (n : Nat) (L : Ln) : lkF n L (n * n) = itms n L := lkF_rows n L n
theorem lk_len {n room : Nat} {L : Ln} (h : OKL n room L) (k : Nat) : (lk n L k).length ≤ 16 := Nat.le_trans (h.len _ _) h.r16
theorem lkF_len {n room : Nat} {L : Ln} (h : OKL n room L) (k : Nat) : (lkF n L k).length ≤ k * 16 := by
  induction k with
  | zero => simp [lkF]
  | succ k ih =>
    rw [lkF_succ, List.length_append]
    have := lk_len h k
    omega
theorem nn_le {n room : Nat} {L : Ln} (h : OKL n room L) : n * n ≤ 64 := by
  have := Nat.mul_le_mul h.n8 h.n8
  omega

set_option maxRecDepth 100000 in
set_option maxHeartbeats 1000000 in
theorem dall_any {n room : Nat} {L : Ln} {tb pu : Nat} {w : World} {F : Nat → Prop} (h : DN n room L tb pu w F) :
    Calls Try.prog 21 #[.pointer (some ⟨tb, 0, none⟩)] w fun e w' => e = .returned (.int .i64 (itms n L).length) ∧ Below w.heap.size w w' := by
  rw [← lkF_all]
  have h64 := nn_le h.ok
  have HLS : Hid _ := h.ls
  have c2 := h.c2
  have HF : Hid (∀ k, (lkF n L k).length ≤ k * 16) := fun k => lkF_len h.ok k
  have HK : Hid (∀ k, (lk n L k).length ≤ 16) := fun k => lk_len h.ok k
  obtain ⟨nn, hnn⟩ : ∃ nn, n * n = nn := ⟨_, rfl⟩
  simp only [hnn] at c2 h64 HLS ⊢
  have h64' : (nn : Int) ≤ 64 := by omega
  clear h hnn
  go_enter Try.func21, Try.ntmps21
  go_wp2
  go_loop [3, 4] (fun s3 s4 => ∃ k : Nat, k ≤ nn ∧ s4 = .int .i64 k ∧ s3 = .int .i64 ((lkF n L k).length : Int)) (fun _ s4 => nn - (intOf s4).toNat)
  case atStart => exact ⟨0, Nat.zero_le _, rfl, rfl⟩
  case round =>
    obtain ⟨k, hk, rfl, rfl⟩ := hrel
    by_cases hlt : k < nn
    · have hlt' : (k : Int) < (nn : Int) := by omega
      obtain ⟨sa, sc, k1, k2, k3⟩ := HLS.out k hlt
      have h1 := HF.out k
      have h2 := HK.out k
      have h3 := congrArg List.length (lkF_succ n L k)
      rw [List.length_append] at h3
      obtain ⟨m, hm⟩ : ∃ m, (lkF n L k).length = m := ⟨_, rfl⟩
      obtain ⟨l, hl⟩ : ∃ l, (lk n L k).length = l := ⟨_, rfl⟩
      rw [hm] at h1 h3 ⊢
      rw [hl] at h2 h3 k1
      have h1' : (m : Int) ≤ 1024 := by omega
      have h2' : (l : Int) ≤ 16 := by omega
      have H3 : Hid _ := h3
      clear k2 k3 h1 h2 h3 hm hl
      go_wp2
      go_round
      case rel => exact ⟨k + 1, by omega, by go_num, by rw [H3.out]; go_num⟩
      case measure => simp [intOf]; omega
    · obtain rfl : k = nn := by omega
      go_wp2
      go_ret
      exact ⟨rfl, Below.refl _ _⟩

set_option maxRecDepth 100000 in
set_option maxHeartbeats 2000000 in
theorem dcarried_any {n room : Nat} {L : Ln} {tb pu : Nat} {w : World} {F : Nat → Prop} (h : DN n room L tb pu w F) (co : Int) :
    Calls Try.prog 23 #[.pointer (some ⟨tb, 0, none⟩), .int .i64 co] w fun e w' => e = .returned (.int .i64 (carr co (itms n L))) ∧ Below w.heap.size w w' := by
  rw [← lkF_all]
  have h64 := nn_le h.ok
  have HLS : Hid _ := h.ls
  have c2 := h.c2
  have HF : Hid (∀ k, (lkF n L k).length ≤ k * 16) := fun k => lkF_len h.ok k
  have HK : Hid (∀ k, (lk n L k).length ≤ 16) := fun k => lk_len h.ok k
  obtain ⟨nn, hnn⟩ : ∃ nn, n * n = nn := ⟨_, rfl⟩
  simp only [hnn] at c2 h64 HLS ⊢
  have h64' : (nn : Int) ≤ 64 := by omega
  clear h hnn
  go_enter Try.func23, Try.ntmps23
  go_wp2
  go_loop [5, 6] (fun s5 s6 => ∃ k : Nat, k ≤ nn ∧ s6 = .int .i64 k ∧ s5 = .int .i64 (carr co (lkF n L k) : Int)) (fun _ s6 => nn - (intOf s6).toNat)
  case atStart => exact ⟨0, Nat.zero_le _, rfl, rfl⟩
  case round =>
    obtain ⟨k, hk, rfl, rfl⟩ := hrel
    by_cases hlt : k < nn
    · have hlt' : (k : Int) < (nn : Int) := by omega
      obtain ⟨sa, sc, k1, k2, k3⟩ := HLS.out k hlt
      have hrd := k3.rd
      have h1 := HF.out k
      have h2 := HK.out k
      have HSU : Hid _ := lkF_succ n L k
      obtain ⟨M, hM⟩ : ∃ M, lkF n L k = M := ⟨_, rfl⟩
      obtain ⟨l, hl⟩ : ∃ l, lk n L k = l := ⟨_, rfl⟩
      simp only [hM, hl] at h1 h2 HSU k1 hrd ⊢
      have HRD : Hid _ := hrd
      have h2' : (l.length : Int) ≤ 16 := by omega
      have HM16 : Hid (M.length ≤ 1008) := by show _ ≤ _; omega
      clear k2 k3 hrd hM hl h1
      go_wp2
      go_loop [5, 7] (fun s5 s7 => ∃ i : Nat, i ≤ l.length ∧ s7 = .int .i64 i ∧ s5 = .int .i64 (carr co (M ++ l.take i) : Int)) (fun _ s7 => l.length - (intOf s7).toNat)
      case atStart => exact ⟨0, Nat.zero_le _, rfl, by simp⟩
      case round =>
        obtain ⟨i, hi, rfl, rfl⟩ := hrel
        by_cases hil : i < l.length
        · have hil' : (i : Int) < (l.length : Int) := by omega
          obtain ⟨x, hx⟩ : ∃ x, nthT l i = x := ⟨_, rfl⟩
          obtain ⟨b1, o1, hsa, hb1, x0, x1, x2, x3, x4, x5, x6, x7⟩ := RdT.cells HRD.out hil hx
          subst hsa
          have hts := take_succ' l i hil
          rw [hx] at hts
          have hca : carr co (M ++ l.take (i + 1)) = carr co (M ++ l.take i) + (if isC co x = true then 1 else 0) := by rw [hts, ← List.append_assoc, carr_app]
          have hcl := carr_le co (M ++ l.take i)
          rw [List.length_append, List.length_take] at hcl
          obtain ⟨c, hc⟩ : ∃ c, carr co (M ++ l.take i) = c := ⟨_, rfl⟩
          rw [hc] at hca hcl ⊢
          have hc' : (c : Int) ≤ 1024 := by have := HM16.out; omega
          have HCA : Hid _ := hca
          clear hts hx hc hca hcl
          by_cases hk2 : x.k = 2
          · have d1 : (x.k != 2) = false := by simpa using hk2
            have i0 : isC co x = false := by simp [isC, d1]
            go_wp2
            go_round
            case rel => exact ⟨i + 1, by omega, by go_num, by rw [HCA.out, i0]; rfl⟩
            case measure => simp [intOf]; omega
          · have d1 : (x.k != 2) = true := by simpa using hk2
            by_cases hco : x.co = co
            · have d2 : (x.co == co) = true := by simpa using hco
              have i0 : isC co x = true := by simp [isC, d1, d2]
              go_wp2
              go_round
              case rel => exact ⟨i + 1, by omega, by go_num, by rw [HCA.out, i0]; go_num⟩
              case measure => simp [intOf]; omega
            · have d2 : (x.co == co) = false := by simpa using hco
              have i0 : isC co x = false := by simp [isC, d2]
              go_wp2
              go_round
              case rel => exact ⟨i + 1, by omega, by go_num, by rw [HCA.out, i0]; rfl⟩
              case measure => simp [intOf]; omega
        · obtain rfl : i = l.length := by omega
          go_wp2
          go_round
          case rel => exact ⟨k + 1, by omega, by go_num, by rw [HSU.out, List.take_length]⟩
          case measure => simp [intOf]; omega
    · obtain rfl : k = nn := by omega
      go_wp2
      go_ret
      exact ⟨rfl, Below.refl _ _⟩
end Go.Proofs.Ytkngokpildoljaa
