/- Proved: the contract of Least of the document's net. -/
import Derived.Test.YtkngokpildoljaaDn1
namespace Go.Proofs.Ytkngokpildoljaa
open Go.RowKit Go.Shelf
set_option linter.unusedVariables false

/-- A row of numbers that a call has made since w. -/
def RowI (w W : World) (v : Value) (xs : List Int) : Prop := W.ownsRow w.heap.size 3 1 v xs.length (xs.map (Value.int .i64)) ∧ Below w.heap.size w W
theorem RowI.empty (w : World) : RowI w (w.alloc (.cells #[] 3)) (.slice (some ⟨w.heap.size, 0, none⟩) 0 0) [] := ⟨World.ownsRow_made w #[] 0 (Nat.le_refl _) (Nat.zero_le _) (by simp), al w _⟩
/-- One number more. -/
theorem push_I {w W : World} {v : Value} {xs : List Int} (h : RowI w W v xs) (x : Int) (hl : xs.length ≤ 100000) (ty : TypeId) :
    ∃ a' c' w', (Builtin.append_ #[66, 66] ty #[v, .slice (some ⟨W.heap.size, 0, none⟩) 1 1]).run Try.prog (W.alloc (.cells #[.int .i64 x] 3)) = .ok (.slice a' (xs.length + 1) c') w' ∧ RowI w w' (.slice a' (xs.length + 1) c') (xs ++ [x]) := by
  obtain ⟨i0, hi0, hz0, hz1, hz2⟩ := info_parts info3
  have hsz := h.2.size
  obtain ⟨v', w', hr, h3, h4, h5, h6⟩ := run_append_own_at (P := Try.prog) (W.alloc (.cells #[.int .i64 x] 3)) w.heap.size 66 ty 3 i0 _ 1 8 Try.underlying66 hi0 hz0 hz1 hz2 rfl (by decide) v xs.length (xs.map (Value.int .i64)) (h.1.alloc _) ⟨W.heap.size, 0, none⟩ 1 1 [.int .i64 x] rfl (cell_one_new _ _ _) (by simp [Value.oneCell']) (by unfold maxLen; omega) (by omega) (by simp; omega)
  have hro : RowI w w' v' (xs ++ [x]) := by
    refine ⟨by simpa using h3, (Below.on h.2 (al W (.cells #[.int .i64 x] 3))).grown h4 (by simp; omega) (fun k e => row_ge h.1 e)⟩
  obtain ⟨a', c', rfl, _⟩ := rdI_of_row hro.1
  rw [show (xs ++ [x]).length = xs.length + 1 by simp] at hr hro
  exact ⟨a', c', w', hr, hro⟩

set_option maxRecDepth 100000 in
set_option maxHeartbeats 2000000 in
theorem dleast_any {n room : Nat} {L : Ln} {tb pu : Nat} {w : World} {F : Nat → Prop} (h : DN n room L tb pu w F) :
    Calls Try.prog 25 #[.pointer (some ⟨tb, 0, none⟩)] w fun e w' => e = .returned (.int .i64 (lstI (tms (itms n L)))) ∧ Below w.heap.size w w' := by
  have A2 : ∀ W a c, RdI W a (tms (itms n L)) → Calls Try.prog 34 #[.slice a (tms (itms n L)).length c] W fun e w' => e = .returned (.int .i64 (lstI (tms (itms n L)))) ∧ W = w' := fun W a c hr => refleast_any W a c _ hr (by have := tms_le (itms n L); have := itms_len h.ok; omega)
  rw [← lkF_all] at A2 ⊢
  have h64 := nn_le h.ok
  have HD : Hid (∀ W, Below w.heap.size w W → DN n room L tb pu W F) := fun W hW => h.below hW
  have HF : Hid (∀ k, (lkF n L k).length ≤ k * 16) := fun k => lkF_len h.ok k
  have HK : Hid (∀ k, (lk n L k).length ≤ 16) := fun k => lk_len h.ok k
  obtain ⟨nn, hnn⟩ : ∃ nn, n * n = nn := ⟨_, rfl⟩
  have HLS : Hid (∀ W, Below w.heap.size w W → W.cell? ⟨tb, 2, none⟩ = some (.slice (some ⟨pu, 0, none⟩) nn nn) ∧ ∀ k, k < nn → ∃ a c, W.cell? ⟨pu, k, none⟩ = some (.slice a (lk n L k).length c) ∧ RdT W a (lk n L k)) := fun W hW => by
    have hd := HD.out W hW
    refine ⟨by rw [← hnn]; exact hd.c2, fun k hk => ?_⟩
    obtain ⟨a, c, k1, _, k3⟩ := hd.ls k (by omega)
    exact ⟨a, c, k1, k3.rd⟩
  simp only [hnn] at h64 A2 ⊢
  have h64' : (nn : Int) ≤ 64 := by omega
  have HA2 : Hid _ := A2
  clear h hnn A2
  go_enter Try.func25, Try.ntmps25
  go_wp2
  go_loopw [3, 4] (fun s3 s4 wr => ∃ k : Nat, k ≤ nn ∧ s4 = .int .i64 k ∧ Hid (RowI w wr s3 (tms (lkF n L k)))) (fun _ s4 _ => nn - (intOf s4).toNat)
  case atStart => exact ⟨0, Nat.zero_le _, rfl, RowI.empty w⟩
  case round =>
    obtain ⟨k, hk, rfl, HR⟩ := hrel
    obtain ⟨c2, hls⟩ := HLS.out _ HR.out.2
    by_cases hlt : k < nn
    · have hlt' : (k : Int) < (nn : Int) := by omega
      clear hls
      have h1 := HF.out k
      have h2 := HK.out k
      have HSU : Hid _ := lkF_succ n L k
      have HL1 : Hid (∀ W, Below w.heap.size w W → W.cell? ⟨tb, 2, none⟩ = some (.slice (some ⟨pu, 0, none⟩) nn nn) ∧ ∃ a c, W.cell? ⟨pu, k, none⟩ = some (.slice a (lk n L k).length c) ∧ RdT W a (lk n L k)) := fun W hW => ⟨(HLS.out W hW).1, (HLS.out W hW).2 k hlt⟩
      obtain ⟨M, hM⟩ : ∃ M, lkF n L k = M := ⟨_, rfl⟩
      obtain ⟨l, hl⟩ : ∃ l, lk n L k = l := ⟨_, rfl⟩
      simp only [hM, hl] at h1 h2 HSU HL1 HR
      have h2' : (l.length : Int) ≤ 16 := by omega
      have HM16 : Hid (M.length ≤ 1008) := by show _ ≤ _; omega
      clear hM hl h1
      go_wp2
      go_loopw [3, 5] (fun s3 s5 wr => ∃ i : Nat, i ≤ l.length ∧ s5 = .int .i64 i ∧ Hid (RowI w wr s3 (tms (M ++ l.take i)))) (fun _ s5 _ => l.length - (intOf s5).toNat)
      case atStart => exact ⟨0, Nat.zero_le _, rfl, by show RowI _ _ _ _; simpa using HR.out⟩
      case round =>
        obtain ⟨i, hi, rfl, HR⟩ := hrel
        obtain ⟨c2, sa, sc, k1, hrd⟩ := HL1.out _ HR.out.2
        by_cases hil : i < l.length
        · have hil' : (i : Int) < (l.length : Int) := by omega
          obtain ⟨x, hx⟩ : ∃ x, nthT l i = x := ⟨_, rfl⟩
          obtain ⟨b1, o1, hsa, hb1, x0, x1, x2, x3, x4, x5, x6, x7⟩ := RdT.cells hrd hil hx
          subst hsa
          have hts := take_succ' l i hil
          rw [hx] at hts
          have hca : tms (M ++ l.take (i + 1)) = if (x.k != 2) = true then tms (M ++ l.take i) ++ [x.t] else tms (M ++ l.take i) := by rw [hts, ← List.append_assoc, tms_app]
          have hcl := tms_le (M ++ l.take i)
          rw [List.length_append, List.length_take] at hcl
          obtain ⟨zs, hzs⟩ : ∃ zs, tms (M ++ l.take i) = zs := ⟨_, rfl⟩
          rw [hzs] at hca hcl HR
          have HCA : Hid _ := hca
          have hzl : zs.length ≤ 100000 := by have := HM16.out; omega
          clear hts hx hzs hca hcl hrd
          by_cases hk2 : x.k = 2
          · have d1 : (x.k != 2) = false := by simpa using hk2
            go_wp2
            go_roundw
            case rel => exact ⟨i + 1, by omega, by go_num, by show RowI _ _ _ _; rw [HCA.out, d1]; exact HR.out⟩
            case measure => simp [intOf]; omega
          · have d1 : (x.k != 2) = true := by simpa using hk2
            obtain ⟨a', c', w4, hrun, h4⟩ := push_I HR.out x.t hzl 66
            have H4 : Hid _ := h4
            clear h4 hzl
            go_wp2_with (at_builtin; refine wpList_append_run _ rfl _ _ 66 rfl rfl rfl hrun ?_)
            go_roundw
            case rel => exact ⟨i + 1, by omega, by go_num, by show RowI _ _ _ _; rw [HCA.out, if_pos d1]; exact H4.out⟩
            case measure => simp [intOf]; omega
        · obtain rfl : i = l.length := by omega
          clear hrd
          go_wp2
          go_roundw
          case rel => exact ⟨k + 1, by omega, by go_num, by show RowI _ _ _ _; rw [HSU.out]; have := HR.out; rw [List.take_length] at this; exact this⟩
          case measure => simp [intOf]; omega
    · obtain rfl : k = nn := by omega
      clear hls
      obtain ⟨a', c', hs3, hrd⟩ := rdI_of_row HR.out.1
      subst hs3
      have A3 := HA2.out _ a' c' hrd
      have HB : Hid _ := HR.out.2
      obtain ⟨zs, hzs⟩ : ∃ zs, tms (lkF n L k) = zs := ⟨_, rfl⟩
      rw [hzs] at A3 ⊢
      obtain ⟨r, hr⟩ : ∃ r, lstI zs = r := ⟨_, rfl⟩
      rw [hr] at A3
      have HRR : Hid (lstI (tms (lkF n L k)) = r) := by show _ = _; rw [hzs, hr]
      clear hrd hzs hr
      go_wp2_with (go_at_call 34; refine A3.mono ?_; rintro e w5 ⟨rfl, rfl⟩; clear A3)
      go_ret
      exact ⟨by rw [HRR.out]; rfl, HB.out⟩
end Go.Proofs.Ytkngokpildoljaa
