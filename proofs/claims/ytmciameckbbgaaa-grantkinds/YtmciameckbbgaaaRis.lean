/- Proved: the contract of the laws' rising. -/
import Derived.Test.YtmciameckbbgaaaGdo
namespace Go.Proofs.Ytmciameckbbgaaa
open Go.RowKit Go.Shelf
open D (Gr dec many Up)
set_option linter.unusedVariables false

/-- What of the first k stands in order. -/
def ris (l : List Int) : Nat → List Int
  | 0 => []
  | k + 1 => if (ris l k).length = 0 ∨ l.getD k 0 ≥ (ris l k).getD ((ris l k).length - 1) 0 then ris l k ++ [l.getD k 0] else ris l k
theorem ris_len (l : List Int) : ∀ k, (ris l k).length ≤ k
  | 0 => Nat.le_refl _
  | k + 1 => by
    have := ris_len l k
    unfold ris
    split
    · simp; omega
    · omega
theorem up_app {l : List Int} {x : Int} (h : Up l) (hx : l.length = 0 ∨ x ≥ l.getD (l.length - 1) 0) : Up (l ++ [x]) := by
  intro i j hij hj
  simp at hj
  have g1 : ∀ i, i < l.length → (l ++ [x]).getD i 0 = l.getD i 0 := fun i hi => by simp [List.getElem?_append_left, hi]
  have g2 : (l ++ [x]).getD l.length 0 = x := by simp
  by_cases e : j < l.length
  · rw [g1 i (by omega), g1 j e]; exact h i j hij e
  · obtain rfl : j = l.length := by omega
    rw [g1 i hij, g2]
    rcases hx with h0 | h0
    · omega
    · by_cases e2 : i = l.length - 1
      · rw [e2]; exact h0
      · have := h i (l.length - 1) (by omega) (by omega)
        omega
theorem ris_up (l : List Int) : ∀ k, Up (ris l k)
  | 0 => fun i j _ hj => by simp [ris] at hj
  | k + 1 => by
    have ih := ris_up l k
    unfold ris
    split
    · exact up_app ih (by assumption)
    · exact ih
set_option maxRecDepth 100000 in
set_option maxHeartbeats 2000000 in
theorem rising_any {N : Nat → Prop} {w : World} {a : Option Addr} {c n : Nat} {l : List Int} (hl : RdN cI N w a l) (hn : l.length = n) (hm : n ≤ 100000) :
    Calls Try.prog 9 #[.slice a n c] w fun e w' => ∃ oa oc, e = .returned (.slice oa (ris l (min n 100)).length oc) ∧ Ri w w' (.slice oa (ris l (min n 100)).length oc) (ris l (min n 100)) := by
  have HL : Hid (RdN cI N w a l) := hl
  have HN : Hid (l.length = n) := hn
  have H0 : Hid _ := Ri.made (Below.refl w.heap.size w)
  clear hl hn
  go_enter Try.func9, Try.ntmps9
  go_wp2
  go_loopw [3, 4] (fun s3 s4 wr => ∃ (k m : Nat) (oa : Option Addr) (oc : Nat), s4 = .int .i64 k ∧ k ≤ min n 100 ∧ s3 = .slice oa m oc ∧ Hid ((ris l k).length = m) ∧ Hid (Ri w wr (.slice oa m oc) (ris l k))) (fun _ s4 _ => min n 100 - (intOf s4).toNat)
  case atStart => exact ⟨0, 0, _, _, rfl, Nat.zero_le _, rfl, (rfl : (ris l 0).length = 0), H0.out⟩
  case round =>
    obtain ⟨k, m, oa, oc, rfl, hk, rfl, HM, HR⟩ := hrel
    by_cases hlt : k < min n 100
    · have hlt1 : (k : Int) < (n : Int) := by omega
      have hlt2 : (k : Int) < 100 := by omega
      have hkn : k < n := by omega
      have hk1 : k < 100 := by omega
      have hmk : m ≤ k := by rw [← HM.out]; exact ris_len l k
      obtain ⟨x, hx⟩ : ∃ x, l.getD k 0 = x := ⟨_, rfl⟩
      obtain ⟨b, off, rfl, hb, cx⟩ := RdN.int (HL.out.below HR.out.bel) (by rw [HN.out]; exact hkn) hx
      have HLC : Hid (∀ W, Below w.heap.size w W → W.cell? ⟨b, off + k, none⟩ = some (.int .i64 x)) := fun W hW => by
        obtain ⟨b2, o2, e, _, c2⟩ := RdN.int (HL.out.below hW) (by rw [HN.out]; exact hkn) hx
        simp at e
        obtain ⟨rfl, rfl⟩ := e
        exact c2
      have HS : Hid (ris l (k + 1) = if m = 0 ∨ x ≥ (ris l k).getD (m - 1) 0 then ris l k ++ [x] else ris l k) := by
        show _ = _
        rw [← hx, ← HM.out]
        rfl
      obtain ⟨Z, hZ⟩ : ∃ Z, ris l k = Z := ⟨_, rfl⟩
      rw [hZ] at HM HR HS
      clear hZ hx
      by_cases hm0 : m = 0
      · obtain ⟨Y, hY⟩ : ∃ Y, Z ++ [x] = Y := ⟨_, rfl⟩
        have HY : Hid (Z ++ [x] = Y ∧ Y.length = m + 1) := ⟨hY, by rw [← hY, List.length_append, HM.out]; rfl⟩
        have HYE : Hid (ris l (k + 1) = Y) := (HS.out.trans (if_pos (.inl hm0))).trans hY
        subst hm0
        clear HS hY
        go_wp2_with fail
        go_region
        all_goals
          obtain ⟨W1, hW1⟩ : ∃ W1, wr.drew = W1 := ⟨_, rfl⟩
          have H1 : Hid (Ri w W1 (.slice oa 0 oc) Z) := by rw [← hW1]; exact HR.out.on (Below.refl _ _).drew
          have c1 := HLC.out _ H1.out.bel
          rw [hW1]
          clear hW1
          go_wp2_with (at_builtin; refine wpList_append_R tyI (fun _ => True) _ rfl (.tmp 32) (.tmp 37) rfl (.slice oa 0 oc) _ _ Z [x] rfl rfl ((Hid.out H1).on (al _ _)).own (RdN.newAt cI _ _ _ _ _ (by simp) rfl trivial) (by rw [HM.out]; omega) (by simp) Y HY.out.1 ?_; intro oa2 oc2 w3 ho hmw; have H3 : Hid (Ri w w3 (.slice oa2 Y.length oc2) Y) := ((Hid.out H1).on (al _ _)).app ho hmw; clear ho hmw)
          go_roundw
          case rel =>
            refine ⟨k + 1, 0 + 1, oa2, oc2, by go_num, by omega, by rw [HY.out.2], ?_, ?_⟩
            · rw [HYE.out]; exact HY.out.2
            · have := H3.out
              rw [HY.out.2] at this
              rw [HYE.out]
              exact this
          case measure => simp [intOf]; omega
      · obtain ⟨y, hy⟩ : ∃ y, Z.getD (m - 1) 0 = y := ⟨_, rfl⟩
        have hm1 : m - 1 < Z.length := by rw [HM.out]; omega
        have hmI : ¬ (m : Int) = 0 := by omega
        have hmB : ((m : Int) == 0) = false := by simpa using hmI
        have HLZ : Hid (∀ W, Ri w W (.slice oa m oc) Z → ∃ g goff, oa = some ⟨g, goff, none⟩ ∧ W.cell? ⟨g, goff + (m - 1), none⟩ = some (.int .i64 y)) := fun W h => by
          obtain ⟨g, goff, e, _, c⟩ := RdN.int h.rd hm1 hy
          exact ⟨g, goff, e, c⟩
        obtain ⟨g, goff, rfl, cy⟩ := HLZ.out _ HR.out
        have hme : (m : Int) - 1 = ((m - 1 : Nat) : Int) := by omega
        obtain ⟨m1, hm1'⟩ : ∃ m1, m - 1 = m1 := ⟨_, rfl⟩
        rw [hm1'] at cy hme
        have hm1n : m1 < m := by omega
        have hm1I : (m1 : Int) < (m : Int) := by omega
        rw [hy] at HS
        clear hy hm1 hm1'
        by_cases hxy : x ≥ y
        · have hxy2 : y ≤ x := hxy
          obtain ⟨Y, hY⟩ : ∃ Y, Z ++ [x] = Y := ⟨_, rfl⟩
          have HY : Hid (Z ++ [x] = Y ∧ Y.length = m + 1) := ⟨hY, by rw [← hY, List.length_append, HM.out]; rfl⟩
          have HYE : Hid (ris l (k + 1) = Y) := (HS.out.trans (if_pos (.inr hxy))).trans hY
          clear HS hY
          go_wp2_with fail
          go_quiet (fail)
          all_goals
            generalize hW1 : World.drewN wr _ = W1
            have H1 : Hid (Ri w W1 (.slice (some ⟨g, goff, none⟩) m oc) Z) := by rw [← hW1]; exact HR.out.on ⟨rfl, rfl, rfl, Nat.le_refl _, fun _ _ => rfl⟩
            have c1 := HLC.out _ H1.out.bel
            clear hW1
            go_wp2_with (at_builtin; refine wpList_append_R tyI (fun _ => True) _ rfl (.tmp 32) (.tmp 37) rfl (.slice (some ⟨g, goff, none⟩) m oc) _ _ Z [x] rfl rfl ((Hid.out H1).on (al _ _)).own (RdN.newAt cI _ _ _ _ _ (by simp) rfl trivial) (by rw [HM.out]; omega) (by simp) Y HY.out.1 ?_; intro oa2 oc2 w3 ho hmw; have H3 : Hid (Ri w w3 (.slice oa2 Y.length oc2) Y) := ((Hid.out H1).on (al _ _)).app ho hmw; clear ho hmw)
            go_roundw
            case rel =>
              refine ⟨k + 1, m + 1, oa2, oc2, by go_num, by omega, by rw [HY.out.2], ?_, ?_⟩
              · rw [HYE.out]; exact HY.out.2
              · have := H3.out
                rw [HY.out.2] at this
                rw [HYE.out]
                exact this
            case measure => simp [intOf]; omega
        · have hxy2 : ¬ y ≤ x := hxy
          have HYE : Hid (ris l (k + 1) = Z) := HS.out.trans (if_neg (fun h => by rcases h with h | h; exact hm0 h; exact hxy h))
          clear HS
          go_wp2_with fail
          go_quiet (fail)
          go_wp2_with fail
          go_roundw
          case rel =>
            refine ⟨k + 1, m, _, oc, by go_num, by omega, rfl, ?_, ?_⟩
            · rw [HYE.out]; exact HM.out
            · rw [HYE.out]; exact HR.out.on ⟨rfl, rfl, rfl, Nat.le_refl _, fun _ _ => rfl⟩
          case measure => simp [intOf]; omega
    · have hke : min n 100 = k := by omega
      have HKE : Hid (min n 100 = k) := hke
      by_cases g : k = n
      · subst g
        have g1 : ¬ (k : Int) < (k : Int) := by omega
        clear hke
        go_wp2_with fail
        go_ret
        exact ⟨oa, oc, by rw [HKE.out, HM.out]; rfl, by rw [HKE.out, HM.out]; exact HR.out⟩
      · obtain rfl : k = 100 := by omega
        have g1 : (100 : Int) < (n : Int) := by omega
        have g2 : 100 < n := by omega
        clear hke
        go_wp2_with fail
        go_ret
        exact ⟨oa, oc, by rw [HKE.out, HM.out]; rfl, by rw [HKE.out, HM.out]; exact HR.out⟩
end Go.Proofs.Ytmciameckbbgaaa
