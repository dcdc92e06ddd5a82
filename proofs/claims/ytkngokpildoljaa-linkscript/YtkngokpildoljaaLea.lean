/- Proved: the contract of a net's Least. -/
import Derived.Test.YtkngokpildoljaaCar
import Derived.Test.YtkngokpildoljaaLst
namespace Go.Proofs.Ytkngokpildoljaa
open Go.RowKit Go.Shelf
set_option linter.unusedVariables false
attribute [local go_sem] Oper.semAt_some

/-- The times of what is no bound. -/
def tms (l : List It) : List Int := (l.filter (fun x => x.k != 2)).map (·.t)
theorem tms_app (l : List It) (x : It) : tms (l ++ [x]) = if (x.k != 2) = true then tms l ++ [x.t] else tms l := by
  unfold tms
  by_cases h : (x.k != 2) = true
  · rw [if_pos h]; simp [h]
  · rw [if_neg h]; simp at h; simp [h]
theorem tms_le (l : List It) : (tms l).length ≤ l.length := by unfold tms; rw [List.length_map]; exact List.length_filter_le _ _
theorem row0 {W : World} {b0 : Nat} {e : TypeId} {size : Nat} {v : Value} {k : Nat} {xs : List Value} (h : W.ownsRow b0 e size v k xs) : W.ownsRow 0 e size v k xs := by
  refine ⟨h.1, ?_⟩
  rcases h.2 with g | ⟨g, cap, cur, h1, h2, h3⟩
  · exact .inl g
  · exact .inr ⟨g, cap, cur, h1, Nat.zero_le _, h3⟩
theorem row_ge {W : World} {b0 : Nat} {e : TypeId} {size : Nat} {v : Value} {k : Nat} {xs : List Value} (h : W.ownsRow b0 e size v k xs) {g : Nat} (hg : v.ownBlock = some g) : b0 ≤ g := by
  rcases h.2 with ⟨rfl, _⟩ | ⟨g', cap, cur, rfl, h2, _⟩
  · simp [Value.ownBlock] at hg
  · simp [Value.ownBlock] at hg; omega
theorem info3 : (Try.prog.info? 3).map (fun i => (i.zero, i.size, i.bytes)) = some (some (.int .i64 0), 1, 8) := by kernel_rfl

set_option maxRecDepth 100000 in
set_option maxHeartbeats 2000000 in
theorem least_net {n room : Nat} {L : Ln} {B : Nat} {w : World} (h : Nt n room L B w) :
    Calls Try.prog 24 #[.pointer (some ⟨B, 0, none⟩)] w fun e w' => e = .returned (.int .i64 (lstI (tms (itms n L)))) ∧ Below w.heap.size w w' := by
  have A1 := fun W => items_any W B
  have hlen := itms_len h.ok
  have hB := h.lt
  have A2 : ∀ W a c, RdI W a (tms (itms n L)) → Calls Try.prog 33 #[.slice a (tms (itms n L)).length c] W fun e w' => e = .returned (.int .i64 (lstI (tms (itms n L)))) ∧ W = w' := fun W a c hr => least_any W a c _ hr (by have := tms_le (itms n L); omega)
  obtain ⟨xs, hxs⟩ : ∃ xs, itms n L = xs := ⟨_, rfl⟩
  simp only [hxs] at hlen A2 ⊢
  have HXS : Hid _ := hxs
  have HA2 : Hid _ := A2
  obtain ⟨q, hq⟩ : ∃ q, lstI (tms xs) = q := ⟨_, rfl⟩
  simp only [hq] at HA2 ⊢
  clear hxs A2 hq
  obtain ⟨i0, hi, hz0, hz1, hz2⟩ := info_parts info3
  refine (callsIn_wide (n := 5)).1 ?_
  refine callsIn_of_wp_marks Try.func24 rfl trivial ?_ rfl
  simp only [Try.ntmps24, List.size_toArray, List.length_cons, List.length_nil, Nat.reduceAdd, Nat.reduceSub, Array.replicate_succ, Array.replicate_zero, List.push_toArray, List.append_toArray, List.nil_append, List.cons_append]
  gi_wp2_with (refine ⟨trivial, ?_⟩; gi_at_call 32; refine (callsIn_wide.2 (A1 _)).mono ?_; rintro e w' ⟨rfl, rfl⟩)
  have bO0 := Boxed.new w 66 (.slice none 0 0)
  have c2 := cell_new (w.alloc (.cells #[.slice none 0 0] 66)) (.pointer (some ⟨B, 0, none⟩)) 23
  simp only [World.size_alloc] at c2
  have hB0 : Below w.heap.size w ((w.alloc (.cells #[.slice none 0 0] 66)).alloc (.cells #[.pointer (some ⟨B, 0, none⟩)] 23)) := Below.on (al w _) (al _ _)
  obtain ⟨W4, hW4⟩ : ∃ W4, (w.alloc (.cells #[.slice none 0 0] 66)).alloc (.cells #[.pointer (some ⟨B, 0, none⟩)] 23) = W4 := ⟨_, rfl⟩
  have s4 : W4.heap.size = w.heap.size + 2 := by rw [← hW4]; simp
  have bO : Boxed W4 w.heap.size 66 (.slice none 0 0) := by rw [← hW4]; exact (Below.heap_alloc _ _ _ (by simp)).trans bO0
  have d2 : W4.cell? ⟨w.heap.size + 1, 0, none⟩ = some (.pointer (some ⟨B, 0, none⟩)) := by rw [← hW4]; exact c2.1
  rw [hW4] at hB0 ⊢
  have hN4 := h.below hB0
  have IT := iter_stops 4 (by omega) (w.heap.size + 1) B n room L (fun b => b < w.heap.size ∨ b = w.heap.size + 1) (.inl hB) (.inr rfl) W4 d2 hN4
  rw [HXS.out] at IT
  clear c2 hW4 h hN4 bO0
  refine wpIn_rangeFunc_ownH rfl (by omega) (gf := 37) (lb := #[.pointer (some ⟨w.heap.size + 1, 0, none⟩)]) rfl trivial (enters_of Try.func37 (by kernel_rfl) rfl) IT
    (fun h k => h.trans k) (fun W l o o' h1 h2 h3 h4 => KpS.put (w := W4) (fun b hb => by omega) W l o o' h1 h2 h3 h4) (Below.refl _ _) (fun _ => rfl)
    (fun pre W => ((∃ v, Boxed W w.heap.size 66 v ∧ W.ownsRow (w.heap.size + 2) 3 1 v (tms pre).length ((tms pre).map (Value.int .i64)) ∧ True) ∧ True) ∧ Below w.heap.size w W)
    (fun _ _ _ => False)
    (OwnFrom.and (OwnFrom.and (Own.from (holdsRow_own (w.heap.size + 2) w.heap.size 66 3 1 (fun pre : List It => (tms pre).length) (fun pre => (tms pre).map (Value.int .i64)) (fun pre v => True)) _) (Own.from (fun s A B row hs hg hr => trivial) _)) (ownFrom_below (Nat.le_refl _) (by omega)))
    (fun _ _ _ _ _ hs _ _ => hs)
    ⟨⟨⟨_, bO, World.ownsRow_nil _ _ _ _, trivial⟩, trivial⟩, hB0⟩
    (fun x a' W => ∃ b, w.heap.size < b ∧ BoxT W b x ∧ a' = { tmps := #[.pointer (some ⟨B, 0, none⟩), undef, .int .i64 0, .pointer (some ⟨w.heap.size, 0, none⟩), .pointer (some ⟨b, 0, none⟩), .bool (x.k != 2), .pointer (some ⟨B, 0, none⟩), .func (.func 37) #[] #[.pointer (some ⟨w.heap.size + 1, 0, none⟩)], iv x, .bool (x.k != 2), undef, undef, undef, undef, undef, undef, undef, undef, undef, undef], defers := [] })
    (fun x a' s A A' row hs hg hr => by
      obtain ⟨b, hb, hx, e⟩ := hs
      exact ⟨b, hb, hx.own hg (fun r e => (hr r e).2), e⟩) ?assign ?body ?done ?stop
  case assign =>
    rintro l pre x W K ⟨⟨⟨v, hv, hrow, _⟩, _⟩, hb⟩ hK
    have hz : w.heap.size < W.heap.size := clt hv.cell
    have hrow2 := hrow.alloc (.cells (ics x) 35)
    have hv2 : Boxed (W.alloc (.cells (ics x) 35)) w.heap.size 66 v := (Below.heap_alloc _ _ _ hz).trans hv
    have HK : Hid _ := hK
    have H1 : Hid _ := hrow2
    have H2 : Hid _ := hv2
    clear hK hrow2 hv2
    simp only [List.zip_toArray, List.zip_cons_cons]
    gi_wp2
    exact HK.out _ _ (keepsAlloc _ _ _) ((KpS.refl _ _).alloc _) ⟨⟨⟨v, H2.out, H1.out, trivial⟩, trivial⟩, Below.on hb (al _ _)⟩ ⟨_, hz, BoxT.new W x, rfl⟩
  case body =>
    rintro l pre x a' W _ _ ⟨⟨⟨v, hv, hrow, _⟩, _⟩, hb⟩ ⟨b, hbl, hbx, rfl⟩ hlt
    obtain ⟨e0, e1, e2, e3, e4, e5, e6, e7⟩ := hbx.cells
    have hca := tms_app pre x
    have hcl := tms_le pre
    by_cases hk : x.k = 2
    · have d1 : (x.k != 2) = false := by simpa using hk
      rw [if_neg (by rw [d1]; simp)] at hca
      rw [d1]
      have HV : Hid _ := hv
      have HR : Hid _ := hrow
      have HCA : Hid _ := hca
      clear hv hrow hca
      gi_wp2
      exact ⟨KeepsFrom.refl _ _, KpS.refl _ _, ⟨⟨⟨v, HV.out, by rw [HCA.out]; exact HR.out, trivial⟩, trivial⟩, hb⟩⟩
    · have d1 : (x.k != 2) = true := by simpa using hk
      rw [if_pos d1] at hca
      rw [d1]
      have HCA : Hid _ := hca
      have hc := hv.cell
      have hsz : w.heap.size < W.heap.size := clt hc
      have hbsz : b < W.heap.size := hbx.lt
      obtain ⟨zs, hzs⟩ : ∃ zs, tms pre = zs := ⟨_, rfl⟩
      rw [hzs] at HCA hrow hcl
      clear hca hzs hbx
      gi_wp2_with (gi_at_builtin; refine wpListIn_append_own _ rfl _ _ 66 rfl (w.heap.size + 2) 3 i0 (.int .i64 0) 1 8 Try.underlying66 hi hz0 hz1 hz2 rfl (by decide) _ _ _ rfl (hrow.alloc _) ⟨W.heap.size, 0, none⟩ 1 1 [.int .i64 x.t] rfl rfl (cell_one_new _ _ _) (by simp [Value.oneCell']) (by unfold maxLen; omega) (by omega) (by simp; omega) ?_; intro v' w1 hown' hgrow _; obtain ⟨g', cap', rfl⟩ := ownsRow_succ hown'; obtain ⟨hv1, hv2, hr2, hk2, hb2⟩ := hv.appended (n₀ := 0) (by decide) (row0 hrow) (Nat.zero_le _) (Nat.zero_le _) (row0 hown') hgrow; have hc1 := hv1.cell; have hf1 := hv1.frozen)
      have hrow2 := hown'.kept (grownBy_setCell' w1 w.heap.size (.slice (some ⟨g', 0, none⟩) (zs.length + 1) cap')) (.inr (hv1.not_row (by decide) (row0 hown')).symm)
      have hbl : ∀ k, k < w.heap.size ∨ k = w.heap.size + 1 → k < W.heap.size → (w1.setCell ⟨w.heap.size, 0, none⟩ (.slice (some ⟨g', 0, none⟩) (zs.length + 1) cap')).heap[k]? = W.heap[k]? := by
        intro k hk hkW
        rw [Below.heap_setCell _ _ _ _ (by show k ≠ w.heap.size; omega), hgrow.block k (by simp; omega) (fun e => by have := row_ge hrow (g := k) e.symm; omega), Below.heap_alloc _ _ _ (by omega)]
      have hs1 := hgrow.size
      simp only [World.size_alloc] at hs1
      refine ⟨hk2.from _, ⟨by simp; omega, fun k hk hkW => hbl k hk hkW⟩, ⟨⟨_, hv2, by rw [HCA.out]; simpa using hrow2, trivial⟩, trivial⟩, ?_⟩
      exact ⟨hgrow.os.trans hb.os, hgrow.tape.trans hb.tape, hgrow.output.trans hb.output, by have := hb.size; simp; omega, fun k hk => (hbl k (.inl hk) (by omega)).trans (hb.block k hk)⟩
  case done =>
    rintro D ys W hD rfl ⟨⟨⟨v, hv, hrow, _⟩, _⟩, hb⟩ hK
    have hc := hv.cell
    obtain ⟨a', c', rfl, hR⟩ := rdI_of_row hrow
    gi_wp2_with (refine ⟨trivial, ?_⟩; gi_at_call 33; refine (callsIn_wide.2 (Hid.out HA2 _ _ _ hR)).mono ?_; rintro e w' ⟨rfl, rfl⟩)
    refine ⟨by simp, .inl ⟨_, _, rfl, run_takeDeferred hK, ?_⟩⟩
    exact ⟨_, results_tmp rfl _ _ _, rfl, hb.trans (belowK_b (w := w) (Nat.le_refl _) W D _ _ (by omega) hK rfl rfl)⟩
  case stop =>
    rintro D c pre W _ _ h _
    exact h.elim
end Go.Proofs.Ytkngokpildoljaa
