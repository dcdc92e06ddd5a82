/- Proved: the contract of slices.Insert at messages. -/
import Derived.Test.YtjkcdkoomipfkaaRaw
import Derived.Test.YtjkcdkoomipfkaaOne
namespace Go.Proofs.Ytjkcdkoomipfkaa
open Go.RowKit Go.Sort Go.Lib
set_option linter.unusedVariables false

theorem info32s : (Try.prog.info? 32).map (·.size) = some 6 := by kernel_rfl
/-- One message in a block of its own, as a call lays it. -/
def Box1 (w : World) (vb : Nat) (m : M) : Prop := w.heap[vb]? = some (.cells (enc m).toArray 32 (0, 0))
theorem Box1.cells {w : World} {vb : Nat} {m : M} (h : Box1 w vb m) : ∀ j u, (enc m)[j]? = some u → w.cell? ⟨vb, j, none⟩ = some u := by
  intro j u hj
  unfold Box1 at h
  simp only [World.cell?, h]
  simpa using hj
theorem Box1.lt {w : World} {vb : Nat} {m : M} (h : Box1 w vb m) : vb < w.heap.size := (Array.getElem?_eq_some_iff.1 h).1

set_option maxRecDepth 100000 in
set_option maxHeartbeats 2000000 in
theorem sins_shift {w : World} {g n cap i vb : Nat} {l : List M} {m : M} (h : Own w (.slice (some ⟨g, 0, none⟩) n cap) l) (hlen : l.length ≤ 1000) (hi : i < l.length) (hroom : l.length + 1 ≤ cap) (hb : Box1 w vb m) (hne : vb ≠ g) :
    Calls Try.prog 36 #[.slice (some ⟨g, 0, none⟩) n cap, .int .i64 i, .slice (some ⟨vb, 0, none⟩) 1 1] w fun e w' =>
      e = .returned (.slice (some ⟨g, 0, none⟩) (n + 1) cap) ∧ Own w' (.slice (some ⟨g, 0, none⟩) (n + 1) cap) (l.take i ++ [m] ++ l.drop i) ∧ Fr (fun k => k = g) w w' := by
  have mixed : Try.prog.follows .mixedOrders = true := by kernel_rfl
  obtain ⟨cur, hg, hfit, row1, hr1, hs1, hfin⟩ := own_insert (m := m) h (Nat.le_of_lt hi) hroom
  obtain ⟨rfl, _, _, hc1, hc2, _, _⟩ := h.block
  unfold maxLen at hc2
  have hcap : cap ≤ 9223372036854775807 := by omega
  have hsz : (flat (l.drop i)).length = (l.length - i) * 6 := by rw [flat_len, List.length_drop]
  have hcellsD := h.cellsFrom i
  have hov : ∀ lb cb, (callFunc 58 #[.slice (some ⟨vb, 0, none⟩) 1 1, .slice (some ⟨g, (i + 1) * 6, none⟩) lb cb]).run Try.prog w = .ok (.value (.bool false)) w := fun lb cb => by
    rw [run_callFunc_extern Try.func58 (by kernel_rfl) (by kernel_rfl) (by kernel_rfl) (e := Extern.SlicesOverlaps.overlaps #[44, 44] #[4]) (by kernel_rfl),
      Lib.run_overlaps_apart w 44 4 32 Try.underlying44 6 Try.sizeOf32 ⟨vb, 0, none⟩ ⟨g, (i + 1) * 6, none⟩ 1 1 lb cb hne 32 32 6 cur.size (by unfold World.shape?; rw [hb]; rfl) (by unfold World.shape?; rw [hg]) (by omega) (by unfold World.frozen?; rw [hb]; rfl) (by unfold World.frozen?; rw [hb]; rfl)]
    rfl
  have hcp1 : ∀ ty dc sc, (Builtin.copy_ #[44, 44] ty #[.slice (some ⟨g, (i + 1) * 6, none⟩) (l.length - i) dc, .slice (some ⟨g, i * 6, none⟩) (l.length + 1 - i) sc]).run Try.prog w.drew = .ok (goInt ((l.length - i : Nat) : Int)) (w.drew.setRow g row1) := fun ty dc sc => by
    rw [hr1]
    exact run_copy6 w.drew 44 44 ty 32 g ((i + 1) * 6) (l.length - i) dc ⟨g, i * 6, none⟩ (l.length + 1 - i) sc cur 32 (flat (l.drop i)) Try.underlying44 info32s hg (l.length - i) (by simp only [Nat.min_def]; split <;> omega) hsz (fun j v hj => by rw [Addr.add_lit]; exact hcellsD j v hj) hfit (flat_one_cell _)
  obtain ⟨W1, hW1⟩ : ∃ W1, W1 = w.drew.setRow g row1 := ⟨_, rfl⟩
  have hg1 : W1.heap[g]? = some (.cells row1 32 (0, 0)) := by rw [hW1]; exact setRow_heap w.drew g cur _ 32 _ hg
  have f1 : Fr (fun k => k = g) w W1 := by rw [hW1]; exact (Fr.refl _ w).drew.then (fr_setRow _ _ _)
  have hb1 : Box1 W1 vb m := (f1.block vb hb.lt hne).trans hb
  have hfit2 : i * 6 + (enc m).length ≤ row1.size := by rw [hs1, enc_len]; omega
  obtain ⟨row2, hr2⟩ : ∃ row2, row2 = (row1.toList.take (i * 6) ++ enc m ++ row1.toList.drop (i * 6 + (enc m).length)).toArray := ⟨_, rfl⟩
  rw [← hr2] at hfin
  have hcp2 : ∀ ty dc, (Builtin.copy_ #[44, 44] ty #[.slice (some ⟨g, i * 6, none⟩) (l.length + 1 - i) dc, .slice (some ⟨vb, 0, none⟩) 1 1]).run Try.prog W1 = .ok (goInt 1) (W1.setRow g row2) := fun ty dc => by
    rw [hr2]
    exact run_copy6 W1 44 44 ty 32 g (i * 6) (l.length + 1 - i) dc ⟨vb, 0, none⟩ 1 1 row1 32 (enc m) Try.underlying44 info32s hg1 1 (by simp only [Nat.min_def]; split <;> omega) rfl (fun j v hj => by rw [Addr.add_lit, Nat.zero_add]; exact hb1.cells j v hj) hfit2 (enc_one m)
  have hg2 : (W1.setRow g row2).heap[g]? = some (.cells row2 32 (0, 0)) := setRow_heap W1 g row1 _ 32 _ hg1
  have f2 : Fr (fun k => k = g) w (W1.setRow g row2) := f1.then (fr_setRow _ _ _)
  have hF : Aside _ := hfin _ hg2
  have hf2 : Aside _ := f2
  rw [← hW1] at hcp1
  clear hfin hg2 f2 hb1 f1 hg1 hW1 hr1 hr2 hs1 hfit hfit2 hg hcellsD h hb
  generalize l.length = n at *
  have hz2 : ¬ ((i : Int) = (n : Int)) := by omega
  have hz3 : ¬ ((cap : Int) < (n : Int) + 1) := by omega
  have hw1 : IntKind.i64.wrap ((i : Int) + 1) = (i : Int) + 1 := by rw [IntKind.wrap_i64]; omega
  have hb1 : (0 : Int) ≤ (i : Int) + 1 := by omega
  have hin : i ≤ n := by omega
  have htn : ((i : Int) + 1).toNat = i + 1 := by omega
  have hb2 : ¬ (cap = i + 1) := by omega
  have hb3 : (i : Int) ≤ (n : Int) + 1 := by omega
  have hb4 : ¬ (cap = i) := by omega
  have hb5 : (i : Int) + 1 ≤ (n : Int) + 1 := by omega
  go_enter Try.func36, Try.ntmps36
  go_wp2_with (simp only [hov])
  go_region_law_o (refine step_copy_runI rfl _ _ 44 44 rfl _ _ (by simp [Act.eval, Act.put]) (by simp [Act.eval, Act.put]) (hcp1 _ _ _) ?_)
  go_wp2_with (at_builtin; refine wpList_copy_runI _ rfl _ _ 44 44 rfl _ _ rfl rfl (hcp2 _ _) ?_)
  go_ret
  exact ⟨rfl, hF.out, hf2.out⟩

theorem zrow_size (z : Array Value) (hz : z.size = 6) (k : Nat) : (Builtin.zeroCells z k).size = k * 6 := by simp [Builtin.zeroCells, hz]
/-- A new row that is filled by two copies. -/
theorem own_filled {W : World} {N G i : Nat} {l : List M} {m : M} {ROW row1 row2 : Array Value} (hi : i < l.length) (hG : l.length + 1 ≤ G) (hGm : G ≤ maxLen) (hR : ROW.size = G * 6) (hRt : ROW.toList.take (i * 6) = flat (l.take i))
    (h1 : row1 = (ROW.toList.take (i * 6) ++ enc m ++ ROW.toList.drop (i * 6 + (enc m).length)).toArray)
    (h2 : row2 = (row1.toList.take ((i + 1) * 6) ++ flat (l.drop i) ++ row1.toList.drop ((i + 1) * 6 + (flat (l.drop i)).length)).toArray) (hg : W.heap[N]? = some (.cells row2 32 (0, 0))) :
    Own W (.slice (some ⟨N, 0, none⟩) (l.length + 1) G) (l.take i ++ [m] ++ l.drop i) := by
  have hd : (flat (l.drop i)).length = (l.length - i) * 6 := by rw [flat_len, List.length_drop]
  have ht : (flat (l.take i)).length = i * 6 := by rw [flat_len, List.length_take, Nat.min_eq_left (by omega)]
  have hl2 : (l.take i ++ [m] ++ l.drop i).length = l.length + 1 := by simp; omega
  have e1 : row1.size = G * 6 := by
    rw [h1]
    simp only [List.size_toArray, List.length_append, List.length_take, List.length_drop, Array.length_toList, enc_len]
    omega
  have e2 : row1.toList.take ((i + 1) * 6) = flat (l.take i) ++ enc m := by
    rw [h1, hRt]
    rw [List.take_append_of_le_length (by rw [List.length_append, ht, enc_len]; omega), List.take_of_length_le (by rw [List.length_append, ht, enc_len]; omega)]
  have := own_of_block (w := W) (g := N) (cap := G) (l := l.take i ++ [m] ++ l.drop i) hg (by omega) hGm ?_ ?_
  · rwa [hl2] at this
  · rw [h2]
    simp only [List.size_toArray, List.length_append, List.length_take, List.length_drop, Array.length_toList, hd]
    omega
  · rw [hl2, h2, e2, flat_append, flat_append, flat_one]
    rw [List.take_append_of_le_length (by simp only [List.length_append, ht, hd, enc_len]; omega)]
    rw [List.take_of_length_le (by simp only [List.length_append, ht, hd, enc_len]; omega)]

set_option maxRecDepth 100000 in
set_option maxHeartbeats 2000000 in
theorem sins_grow {w : World} {g n cap i vb : Nat} {l : List M} {m : M} (h : Own w (.slice (some ⟨g, 0, none⟩) n cap) l) (hlen : l.length ≤ 1000) (hi : i < l.length) (hroom : cap < l.length + 1) (hb : Box1 w vb m) (hne : vb ≠ g) :
    Calls Try.prog 36 #[.slice (some ⟨g, 0, none⟩) n cap, .int .i64 i, .slice (some ⟨vb, 0, none⟩) 1 1] w fun e w' =>
      ∃ G, e = .returned (.slice (some ⟨w.heap.size, 0, none⟩) (n + 1) G) ∧ Own w' (.slice (some ⟨w.heap.size, 0, none⟩) (n + 1) G) (l.take i ++ [m] ++ l.drop i) ∧ Fr (fun _ => False) w w' := by
  have mixed : Try.prog.follows .mixedOrders = true := by kernel_rfl
  have hown := h
  obtain ⟨rfl, cur, hg, hc1, hc2, hc3, hc4⟩ := h.block
  obtain rfl : cap = l.length := by omega
  have hgl : g < w.heap.size := (Array.getElem?_eq_some_iff.1 hg).1
  obtain ⟨i0, hi0, hz0, hzs, hzb⟩ := info_parts info30
  have hold : (Builtin.firstCells i0.size i (.slice (some ⟨g, 0, none⟩) i l.length)).run Try.prog w.drew = .ok (flat (l.take i)).toArray w.drew := by
    rw [hzs]
    exact run_firstCells_some w.drew 6 i ⟨g, 0, none⟩ i l.length (flat (l.take i)) (by rw [flat_len, List.length_take, Nat.min_eq_left (by omega)]) (fun j v hj => by
      rw [Addr.add_lit]
      have hj2 : (flat l)[j]? = some v := by
        rw [flat_take, List.getElem?_take] at hj
        split at hj
        · exact hj
        · cases hj
      have := h.cellsFrom 0 j v (by simpa using hj2)
      simpa using this)
  have hik : i + (l.length + 1 - i) = l.length + 1 := by omega
  obtain ⟨G, hG⟩ : ∃ G, G = grownCap w (l.length + 1) l.length 32 := ⟨_, rfl⟩
  have hGn : l.length + 1 ≤ G := by rw [hG]; exact grownCap_ge w _ _ _
  have hGm : G ≤ maxLen := by rw [hG]; exact grownCap_le_maxLen w _ _ _ (by unfold maxLen; omega)
  obtain ⟨ROW, hROW⟩ : ∃ ROW : Array Value, ROW = (flat (l.take i)).toArray ++ Builtin.zeroCells (mv ((0, 0, 0), 0, 0, 0)).cells (l.length + 1 - i) ++ Builtin.zeroCells (mv ((0, 0, 0), 0, 0, 0)).cells (G - (l.length + 1)) := ⟨_, rfl⟩
  have hkk : ((l.length : Int) + 1) - (i : Int) = ((l.length + 1 - i : Nat) : Int) := by omega
  have hrz : ∀ ty, (Builtin.append_ #[44, 3] ty #[.slice (some ⟨g, 0, none⟩) i l.length, .int .i64 (((l.length : Int) + 1) - (i : Int))]).run Try.prog w =
      .ok (.slice (some ⟨w.heap.size, 0, none⟩) (l.length + 1) G) (w.drew.alloc (.cells ROW 32)) := fun ty => by
    have h := Lib.run_append_grow_zeros w 44 3 ty 32 i0 _ .i64 .i64 Try.underlying44 Try.underlying3 hi0 hz0 (some ⟨g, 0, none⟩) i l.length (flat (l.take i)) hold (l.length + 1 - i) (by omega) (by omega) (by omega) (by omega) (by rw [hzb]; omega) (by rw [hzb, hik]; exact growslice_fits (by omega) (by omega))
    rw [hik] at h
    rw [hkk, hROW, hG]
    exact h
  have hRs : ROW.size = G * 6 := by
    rw [hROW]
    simp only [Array.size_append, List.size_toArray, flat_len, List.length_take, zrow_size _ (show (mv ((0, 0, 0), 0, 0, 0)).cells.size = 6 from rfl)]
    omega
  have hRt : ROW.toList.take (i * 6) = flat (l.take i) := by
    rw [hROW]
    simp only [Array.toList_append, List.append_assoc]
    have e : (flat (l.take i)).length = i * 6 := by rw [flat_len, List.length_take, Nat.min_eq_left (by omega)]
    rw [← e, List.take_left]
  obtain ⟨W1, hW1⟩ : ∃ W1, W1 = w.drew.alloc (.cells ROW 32) := ⟨_, rfl⟩
  have hg1 : W1.heap[w.heap.size]? = some (.cells ROW 32 (0, 0)) := by rw [hW1]; exact heap_alloc_new w.drew _
  have f1 : Fr (fun _ => False) w W1 := by rw [hW1]; exact (Fr.refl _ w).drew.alloc _
  have hb1 : Box1 W1 vb m := (f1.block vb hb.lt (fun g => g)).trans hb
  obtain ⟨row1, hr1⟩ : ∃ row1, row1 = (ROW.toList.take (i * 6) ++ enc m ++ ROW.toList.drop (i * 6 + (enc m).length)).toArray := ⟨_, rfl⟩
  have hcpA : ∀ ty dc, (Builtin.copy_ #[44, 44] ty #[.slice (some ⟨w.heap.size, i * 6, none⟩) (l.length + 1 - i) dc, .slice (some ⟨vb, 0, none⟩) 1 1]).run Try.prog W1 = .ok (goInt 1) (W1.setRow w.heap.size row1) := fun ty dc => by
    rw [hr1]
    exact run_copy6 W1 44 44 ty 32 w.heap.size (i * 6) (l.length + 1 - i) dc ⟨vb, 0, none⟩ 1 1 ROW 32 (enc m) Try.underlying44 info32s hg1 1 (by simp only [Nat.min_def]; split <;> omega) rfl (fun j v hj => by rw [Addr.add_lit, Nat.zero_add]; exact hb1.cells j v hj) (by rw [hRs, enc_len]; omega) (enc_one m)
  have hs1 : row1.size = G * 6 := by
    rw [hr1]
    simp only [List.size_toArray, List.length_append, List.length_take, List.length_drop, Array.length_toList, enc_len]
    omega
  have hne2 : g ≠ w.heap.size := by omega
  obtain ⟨W2, hW2⟩ : ∃ W2, W2 = W1.setRow w.heap.size row1 := ⟨_, rfl⟩
  have hg2 : W2.heap[w.heap.size]? = some (.cells row1 32 (0, 0)) := by rw [hW2]; exact setRow_heap W1 _ ROW _ 32 _ hg1
  have f2 : Fr (fun k => k = w.heap.size) W1 W2 := by rw [hW2]; exact fr_setRow _ _ _
  have f2' : Fr (fun _ => False) w W2 := f1.trans f2 (fun k hk e => by omega)
  have hown2 : Own W2 (.slice (some ⟨g, 0, none⟩) l.length l.length) l := hown.keep f2' (fun _ _ g => g)
  have hcD := hown2.cellsFrom i
  have hd : (flat (l.drop i)).length = (l.length - i) * 6 := by rw [flat_len, List.length_drop]
  obtain ⟨row2, hr2⟩ : ∃ row2, row2 = (row1.toList.take ((i + 1) * 6) ++ flat (l.drop i) ++ row1.toList.drop ((i + 1) * 6 + (flat (l.drop i)).length)).toArray := ⟨_, rfl⟩
  have hcpB : ∀ ty dc sc, (Builtin.copy_ #[44, 44] ty #[.slice (some ⟨w.heap.size, (i + 1) * 6, none⟩) (l.length - i) dc, .slice (some ⟨g, i * 6, none⟩) (l.length - i) sc]).run Try.prog W2.drew = .ok (goInt ((l.length - i : Nat) : Int)) (W2.drew.setRow w.heap.size row2) := fun ty dc sc => by
    rw [hr2]
    exact run_copy6 W2.drew 44 44 ty 32 w.heap.size ((i + 1) * 6) (l.length - i) dc ⟨g, i * 6, none⟩ (l.length - i) sc row1 32 (flat (l.drop i)) Try.underlying44 info32s hg2 (l.length - i) (by simp) hd (fun j v hj => by rw [Addr.add_lit]; exact hcD j v hj) (by rw [hs1, hd]; omega) (flat_one_cell _)
  have hg3 : (W2.drew.setRow w.heap.size row2).heap[w.heap.size]? = some (.cells row2 32 (0, 0)) := setRow_heap W2.drew _ row1 _ 32 _ hg2
  have f3 : Fr (fun _ => False) w (W2.drew.setRow w.heap.size row2) := f2'.drew.trans (fr_setRow _ _ _) (fun k hk e => by omega)
  have hF : Aside _ := own_filled (m := m) hi hGn hGm hRs hRt hr1 hr2 hg3
  have hf : Aside _ := f3
  rw [← hW2] at hcpA
  rw [← hW1] at hrz
  obtain ⟨W3, hW3⟩ : ∃ W3, W3 = W2.drew.setRow w.heap.size row2 := ⟨_, rfl⟩
  rw [← hW3] at hcpB hF hf
  clear hW3 hg3 f3 hr2 hcD hown2 f2' f2 hg2 hW2 hs1 hr1 hb1 f1 hg1 hW1 hRt hRs hkk hROW hG hold hg hc1 hc3 hc4 hown h hb hd
  unfold maxLen at hGm
  generalize l.length = n at *
  have hG63 : G ≤ 9223372036854775807 := by omega
  have hz2 : ¬ ((i : Int) = (n : Int)) := by omega
  have hw1 : IntKind.i64.wrap ((i : Int) + 1) = (i : Int) + 1 := by rw [IntKind.wrap_i64]; omega
  have hb1 : (0 : Int) ≤ (i : Int) + 1 := by omega
  have hin : i ≤ n := by omega
  have htn : ((i : Int) + 1).toNat = i + 1 := by omega
  have hb2 : ¬ (G = i + 1) := by omega
  have hb3 : (i : Int) ≤ (n : Int) + 1 := by omega
  have hb4 : ¬ (n = i) := by omega
  have hb6 : ¬ (G = i) := by omega
  have hb5 : (i : Int) + 1 ≤ (n : Int) + 1 := by omega
  have hb7 : (i : Int) ≤ (n : Int) := by omega
  go_enter Try.func36, Try.ntmps36
  go_wp2_with (first
    | (at_builtin; refine Lib.wpList_append_run _ rfl _ _ _ _ rfl _ _ rfl rfl _ _ (hrz _) ?_)
    | (at_builtin; refine wpList_copy_runI _ rfl _ _ 44 44 rfl _ _ rfl rfl (hcpA _ _) ?_))
  go_region_law_o (refine step_copy_runI rfl _ _ 44 44 rfl _ _ (by simp [Act.eval, Act.put]) (by simp [Act.eval, Act.put]) (hcpB _ _ _) ?_)
  go_wp2
  go_ret
  exact ⟨G, rfl, hF.out, hf.out⟩

set_option maxRecDepth 100000 in
set_option maxHeartbeats 2000000 in
theorem sins_end {w : World} {v : Value} {vb : Nat} {l : List M} {m : M} (h : Own w v l) (hlen : l.length ≤ 1000) (hb : Box1 w vb m) :
    Calls Try.prog 36 #[v, .int .i64 l.length, .slice (some ⟨vb, 0, none⟩) 1 1] w fun e w' =>
      ∃ v', e = .returned v' ∧ Own w' v' (l ++ [m]) ∧ Fr (fun k => v.ownBlock = some k) w w' ∧ (∀ k, v'.ownBlock = some k → v.ownBlock = some k ∨ w.heap.size ≤ k) := by
  obtain ⟨a, cap, rfl, _⟩ := h.rd
  have hcap : l.length ≤ cap := by
    rcases h.2 with ⟨h0, h1⟩ | ⟨g, cap', cur, hv, _, _, hnc, _⟩
    · omega
    · simp at hv
      omega
  have hl2 : l.length ≤ l.length := Nat.le_refl _
  by_cases hcn : cap = l.length
  · subst hcn
    go_enter Try.func36, Try.ntmps36
    go_wp2_with (at_builtin; refine wpList_append_msg _ rfl (.tmp 23) (.tmp 24) rfl _ l rfl h (by omega) m ⟨vb, 0, none⟩ rfl ?c3 ?_)
    case c3 =>
      intro j u hj
      rw [Addr.add_lit, Nat.zero_add]
      exact hb.cells j u hj
    intro a' cap' w' h1 h2 h3
    go_wp2
    go_ret
    exact ⟨_, rfl, h1, h2, h3⟩
  · go_enter Try.func36, Try.ntmps36
    go_wp2_with (at_builtin; refine wpList_append_msg _ rfl (.tmp 23) (.tmp 24) rfl _ l rfl h (by omega) m ⟨vb, 0, none⟩ rfl ?c3 ?_)
    case c3 =>
      intro j u hj
      rw [Addr.add_lit, Nat.zero_add]
      exact hb.cells j u hj
    intro a' cap' w' h1 h2 h3
    go_wp2
    go_ret
    exact ⟨_, rfl, h1, h2, h3⟩

theorem sins_any {w : World} {v : Value} {i vb : Nat} {l : List M} {m : M} (h : Own w v l) (hlen : l.length ≤ 1000) (hi : i ≤ l.length) (hb : Box1 w vb m) (hne : v.ownBlock ≠ some vb) :
    Calls Try.prog 36 #[v, .int .i64 i, .slice (some ⟨vb, 0, none⟩) 1 1] w fun e w' =>
      ∃ v', e = .returned v' ∧ Own w' v' (l.take i ++ [m] ++ l.drop i) ∧ Fr (fun k => v.ownBlock = some k) w w' ∧ (∀ k, v'.ownBlock = some k → v.ownBlock = some k ∨ w.heap.size ≤ k) := by
  by_cases he : i = l.length
  · subst he
    rw [List.take_length, List.drop_length, List.append_nil]
    exact sins_end h hlen hb
  · obtain ⟨g, cap, rfl, hg⟩ := own_nonempty h (i := i) (by omega)
    have hne2 : vb ≠ g := fun e => hne (by rw [e]; rfl)
    by_cases hr : l.length + 1 ≤ cap
    · refine (sins_shift h hlen (by omega) hr hb hne2).mono ?_
      rintro e w' ⟨rfl, h1, h2⟩
      exact ⟨_, rfl, h1, h2.wide (fun k hk => by subst hk; rfl), fun k hk => .inl hk⟩
    · refine (sins_grow h hlen (by omega) (by omega) hb hne2).mono ?_
      rintro e w' ⟨G, rfl, h1, h2⟩
      refine ⟨_, rfl, h1, h2.wide (fun k hk => hk.elim), fun k hk => .inr ?_⟩
      simp [Value.ownBlock] at hk
      omega
end Go.Proofs.Ytjkcdkoomipfkaa
