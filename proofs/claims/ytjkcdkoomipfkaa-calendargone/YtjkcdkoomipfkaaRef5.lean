/- Proved: contracts of the document's queue: List and Below; that two slices of the same messages are told to be the same. -/
import Derived.Test.YtjkcdkoomipfkaaRef4
import Derived.Laws.AppendOwnNone
namespace Go.Proofs.Ytjkcdkoomipfkaa
open Go.RowKit Go.Sort
set_option linter.unusedVariables false

set_option maxRecDepth 100000 in
set_option maxHeartbeats 1000000 in
theorem same_any {w : World} {va vb : Value} {s : List M} (ha : Own w va s) (hb : Own w vb s) (hlen : s.length ≤ 1000) :
    Calls Try.prog 19 #[va, vb] w fun e w' => e = .returned (.bool true) ∧ Below w.heap.size w w' := by
  have mixed : Try.prog.follows .mixedOrders = true := by kernel_rfl
  have ha0 := ha
  have hb0 := hb
  obtain ⟨a, ca, rfl, _⟩ := ha.rd
  obtain ⟨b, cb, rfl, _⟩ := hb.rd
  go_enter Try.func19, Try.ntmps19
  go_wp2_with fail
  go_loopw [5] (fun si wr => ∃ k : Nat, k ≤ s.length ∧ si = .int .i64 k ∧ Below w.heap.size w wr) (fun si _ => s.length - (intOf si).toNat)
  case atStart => exact ⟨0, Nat.zero_le _, rfl, Below.refl _ _⟩
  case round =>
    obtain ⟨k, hk, rfl, hB⟩ := hrel
    by_cases hlt : k < s.length
    · obtain ⟨g, ca', hv, _⟩ := own_nonempty ha0 hlt
      obtain ⟨rfl, rfl⟩ : a = some ⟨g, 0, none⟩ ∧ ca = ca' := by simpa using hv
      obtain ⟨g', cb', hv', _⟩ := own_nonempty hb0 hlt
      obtain ⟨rfl, rfl⟩ : b = some ⟨g', 0, none⟩ ∧ cb = cb' := by simpa using hv'
      obtain ⟨x, hx⟩ : ∃ x, s[k] = x := ⟨_, rfl⟩
      obtain ⟨x0, x1, x2, x3, x4, x5⟩ := own_cell (ha0.keep (S := fun _ => False) (Fr.of_below hB) (fun _ _ g => g)) hlt hx
      obtain ⟨y0, y1, y2, y3, y4, y5⟩ := own_cell (hb0.keep (S := fun _ => False) (Fr.of_below hB) (fun _ _ g => g)) hlt hx
      have hlt' : (k : Int) < (s.length : Int) := by omega
      clear hx hv hv'
      obtain ⟨⟨b1, b2, b3⟩, b4, b5, b6⟩ := x
      dsimp only at x0 x1 x2 x3 x4 x5 y0 y1 y2 y3 y4 y5
      go_wp2_with fail
      go_quiet (fail)
      go_wp2_with fail
      go_roundw
      case rel => exact ⟨k + 1, by omega, by go_num, below_drewN hB _⟩
      case measure => simp [intOf]; omega
    · have hkd : k = s.length := by omega
      subst hkd
      have hgt : ¬ ((s.length : Int) < (s.length : Int)) := by omega
      go_wp2
      go_ret
      exact ⟨rfl, hB⟩

set_option maxRecDepth 100000 in
set_option maxHeartbeats 1000000 in
theorem rbelow_any {w : World} {G : Nat → Prop} {rb room : Nat} {s : List M} (h : IsR w G rb room s) (t : Int) :
    Calls Try.prog 21 #[.pointer (some ⟨rb, 0, none⟩), .int .i64 t] w fun e w' => ∃ v, e = .returned v ∧ Own w' v (low s t) ∧ (∀ k, v.ownBlock = some k → w.heap.size ≤ k) ∧ Below w.heap.size w w' := by
  obtain ⟨v, c0, c1, f1, ho, hs, hn, hr, hl, rfl⟩ := h
  have hrb := cell_lt c1
  have hown := ho
  obtain ⟨a, cap, rfl, _⟩ := ho.rd
  clear ho hs
  go_enter Try.func21, Try.ntmps21
  go_wp2_with fail
  go_loopw [5, 6] (fun v5 si wr => ∃ k : Nat, k ≤ s.length ∧ si = .int .i64 k ∧ Own wr v5 (low (s.take k) t) ∧ (∀ k, v5.ownBlock = some k → w.heap.size ≤ k) ∧ Below w.heap.size w wr) (fun _ si _ => s.length - (intOf si).toNat)
  case atStart => exact ⟨0, Nat.zero_le _, rfl, own_empty w, fun k hk => by simp [Value.ownBlock] at hk; omega, (Below.refl _ _).alloc (Nat.le_refl _) _⟩
  case round =>
    obtain ⟨k, hk, rfl, hown5, hblk, hb⟩ := hrel
    have hll := low_len (s.take k) t
    have htk : (s.take k).length = k := by rw [List.length_take]; omega
    have r1 := (hb.cell (p := ⟨rb, 1, none⟩) hrb).trans c1
    by_cases hlt : k < s.length
    · obtain ⟨g, cap', hv, hg⟩ := own_nonempty hown hlt
      obtain ⟨rfl, rfl⟩ : a = some ⟨g, 0, none⟩ ∧ cap = cap' := by simpa using hv
      have hsn := low_snoc s k t hlt
      obtain ⟨x, hx⟩ : ∃ x, nth s k = x := ⟨_, rfl⟩
      rw [hx] at hsn
      obtain ⟨x0, x1, x2, x3, x4, x5⟩ := own_cell (hown.keep (S := fun _ => False) (Fr.of_below hb) (fun _ _ g => g)) (x := x) hlt (by rw [← nth_get]; exact hx)
      have HSN : Hid _ := hsn
      have hlt' : (k : Int) < (s.length : Int) := by omega
      clear hsn hx hv
      obtain ⟨⟨b1, b2, b3⟩, b4, b5, b6⟩ := x
      dsimp only at x0 x1 x2 x3 x4 x5
      by_cases ht : b1 < t
      · go_wp2_with (at_builtin; refine wpList_append_msg _ rfl (.tmp 28) (.tmp 36) rfl _ (low (s.take k) t) rfl ?c1 ?c2 ((b1, b2, b3), b4, b5, b6) ⟨wr.heap.size, 0, none⟩ rfl ?c3 ?_)
        case c1 => exact hown5.keep (S := fun _ => False) ((Fr.refl _ wr).alloc _) (fun _ _ g => g)
        case c2 => omega
        case c3 => first | exact (fun j u hj => hj) | exact cells_new1 _ ((b1, b2, b3), b4, b5, b6) 32
        intro a' cap' w1 hown1 hfr1 hloc1
        have R1 : low (s.take (k + 1)) t = low (s.take k) t ++ [((b1, b2, b3), b4, b5, b6)] := by rw [HSN.out]; simp [ht]
        obtain ⟨hb1, hblk1⟩ := stage hb hblk hfr1 hloc1
        clear hown5 hblk hb hfr1 hloc1 x0 x1 x2 x3 x4 x5
        go_wp2
        go_roundw
        case rel => exact ⟨k + 1, by omega, by go_num, by rw [R1]; exact hown1, hblk1, hb1⟩
        case measure => simp [intOf]; omega
      · have R1 : low (s.take (k + 1)) t = low (s.take k) t := by rw [HSN.out]; simp [ht]
        go_wp2
        go_roundw
        case rel => exact ⟨k + 1, by omega, by go_num, by rw [R1]; exact hown5, hblk, hb⟩
        case measure => simp [intOf]; omega
    · have hkd : k = s.length := by omega
      subst hkd
      rw [List.take_length] at hown5
      have hgt : ¬ ((s.length : Int) < (s.length : Int)) := by omega
      go_wp2
      go_ret
      exact ⟨_, rfl, hown5, hblk, hb⟩

set_option maxRecDepth 100000 in
set_option maxHeartbeats 1000000 in
theorem rlist_any {w : World} {G : Nat → Prop} {rb room : Nat} {s : List M} (h : IsR w G rb room s) :
    Calls Try.prog 26 #[.pointer (some ⟨rb, 0, none⟩)] w fun e w' => ∃ v, e = .returned v ∧ Own w' v s ∧ (∀ k, v.ownBlock = some k → w.heap.size ≤ k) ∧ Below w.heap.size w w' := by
  obtain ⟨v, c0, c1, f1, ho, hs, hn, hr, hl, rfl⟩ := h
  have hrb := cell_lt c1
  have hown := ho
  obtain ⟨i0, hi0, hz0, hz1, hz2⟩ := info_parts info30
  rcases ho.2 with ⟨rfl, hn0⟩ | ⟨g, cap, cur, rfl, _, hg, hnc, hcm, hcs, ht⟩
  · have hs0 : s = [] := List.length_eq_zero_iff.1 hn0
    subst hs0
    clear ho hs
    go_enter Try.func26, Try.ntmps26
    go_wp2_with (at_builtin; refine wpList_append_own_none rfl (.tmp 5) (.tmp 9) 44 rfl 0 32 i0 6 Try.underlying44 hi0 _ 0 [] rfl (own_empty w) rfl ?_)
    go_wp2
    go_ret
    exact ⟨_, rfl, own_empty w, fun k hk => by simp [Value.ownBlock] at hk; omega, (Below.refl _ _).alloc (Nat.le_refl _) _⟩
  · have hgl := (Array.getElem?_eq_some_iff.1 hg).1
    have HC : Aside (∀ j u, (flat s)[j]? = some u → (w.alloc (.cells #[] 32)).cell? ((⟨g, 0, none⟩ : Addr).add j) = some u) := fun j u hj => by
      have hj' : j < s.length * 6 := by have := (List.getElem?_eq_some_iff.1 hj).1; rwa [flat_len] at this
      rw [Addr.add_lit, Nat.zero_add, World.cell?_alloc_lt _ _ _ hgl, World.ownsRow.cellAt hown j hj', hj]
    clear ho hs hg ht
    go_enter Try.func26, Try.ntmps26
    go_wp2_with (at_builtin; refine wpList_append_own_at _ rfl (.tmp 5) (.tmp 9) 44 rfl 0 32 i0 (mv zeroM) 6 48 Try.underlying44 hi0 hz0 hz1 hz2 rfl (by decide) _ 0 [] rfl (own_empty w) ⟨g, 0, none⟩ s.length cap (flat s) rfl (flat_len s) HC.out (flat_one_cell s) ?c1 ?c2 ?c3 ?_)
    case c1 => unfold maxLen; omega
    case c2 => omega
    case c3 => omega
    intro v' w1 hown1 hgrow hnil hat
    have ho1 : Own w1 v' s := by simpa [Own] using hown1
    have hb1 : Below w.heap.size w w1 := ((Below.refl _ w).alloc (Nat.le_refl _) _).trans ((Fr.of_grown hgrow).below (by simp) (fun k hk => by simp [Value.ownBlock] at hk; omega))
    have hblk1 : ∀ k, v'.ownBlock = some k → w.heap.size ≤ k := fun k hk => by
      rcases hat with e | e
      · rw [e] at hk; simp [Value.ownBlock] at hk; omega
      · rw [e] at hk; simp at hk; omega
    clear hown1 hgrow hnil hat
    go_wp2
    go_ret
    exact ⟨_, rfl, ho1, hblk1, hb1⟩
end Go.Proofs.Ytjkcdkoomipfkaa
