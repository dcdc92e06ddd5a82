/- Proved: Below answers a new slice of the classes above which a class stands, rising. -/
import Derived.Test.YtnaodfgchaccoaaAbv
namespace Go.Proofs.Ytnaodfgchaccoaa
open Go.RowKit Go.Shelf
set_option linter.unusedVariables false

/-- A row of integers that a call has made since w. -/
def Row (w : World) (W : World) (v : Value) (xs : List Int) : Prop := W.ownsRow w.heap.size 3 1 v xs.length (xs.map (Value.int .i64)) ∧ Below w.heap.size w W
theorem Row.below {w W W' : World} {v : Value} {xs : List Int} (h : Row w W v xs) (hb : Below W.heap.size W W') : Row w W' v xs := by
  refine ⟨⟨h.1.1, ?_⟩, h.2.trans (hb.mono h.2.size)⟩
  rcases h.1.2 with g | ⟨g, cap, cur, h1, h2, h3, h4⟩
  · exact .inl g
  · exact .inr ⟨g, cap, cur, h1, h2, (hb.block g (Array.getElem?_eq_some_iff.1 h3).1).trans h3, h4⟩
theorem Row.nil (w : World) : Row w w (.slice none 0 0) [] := ⟨World.ownsRow_nil _ _ _ _, Below.refl _ _⟩
/-- What append has made of a row. -/
theorem Row.app {w W w1 : World} {v v' : Value} {xs : List Int} {x : Int} {o : Obj} (h : Row w W v xs) (hown : w1.ownsRow w.heap.size 3 1 v' (xs.length + 1) (xs.map (Value.int .i64) ++ [.int .i64 x])) (hg : (W.alloc o).grownBy w1 v.ownBlock) : Row w w1 v' (xs ++ [x]) := by
  refine ⟨by simpa using hown, ?_⟩
  have h1 : Below w.heap.size w (W.alloc o) := h.2.alloc h.2.size _
  exact h1.grown hg h1.size (fun k e => row_ge h.1 e)
theorem Row.rd {w W : World} {v : Value} {xs : List Int} (h : Row w W v xs) : ∃ a c, v = .slice a xs.length c ∧ RdI W W.heap.size a xs := rdI_of_row h.1
theorem Row.one {w : World} {W : World} {v : Value} {xs : List Int} (h : Row w W v xs) : v.oneCell' = true := by
  obtain ⟨a, c, rfl, _⟩ := h.rd
  rfl

set_option maxRecDepth 100000 in
set_option maxHeartbeats 2000000 in
theorem below_any (w : World) (a : Option Addr) (c : Nat) (zs : List Int) (v : Int) (h : RdI w w.heap.size a zs) (hl : zs.length ≤ 9223372036854775807) :
    Calls Try.prog 14 #[.slice a zs.length c, .int .i64 v] w fun e w' => ∃ a' c', e = .returned (.slice a' (bel zs v).length c') ∧ RdI w' w'.heap.size a' (bel zs v) ∧ Below w.heap.size w w' := by
  obtain ⟨i0, hi, hz0, hz1, hz2⟩ := info_parts info3
  obtain ⟨R, hR⟩ : ∃ R, bel zs v = R := ⟨_, rfl⟩
  rw [hR]
  have HR : Hid _ := hR
  have HRD : Hid _ := h
  clear hR h
  go_enter Try.func14, Try.ntmps14
  go_wp2_with fail
  go_loopw [5, 9] (fun s5 s9 wr => ∃ k : Nat, k ≤ zs.length ∧ s9 = .int .i64 k ∧ Hid (Row w wr s5 (belF zs v k))) (fun _ s9 _ => zs.length - (intOf s9).toNat)
  case atStart => exact ⟨0, Nat.zero_le _, rfl, Row.nil w⟩
  case round =>
    obtain ⟨k, hk, rfl, HW⟩ := hrel
    by_cases hkl : k < zs.length
    · have hk' : (k : Int) < (zs.length : Int) := by omega
      have I1 := isa_any wr a c zs k v ((RdI.below HRD.out HW.out.2).mono HW.out.2.size) hl
      by_cases hin : v ∈ abv zs (k : Int)
      · rw [decide_eq_true hin] at I1
        have hlen := belF_len zs v k (by omega)
        obtain ⟨L, hL⟩ : ∃ L, belF zs v k = L := ⟨_, rfl⟩
        have HN : Hid (belF zs v (k + 1) = L ++ [(k : Int)]) := by show belF zs v (k + 1) = L ++ [(k : Int)]; rw [belF_yes hin, hL]
        rw [hL] at HW hlen
        clear hL
        go_wp2_with (first | (go_at_call 16; refine I1.mono ?_; rintro e w1 ⟨rfl, hb1⟩; have HW1 : Hid _ := Row.below HW.out hb1; clear I1) | (at_builtin; refine wpList_append_own _ rfl _ _ 22 rfl w.heap.size 3 i0 (.int .i64 0) 1 8 Try.underlying22 hi hz0 hz1 hz2 rfl (by decide) _ _ _ rfl (HW1.out.1.alloc _) ⟨w1.heap.size, 0, none⟩ 1 1 [.int .i64 k] rfl rfl ?c1 ?c2 ?c3 ?c4 ?c5 ?_))
        case c1 => exact cell_one_new _ _ _
        case c2 => intro u hu; simp at hu; subst hu; rfl
        case c3 => unfold maxLen; omega
        case c4 => omega
        case c5 => have := HW1.out.2.size; simp; omega
        intro v' w2 hown' hgrow _
        have HW2 : Hid _ := Row.app HW1.out hown' hgrow
        clear hown' hgrow
        go_wp2
        go_roundw
        case rel => exact ⟨k + 1, by omega, by go_num, by show Row _ _ _ _; rw [HN.out]; exact HW2.out⟩
        case measure => simp [intOf]; omega
      · rw [decide_eq_false hin] at I1
        have HN : Hid (belF zs v (k + 1) = belF zs v k) := belF_not hin
        go_wp2_with (go_at_call 16; refine I1.mono ?_; rintro e w1 ⟨rfl, hb1⟩; have HW1 : Hid _ := Row.below HW.out hb1; clear I1)
        go_roundw
        case rel => exact ⟨k + 1, by omega, by go_num, by show Row _ _ _ _; rw [HN.out]; exact HW1.out⟩
        case measure => simp [intOf]; omega
    · obtain rfl : k = zs.length := by omega
      have hW : Row _ _ _ _ := HW.out
      rw [show belF zs v zs.length = R from HR.out] at hW
      obtain ⟨a', c', rfl, hRd⟩ := hW.rd
      have HRD2 : Hid _ := hRd
      clear hRd
      go_wp2
      go_ret
      exact ⟨a', c', rfl, HRD2.out, hW.2⟩
end Go.Proofs.Ytnaodfgchaccoaa
