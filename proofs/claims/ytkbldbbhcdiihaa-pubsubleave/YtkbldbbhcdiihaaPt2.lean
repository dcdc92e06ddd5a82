/- Proved: the program's Publish, Subscribe and Leave at its table. -/
import Derived.Test.YtkbldbbhcdiihaaPt1
namespace Go.Proofs.Ytkbldbbhcdiihaa
open Go.RowKit Go.Shelf
set_option linter.unusedVariables false

theorem updB_bit {p : Tab} {k i j : Nat} {is : Bool} {u : Nat} (hi : i < 16) (hj : j < 16) (h : u.testBit j = p k (j : Int)) : (turnN u i is).testBit j = updB p k (i : Int) is k (j : Int) := by
  rw [turnN_bit is hi hj]
  unfold updB
  by_cases e : j = i
  · rw [if_pos e, if_pos ⟨rfl, by omega⟩]
  · rw [if_neg e, if_neg (fun g => e (by omega))]; exact h
theorem updB_far {p : Tab} {k f : Nat} {c d : Int} {is : Bool} (h : f ≠ k) : updB p k c is f d = p f d := by
  unfold updB
  rw [if_neg (fun g => h g.1)]
set_option maxRecDepth 100000 in
theorem ppub_any {w : World} {F : Nat → Prop} {tb : Nat} {zs : List Int} {p s : Tab} (h : PT tb zs p s w F) (f c : Int) (is : Bool) :
    Calls Try.prog 21 #[.pointer (some ⟨tb, 0, none⟩), .int .i64 f, .int .i64 c, .bool is] w fun e w' => e = .returned (.int .i64 (okFC zs.length f c)) ∧ ∃ F2, PT tb zs (putB zs.length p f c is) s w' F2 ∧ Step F F2 w w' := by
  have HP : Hid (PT tb zs p s w F) := h
  obtain ⟨U, V, az, cz, h⟩ := h
  unfold putB
  rcases okFC_cases zs.length f c with ⟨e, _⟩ | ⟨e, hf0, hf8, hc0, hcl⟩
  · rw [if_neg e]
    have T := turn_no w tb 1 az cz zs f c is h.c0 e
    obtain ⟨r, hr⟩ : ∃ r, okFC zs.length f c = r := ⟨_, rfl⟩
    rw [hr] at T ⊢
    clear hr e h
    go_enter Try.func21, Try.ntmps21
    go_wp2_with (go_at_call 35; refine T.mono ?_; rintro e w' ⟨rfl, rfl⟩)
    go_ret
    exact ⟨rfl, F, HP.out, Step.same (Below.refl _ _)⟩
  · rw [e, if_pos rfl]
    obtain ⟨k, rfl⟩ := Int.eq_ofNat_of_zero_le hf0
    obtain ⟨i, rfl⟩ := Int.eq_ofNat_of_zero_le hc0
    have hk8 : k < 8 := by omega
    have hil : i < zs.length := by omega
    have hkk : ((k : Int)).toNat = k := by simp
    rw [hkk]
    have T := turn_any w tb 1 k i (U k) az cz zs is h.c0 hk8 hil h.ok.2.1 (h.bu k hk8) (h.cu k hk8) (h.fz _)
    have HT : Hid (∀ W, Below w.heap.size w W → PT tb zs (updB p k (i : Int) is) s (W.setCell ⟨tb, 1 + k, none⟩ (.int .u32 (turnN (U k) i is : Nat))) F ∧ Step F F w (W.setCell ⟨tb, 1 + k, none⟩ (.int .u32 (turnN (U k) i is : Nat)))) := fun W (hb : Below w.heap.size w W) =>
      ⟨⟨_, V, az, cz, h.setU hb hk8 (turnN_lt is (h.bu k hk8) (by have := h.ok.2.1; omega)) (fun j hj => updB_bit (by have := h.ok.2.1; omega) (by have := h.ok.2.1; omega) (h.tu k j hk8 hj)) (fun f c e => updB_far e)⟩, (Fr.of_below (S := F) hb).setCell _ _ (.inl h.ft), fun _ g => .inl g⟩
    obtain ⟨t, ht⟩ : ∃ t, turnN (U k) i is = t := ⟨_, rfl⟩
    rw [ht] at T HT
    clear ht h e hkk
    go_enter Try.func21, Try.ntmps21
    go_wp2_with (go_at_call 35; refine T.mono ?_; rintro e w' ⟨rfl, W, hW, rfl⟩)
    go_ret
    exact ⟨rfl, F, HT.out W hW⟩
set_option maxRecDepth 100000 in
theorem psub_any {w : World} {F : Nat → Prop} {tb : Nat} {zs : List Int} {p s : Tab} (h : PT tb zs p s w F) (f c : Int) (is : Bool) :
    Calls Try.prog 22 #[.pointer (some ⟨tb, 0, none⟩), .int .i64 f, .int .i64 c, .bool is] w fun e w' => e = .returned (.int .i64 (okFC zs.length f c)) ∧ ∃ F2, PT tb zs p (putB zs.length s f c is) w' F2 ∧ Step F F2 w w' := by
  have HP : Hid (PT tb zs p s w F) := h
  obtain ⟨U, V, az, cz, h⟩ := h
  unfold putB
  rcases okFC_cases zs.length f c with ⟨e, _⟩ | ⟨e, hf0, hf8, hc0, hcl⟩
  · rw [if_neg e]
    have T := turn_no w tb 9 az cz zs f c is h.c0 e
    obtain ⟨r, hr⟩ : ∃ r, okFC zs.length f c = r := ⟨_, rfl⟩
    rw [hr] at T ⊢
    clear hr e h
    go_enter Try.func22, Try.ntmps22
    go_wp2_with (go_at_call 35; refine T.mono ?_; rintro e w' ⟨rfl, rfl⟩)
    go_ret
    exact ⟨rfl, F, HP.out, Step.same (Below.refl _ _)⟩
  · rw [e, if_pos rfl]
    obtain ⟨k, rfl⟩ := Int.eq_ofNat_of_zero_le hf0
    obtain ⟨i, rfl⟩ := Int.eq_ofNat_of_zero_le hc0
    have hk8 : k < 8 := by omega
    have hil : i < zs.length := by omega
    have hkk : ((k : Int)).toNat = k := by simp
    rw [hkk]
    have T := turn_any w tb 9 k i (V k) az cz zs is h.c0 hk8 hil h.ok.2.1 (h.bv k hk8) (h.cv k hk8) (h.fz _)
    have HT : Hid (∀ W, Below w.heap.size w W → PT tb zs p (updB s k (i : Int) is) (W.setCell ⟨tb, 9 + k, none⟩ (.int .u32 (turnN (V k) i is : Nat))) F ∧ Step F F w (W.setCell ⟨tb, 9 + k, none⟩ (.int .u32 (turnN (V k) i is : Nat)))) := fun W (hb : Below w.heap.size w W) =>
      ⟨⟨U, _, az, cz, h.setV hb hk8 (turnN_lt is (h.bv k hk8) (by have := h.ok.2.1; omega)) (fun j hj => updB_bit (by have := h.ok.2.1; omega) (by have := h.ok.2.1; omega) (h.tv k j hk8 hj)) (fun f c e => updB_far e)⟩, (Fr.of_below (S := F) hb).setCell _ _ (.inl h.ft), fun _ g => .inl g⟩
    obtain ⟨t, ht⟩ : ∃ t, turnN (V k) i is = t := ⟨_, rfl⟩
    rw [ht] at T HT
    clear ht h e hkk
    go_enter Try.func22, Try.ntmps22
    go_wp2_with (go_at_call 35; refine T.mono ?_; rintro e w' ⟨rfl, W, hW, rfl⟩)
    go_ret
    exact ⟨rfl, F, HT.out W hW⟩
theorem clrB_bit (p : Tab) (k j : Nat) : (0 : Nat).testBit j = clrB p k k (j : Int) := by
  unfold clrB
  rw [if_pos rfl, Nat.zero_testBit]
theorem clrB_far {p : Tab} {k f : Nat} {c : Int} (h : f ≠ k) : clrB p k f c = p f c := by
  unfold clrB
  rw [if_neg h]
set_option maxRecDepth 100000 in
set_option maxHeartbeats 1000000 in
theorem pleave_any {w : World} {F : Nat → Prop} {tb : Nat} {zs : List Int} {p s : Tab} (h : PT tb zs p s w F) (f : Int) :
    Calls Try.prog 23 #[.pointer (some ⟨tb, 0, none⟩), .int .i64 f] w fun e w' => e = .returned (.int .i64 (okF f)) ∧ ∃ F2, PT tb zs (outB p f) (outB s f) w' F2 ∧ Step F F2 w w' := by
  have HP : Hid (PT tb zs p s w F) := h
  obtain ⟨U, V, az, cz, h⟩ := h
  have I1 := isfed_any w f
  unfold outB
  unfold okF at I1 ⊢
  by_cases h1 : f < 0 ∨ 8 ≤ f
  · rw [if_pos h1] at I1 ⊢
    rw [if_neg (by decide), if_neg (by decide)]
    clear h1 h
    go_enter Try.func23, Try.ntmps23
    go_wp2_with (go_at_call 36; refine I1.mono ?_; rintro e w' ⟨rfl, rfl⟩)
    go_ret
    exact ⟨rfl, F, HP.out, Step.same (Below.refl _ _)⟩
  · rw [if_neg h1] at I1 ⊢
    rw [if_pos rfl, if_pos rfl]
    obtain ⟨k, rfl⟩ := Int.eq_ofNat_of_zero_le (show 0 ≤ f by omega)
    have hk8 : k < 8 := by omega
    have hkk : ((k : Int)).toNat = k := by simp
    rw [hkk]
    have u1 := h.cu k hk8
    have u2 := h.fz (1 + k)
    have s1 := h.cv k hk8
    have s2 := h.fz (9 + k)
    have t1 : ∀ v, (w.setCell ⟨tb, 1 + k, none⟩ v).cell? ⟨tb, 9 + k, none⟩ = some (.int .u32 (V k : Int)) := fun v => (cell_set_ne (by omega)).trans s1
    have t2 : ∀ v, (w.setCell ⟨tb, 1 + k, none⟩ v).frozen? ⟨tb, 9 + k, none⟩ = false := fun v => by rw [World.frozen?_setCell]; exact s2
    have hE := (h.setU (Below.refl _ w) hk8 (by decide) (fun j _ => clrB_bit p k j) (fun f c e => clrB_far e)).setV (Below.refl _ _) hk8 (by decide) (fun j _ => clrB_bit s k j) (fun f c e => clrB_far e)
    have HE : Hid _ := hE
    have HF : Hid (Step F F w ((w.setCell ⟨tb, 1 + k, none⟩ (.int .u32 ((0 : Nat) : Int))).setCell ⟨tb, 9 + k, none⟩ (.int .u32 ((0 : Nat) : Int)))) := ⟨((Fr.refl F w).setCell _ _ (.inl h.ft)).setCell _ _ (.inl h.ft), fun _ g => .inl g⟩
    have v1 : (0 : Int) ≤ (k : Int) := by omega
    have v2 : (k : Int) < 8 := by omega
    have hlt : tb < w.heap.size := h.lt _ h.ft
    clear h hkk hE h1
    go_enter Try.func23, Try.ntmps23
    go_wp2_with (go_at_call 36; refine I1.mono ?_; rintro e w' ⟨rfl, rfl⟩)
    go_region
    all_goals go_wp2
    all_goals go_ret
    all_goals exact ⟨rfl, F, (thP tb zs _ _).below ⟨_, _, az, cz, HE.out⟩ (Below.refl _ _).drew, HF.out.1.drew, HF.out.2⟩
end Go.Proofs.Ytkbldbbhcdiihaa
