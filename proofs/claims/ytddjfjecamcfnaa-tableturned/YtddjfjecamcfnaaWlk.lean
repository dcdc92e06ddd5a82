/- Proved: contracts of Walk, the program's and the document's. -/
import Derived.Test.YtddjfjecamcfnaaOpr
namespace Go.Proofs.Ytddjfjecamcfnaa
open Go.RowKit Go.Shelf
set_option linter.unusedVariables false

/-- What rules come to over classes, one behind the other. -/
def wst (l : List Rl) (p : Int × List O) (c : Int) : Int × List O := ((stp l p.1 c).1, p.2 ++ (stp l p.1 c).2)
def wlk (l : List Rl) (s : Int) (cs : List Int) : Int × List O := cs.foldl (wst l) (s, [])
theorem wlk_acc (l : List Rl) (cs : List Int) : ∀ (s : Int) (X : List O), cs.foldl (wst l) (s, X) = ((wlk l s cs).1, X ++ (wlk l s cs).2) := by
  induction cs with
  | nil => intro s X; simp [wlk]
  | cons c r ih =>
    intro s X
    rw [show (c :: r).foldl (wst l) (s, X) = r.foldl (wst l) ((stp l s c).1, X ++ (stp l s c).2) from rfl, show wlk l s (c :: r) = r.foldl (wst l) ((stp l s c).1, [] ++ (stp l s c).2) from rfl, ih, ih]
    simp
theorem wlk_append (l : List Rl) (s : Int) (a b : List Int) : wlk l s (a ++ b) = ((wlk l (wlk l s a).1 b).1, (wlk l s a).2 ++ (wlk l (wlk l s a).1 b).2) := by
  unfold wlk
  rw [List.foldl_append]
  exact wlk_acc l b (wlk l s a).1 (wlk l s a).2
theorem wlk_take (l : List Rl) (s : Int) (cs : List Int) (k : Nat) (h : k < cs.length) : wlk l s (cs.take (k + 1)) = ((stp l (wlk l s (cs.take k)).1 (nthI cs k)).1, (wlk l s (cs.take k)).2 ++ (stp l (wlk l s (cs.take k)).1 (nthI cs k)).2) := by
  have e : cs.take (k + 1) = cs.take k ++ [nthI cs k] := by
    rw [List.take_add_one]
    congr 1
    simp [nthI, h]
  rw [e]
  unfold wlk
  rw [List.foldl_append]
  rfl
theorem wlk_len {l : List Rl} (h : Lt l) (s : Int) (cs : List Int) : (wlk l s cs).2.length ≤ 20 * cs.length := by
  induction cs generalizing s with
  | nil => simp [wlk]
  | cons c r ih =>
    rw [show c :: r = [c] ++ r from rfl, wlk_append]
    have h1 : wlk l s [c] = ((stp l s c).1, (stp l s c).2) := by simp [wlk, wst]
    rw [h1]
    have h2 := ih (stp l s c).1
    have h3 := stp_len h s c
    simp only [List.length_append, List.length_cons]
    simp
    omega

set_option maxRecDepth 100000 in
set_option maxHeartbeats 1000000 in
theorem walk_any (w : World) (a : Option Addr) (cp : Nat) (l : List Rl) (s : Int) (b : Option Addr) (d : Nat) (cs : List Int) (h : Rs w a cp l) (hi : RdI w w.heap.size b cs) (hc : cs.length ≤ 1000) :
    Calls Try.prog 19 #[.slice a l.length cp, .int .i64 s, .slice b cs.length d] w fun e w' => ∃ a' c', e = .returned (.tuple #[.int .i64 (wlk l s cs).1, .slice a' (wlk l s cs).2.length c']) ∧ RowO w w' (.slice a' (wlk l s cs).2.length c') (wlk l s cs).2 := by
  have HR : Hid (Rs w a cp l) := h
  have HI : Hid (RdI w w.heap.size b cs) := hi
  clear h hi
  go_enter Try.func19, Try.ntmps19
  go_wp2_with fail
  go_loopw [1, 8, 14] (fun s1 s8 s14 wr => ∃ (k : Nat) (n : Int) (X : List O) (a8 : Option Addr) (c8 : Nat), k ≤ cs.length ∧ s14 = .int .i64 k ∧ s1 = .int .i64 n ∧ s8 = .slice a8 X.length c8 ∧ Hid (wlk l s (cs.take k) = (n, X)) ∧ RowO w wr (.slice a8 X.length c8) X) (fun _ _ s14 _ => cs.length - (intOf s14).toNat)
  case atStart => exact ⟨0, s, [], none, 0, Nat.zero_le _, rfl, rfl, rfl, (rfl : wlk l s (cs.take 0) = (s, [])), RowO.nil w⟩
  case round =>
    obtain ⟨k, n, X, a8, c8, hk, rfl, rfl, rfl, HW, hRO⟩ := hrel
    have hbw := hRO.2
    have HRO : Hid _ := hRO
    clear hRO
    by_cases hkl : k < cs.length
    · have hk' : (k : Int) < (cs.length : Int) := by omega
      obtain ⟨b0, off, rfl, hB, hcc⟩ := (RdI.below HI.out hbw) (by intro e; simp [e] at hkl)
      have x0 := hcc k hkl
      obtain ⟨c, hcE⟩ : ∃ c, nthI cs k = c := ⟨_, rfl⟩
      rw [hcE] at x0
      have HCE : Hid _ := hcE
      obtain ⟨m, Y, hst⟩ : ∃ m Y, stp l n c = (m, Y) := ⟨_, _, rfl⟩
      have hYl : Y.length ≤ 20 := by have := stp_len (HR.out).lt n c; rwa [hst] at this
      have hXl : X.length ≤ 20000 := by
        have := wlk_len (HR.out).lt s (cs.take k)
        rw [HW.out, List.length_take] at this
        dsimp only at this
        omega
      have HW' : Hid (wlk l s (cs.take (k + 1)) = (m, X ++ Y)) := by
        show _ = _
        rw [wlk_take l s cs k hkl, HW.out, HCE.out, hst]
      have S1 := ((HR.out).below hbw).step n c hst
      obtain ⟨Z, hZ⟩ : ∃ Z, X ++ Y = Z := ⟨_, rfl⟩
      rw [hZ] at HW'
      have HZ : Hid _ := hZ
      clear hcE hcc hst hZ
      go_wp2_with fail
      refine S1.mono ?_
      rintro e w1 ⟨a1, c1, rfl, hR1⟩
      have HRD : Hid _ := RowO.look hR1 (Below.refl _ _)
      have HRW : Hid _ := RowO.below HRO.out hR1.2
      clear hR1 S1
      go_wp2_with (at_builtin; refine wpList_append_O _ rfl _ _ rfl w _ _ _ X Y rfl rfl (Hid.out HRW) (Hid.out HRD) (by omega) (by omega) Z HZ.out ?_; intro a' c' w' hr; have HR2 : Hid _ := hr; clear hr)
      go_roundw
      case rel => exact ⟨k + 1, m, Z, a', c', by omega, by go_num, rfl, rfl, HW', HR2.out⟩
      case measure => simp [intOf]; omega
    · obtain rfl : k = cs.length := by omega
      go_wp2
      go_ret2
      have e := HW.out
      rw [List.take_of_length_le (Nat.le_refl _)] at e
      rw [e]
      exact ⟨_, _, rfl, HRO.out⟩

set_option maxRecDepth 100000 in
set_option maxHeartbeats 1000000 in
theorem rwalk_any (w : World) (a : Option Addr) (cp : Nat) (l : List Rl) (s : Int) (b : Option Addr) (d : Nat) (cs : List Int) (h : Rs w a cp l) (hi : RdI w w.heap.size b cs) (hc : cs.length ≤ 1000) :
    Calls Try.prog 20 #[.slice a l.length cp, .int .i64 s, .slice b cs.length d] w fun e w' => ∃ a' c', e = .returned (.tuple #[.int .i64 (wlk l s cs).1, .slice a' (wlk l s cs).2.length c']) ∧ RowO w w' (.slice a' (wlk l s cs).2.length c') (wlk l s cs).2 := by
  have HR : Hid (Rs w a cp l) := h
  have HI : Hid (RdI w w.heap.size b cs) := hi
  have HE : Hid _ := RowO.empty w
  clear h hi
  go_enter Try.func20, Try.ntmps20
  go_wp2_with fail
  go_loopw [1, 8, 9] (fun s1 s8 s9 wr => ∃ (k : Nat) (n : Int) (X : List O) (a8 : Option Addr) (c8 : Nat), k ≤ cs.length ∧ s9 = .int .i64 k ∧ s1 = .int .i64 n ∧ s8 = .slice a8 X.length c8 ∧ Hid (wlk l s (cs.take k) = (n, X)) ∧ RowO w wr (.slice a8 X.length c8) X) (fun _ _ s9 _ => cs.length - (intOf s9).toNat)
  case atStart => exact ⟨0, s, [], _, _, Nat.zero_le _, rfl, rfl, rfl, (rfl : wlk l s (cs.take 0) = (s, [])), HE.out⟩
  case round =>
    obtain ⟨k, n, X, a8, c8, hk, rfl, rfl, rfl, HW, hRO⟩ := hrel
    have hbw := hRO.2
    have HRO : Hid _ := hRO
    clear hRO
    by_cases hkl : k < cs.length
    · have hk' : (k : Int) < (cs.length : Int) := by omega
      obtain ⟨b0, off, rfl, hB, hcc⟩ := (RdI.below HI.out hbw) (by intro e; simp [e] at hkl)
      have x0 := hcc k hkl
      obtain ⟨c, hcE⟩ : ∃ c, nthI cs k = c := ⟨_, rfl⟩
      rw [hcE] at x0
      have HCE : Hid _ := hcE
      obtain ⟨m, Y, hst⟩ : ∃ m Y, stp l n c = (m, Y) := ⟨_, _, rfl⟩
      have hYl : Y.length ≤ 20 := by have := stp_len (HR.out).lt n c; rwa [hst] at this
      have hXl : X.length ≤ 20000 := by
        have := wlk_len (HR.out).lt s (cs.take k)
        rw [HW.out, List.length_take] at this
        dsimp only at this
        omega
      have HW' : Hid (wlk l s (cs.take (k + 1)) = (m, X ++ Y)) := by
        show _ = _
        rw [wlk_take l s cs k hkl, HW.out, HCE.out, hst]
      have S1 := ((HR.out).below hbw).rstep n c hst
      obtain ⟨Z, hZ⟩ : ∃ Z, X ++ Y = Z := ⟨_, rfl⟩
      rw [hZ] at HW'
      have HZ : Hid _ := hZ
      clear hcE hcc hst hZ
      go_wp2_with fail
      refine S1.mono ?_
      rintro e w1 ⟨a1, c1, rfl, hR1⟩
      have HRD : Hid _ := RowO.look hR1 (Below.refl _ _)
      have HRW : Hid _ := RowO.below HRO.out hR1.2
      clear hR1 S1
      go_wp2_with (at_builtin; refine wpList_append_O _ rfl _ _ rfl w _ _ _ X Y rfl rfl (Hid.out HRW) (Hid.out HRD) (by omega) (by omega) Z HZ.out ?_; intro a' c' w' hr; have HR2 : Hid _ := hr; clear hr)
      go_roundw
      case rel => exact ⟨k + 1, m, Z, a', c', by omega, by go_num, rfl, rfl, HW', HR2.out⟩
      case measure => simp [intOf]; omega
    · obtain rfl : k = cs.length := by omega
      go_wp2
      go_ret2
      have e := HW.out
      rw [List.take_of_length_le (Nat.le_refl _)] at e
      rw [e]
      exact ⟨_, _, rfl, HRO.out⟩
end Go.Proofs.Ytddjfjecamcfnaa
