/- Proved: contracts of Step, the program's and the document's, and of the document's Same at one list. -/
import Derived.Test.YtddjfjecamcfnaaStp
namespace Go.Proofs.Ytddjfjecamcfnaa
open Go.RowKit Go.Shelf
set_option linter.unusedVariables false

theorem stp_no {l : List Rl} {s c : Int} (h : fnd l s c = -1) : stp l s c = (s, []) := by unfold stp; rw [h]; rfl
theorem stp_at {l : List Rl} {s c : Int} {k : Nat} (h : fnd l s c = (k : Int)) : stp l s c = ((nthR l k).nx, (nthR l k).os) := by
  unfold stp
  rw [h, if_neg (by omega)]
  simp
theorem stp_len {l : List Rl} (h : Lt l) (s c : Int) : (stp l s c).2.length ≤ 20 := by
  rcases idxP_cases (isB s c) l with ⟨e, _⟩ | ⟨k, hk, e, _⟩
  · rw [stp_no e]; simp
  · rw [stp_at e]; exact h.2 _ (nthR_mem hk)

set_option maxRecDepth 100000 in
set_option maxHeartbeats 1000000 in
theorem step_any (w : World) (a : Option Addr) (cp : Nat) (l : List Rl) (s c : Int) (h : RdR w a l) (hl : Lt l) :
    Calls Try.prog 10 #[.slice a l.length cp, .int .i64 s, .int .i64 c] w fun e w' => ∃ a' c', e = .returned (.tuple #[.int .i64 (stp l s c).1, .slice a' (stp l s c).2.length c']) ∧ RowO w w' (.slice a' (stp l s c).2.length c') (stp l s c).2 := by
  have mixed : Try.prog.follows .mixedOrders = true := by kernel_rfl
  have F := find_any w a cp l s c h (by have := hl.1; omega)
  rcases idxP_cases (isB s c) l with ⟨e, _⟩ | ⟨k, hk, e, _⟩
  · rw [stp_no e]
    rw [← fnd_idx] at e
    rw [e] at F
    dsimp only
    clear h hl e
    go_enter Try.func10, Try.ntmps10
    go_wp2_with (go_at_call 14; refine F.mono ?_; rintro e w' ⟨rfl, hb1⟩)
    go_ret2
    exact ⟨_, _, rfl, (RowO.nil w).below hb1⟩
  · rw [stp_at e]
    rw [← fnd_idx] at e
    rw [e] at F
    dsimp only
    obtain ⟨r, hr⟩ : ∃ r, nthR l k = r := ⟨_, rfl⟩
    rw [hr]
    have HR : Hid (RdR w a l) := h
    have HL : Hid (r.os.length ≤ 20) := hr ▸ hl.2 _ (nthR_mem hk)
    have hll := hl.1
    obtain ⟨b, off, rfl, _⟩ := h.cells hk hr
    have hk' : (k : Int) < (l.length : Int) := by omega
    have HX : Hid (∀ W, Below w.heap.size w W → W.cell? ⟨b, off + k * 4 + 2, none⟩ = some (.int .i64 r.nx) ∧ W.cell? ⟨b, off + k * 4 + 3, none⟩ = some (.slice r.sa r.os.length r.sc) ∧ RdO W r.sa r.os) := fun W hW => by
      obtain ⟨b', off', e, hB, x0, x1, x2, x3⟩ := (h.below hW).cells hk hr
      simp at e
      obtain ⟨rfl, rfl⟩ := e
      exact ⟨x2, x3, ((h.below hW).at hk hr).2.2⟩
    clear h hl e hr
    go_enter Try.func10, Try.ntmps10
    go_wp2_with fail
    refine F.mono ?_
    rintro e w1 ⟨rfl, hb1⟩
    obtain ⟨x2, x3, hrd⟩ := HX.out w1 hb1
    have K := clone_any w1.drew r.sa r.sc r.os (hrd.below ((Below.refl _ w1).drew)) (by have := HL.out; omega)
    have HB1 : Hid _ := hb1
    clear hrd F hb1
    go_wp2_with fail
    go_region_held3 (fun w' => w'.cell? ⟨b, off + k * 4 + 2, none⟩ = some (.int .i64 r.nx) ∧ w'.cell? ⟨b, off + k * 4 + 3, none⟩ = some (.slice r.sa r.os.length r.sc)) (go_keep) (first | (go_at_call 21; refine K.mono ?_; rintro e w2 ⟨a', c', rfl, hR⟩; have HRO : Hid _ := hR.since ((HB1.out).drew); obtain ⟨y2, y3, _⟩ := HX.out w2 (HRO.out).2; clear hR))
    all_goals go_wp2
    all_goals go_ret2
    all_goals exact ⟨_, _, rfl, HRO.out⟩

theorem step_append_run {P : Program} {ops : Array Oper} {o : Oper} {a : Act} {w : World} {K : Act → World → Prop} {Q : Exit → Act → World → Prop} {E : Prop}
    (hg : o.guard = none) (s x : Operand) (t : TypeId) (hop : o.op = Op.call { callee := Callee.builtin Builtin.append, args := #[s, x], argTypes := #[t, t] })
    {v1 v2 v' : Value} {w' : World} (hs : a.eval s = v1) (hx : a.eval x = v2) (hrun : (Builtin.append_ #[t, t] o.type #[v1, v2]).run P w = .ok v' w')
    (hK : K (a.put o.dst v') w') :
    if Region.wanted o (yielded ops a.tmps) = true then Oper.wp P o a w K Q else E := by
  have hw : Region.wanted o (yielded ops a.tmps) = true := by simp [Region.wanted, hg]
  rw [if_pos hw]
  unfold Oper.wp
  simp [execOp, hop, resolve, invoke, builtin, hs, hx, hrun, Result.andThen]
  exact hK

set_option maxRecDepth 100000 in
set_option maxHeartbeats 1000000 in
theorem rstep_any (w : World) (a : Option Addr) (cp : Nat) (l : List Rl) (s c : Int) (h : RdR w a l) (hl : Lt l) :
    Calls Try.prog 11 #[.slice a l.length cp, .int .i64 s, .int .i64 c] w fun e w' => ∃ a' c', e = .returned (.tuple #[.int .i64 (stp l s c).1, .slice a' (stp l s c).2.length c']) ∧ RowO w w' (.slice a' (stp l s c).2.length c') (stp l s c).2 := by
  have mixed : Try.prog.follows .mixedOrders = true := by kernel_rfl
  have F := rfind_any w a cp l s c h (by have := hl.1; omega)
  rcases idxP_cases (isB s c) l with ⟨e, _⟩ | ⟨k, hk, e, _⟩
  · rw [stp_no e]
    rw [← fnd_idx] at e
    rw [e] at F
    dsimp only
    clear h hl e
    go_enter Try.func11, Try.ntmps11
    go_wp2_with (go_at_call 15; refine F.mono ?_; rintro e w' ⟨rfl, rfl⟩)
    go_ret2
    exact ⟨_, _, rfl, RowO.nil w⟩
  · rw [stp_at e]
    rw [← fnd_idx] at e
    rw [e] at F
    dsimp only
    obtain ⟨r, hr⟩ : ∃ r, nthR l k = r := ⟨_, rfl⟩
    rw [hr]
    have HL : Hid (r.os.length ≤ 20) := hr ▸ hl.2 _ (nthR_mem hk)
    have hll := hl.1
    obtain ⟨b, off, rfl, hB, _, _, x2, x3⟩ := h.cells hk hr
    have hrd := (h.at hk hr).2.2
    have hk' : (k : Int) < (l.length : Int) := by omega
    obtain ⟨a', c', w', hrun, hRO⟩ := append_O (c := r.sc) ((RowO.empty w).below ((Below.refl _ _).drew)) (hrd.below ((RowO.empty w).2.drew)) (by simp) (by have := HL.out; omega) 24 r.os rfl
    have y2 := (hRO.2.cell (p := ⟨b, off + k * 4 + 2, none⟩) hB).trans x2
    have y3 := (hRO.2.cell (p := ⟨b, off + k * 4 + 3, none⟩) hB).trans x3
    have HRUN : Hid _ := hrun
    have HRO : Hid _ := hRO
    clear h hl e hr hrd hrun hRO
    go_enter Try.func11, Try.ntmps11
    go_wp2_with (go_at_call 15; refine F.mono ?_; rintro e w' ⟨rfl, rfl⟩)
    go_region_law (refine step_append_run rfl (.tmp 23) (.tmp 28) 24 rfl (by simp [Act.eval]) (by simp [Act.eval]) HRUN.out ?_)
    all_goals go_wp2
    all_goals go_ret2
    all_goals exact ⟨_, _, rfl, HRO.out⟩

set_option maxRecDepth 100000 in
set_option maxHeartbeats 400000 in
theorem same_yes (w : World) (a b : Option Addr) (c d : Nat) (l : List O) (ha : RdO w a l) (hb : RdO w b l) (hl : l.length ≤ 100000) :
    Calls Try.prog 16 #[.slice a l.length c, .slice b l.length d] w fun e w' => e = .returned (.bool true) ∧ Below w.heap.size w w' := by
  have mixed : Try.prog.follows .mixedOrders = true := by kernel_rfl
  have HA : Hid _ := ha
  have HB : Hid _ := hb
  clear ha hb
  go_enter Try.func16, Try.ntmps16
  go_wp2_with fail
  go_loopw [5] (fun s5 wr => ∃ k : Nat, k ≤ l.length ∧ s5 = .int .i64 k ∧ Below w.heap.size w wr) (fun s5 _ => l.length - (intOf s5).toNat)
  case atStart => exact ⟨0, Nat.zero_le _, rfl, Below.refl _ _⟩
  case round =>
    obtain ⟨k, hk, rfl, hbw⟩ := hrel
    by_cases hkl : k < l.length
    · have hk' : (k : Int) < (l.length : Int) := by omega
      obtain ⟨x, hx⟩ : ∃ x, nthO l k = x := ⟨_, rfl⟩
      obtain ⟨b1, o1, rfl, _, x0, x1, x2⟩ := (RdO.below HA.out hbw).cells hkl hx
      obtain ⟨b2, o2, rfl, _, y0, y1, y2⟩ := (RdO.below HB.out hbw).cells hkl hx
      clear hx
      obtain ⟨p, q, r⟩ := x
      dsimp only at x0 x1 x2 y0 y1 y2
      go_wp2_with fail
      go_region
      go_wp2
      go_roundw
      case rel => exact ⟨k + 1, by omega, by go_num, hbw.drew⟩
      case measure => simp [intOf]; omega
    · obtain rfl : k = l.length := by omega
      go_wp2
      go_ret
      exact ⟨rfl, hbw⟩
end Go.Proofs.Ytddjfjecamcfnaa
