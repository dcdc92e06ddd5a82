/- Proved: contracts of the library's ContainsFunc over rules with isWrong, and of anyTwice, which keeps a set of what rules are for. -/
import Derived.Test.YtpifkoblcbjiiaaChk
namespace Go.Proofs.Ytpifkoblcbjiiaa
open Go.RowKit Go.Shelf
set_option linter.unusedVariables false

set_option maxRecDepth 100000 in
set_option maxHeartbeats 1000000 in
theorem idxW_any (w : World) (a : Option Addr) (cp : Nat) (l : List Rl) (h : RdR w a l) (hl : Lt l) :
    Calls Try.prog 73 #[.slice a l.length cp, .func (.func 59) #[] #[]] w fun e w' => ∃ r : Int, e = .returned (.int .i64 r) ∧ decide (0 ≤ r) = !l.all okR ∧ Below w.heap.size w w' := by
  have HR : Hid (RdR w a l) := h
  have HL : Hid _ := hl.2
  have hll := hl.1
  have eg : ∀ args w, (callFunc 59 args).run Try.prog w = .ok (.enter 59 args) w := enters_of Try.func59 (by kernel_rfl) rfl
  clear h hl
  go_enter Try.func73, Try.ntmps73
  go_wp2_with fail
  go_loopw [8] (fun s8 wr => ∃ k : Nat, k ≤ l.length ∧ s8 = .int .i64 k ∧ Hid (∀ i, i < k → okR (nthR l i) = true) ∧ Below w.heap.size w wr) (fun s8 _ => l.length - (intOf s8).toNat)
  case atStart => exact ⟨0, Nat.zero_le _, rfl, (fun i hi => absurd hi (Nat.not_lt_zero _) : ∀ i, i < 0 → okR (nthR l i) = true), Below.refl _ _⟩
  case round =>
    obtain ⟨k, hk, rfl, HJ, hbw⟩ := hrel
    by_cases hkl : k < l.length
    · have hk' : (k : Int) < (l.length : Int) := by omega
      obtain ⟨r, hr⟩ : ∃ r, nthR l k = r := ⟨_, rfl⟩
      obtain ⟨b, off, rfl, hB, x0, x1, x2, x3⟩ := (RdR.below HR.out hbw).cells hkl hr
      have C := wrong_any wr r (RdR.at (RdR.below HR.out hbw) hkl hr).2.2 (by have := HL.out r (hr ▸ nthR_mem hkl); omega)
      have HRE : Hid _ := hr
      clear hr
      cases hbit : okR r with
      | false =>
        rw [hbit] at C
        have HBT : Hid _ := hbit
        clear hbit
        obtain ⟨st, cl, nx, sa, sc, os⟩ := r
        dsimp only [rv] at C x0 x1 x2 x3
        go_wp2_with (go_at_call 59; refine C.mono ?_; rintro e w' ⟨rfl, hb1⟩)
        go_ret
        refine ⟨_, rfl, ?_, hbw.trans (hb1.mono hbw.size)⟩
        have : l.all okR = false := by
          rw [List.all_eq_false]
          exact ⟨_, (memR l _).2 ⟨k, hkl, HRE.out⟩, by rw [HBT.out]; decide⟩
        rw [this]
        simp
      | true =>
        rw [hbit] at C
        have HBT : Hid _ := hbit
        clear hbit
        obtain ⟨st, cl, nx, sa, sc, os⟩ := r
        dsimp only [rv] at C x0 x1 x2 x3
        go_wp2_with (go_at_call 59; refine C.mono ?_; rintro e w' ⟨rfl, hb1⟩)
        go_roundw
        case rel =>
          refine ⟨k + 1, by omega, by go_num, ?_, hbw.trans (hb1.mono hbw.size)⟩
          refine (fun i hi => ?_ : ∀ i, i < k + 1 → okR (nthR l i) = true)
          by_cases e : i = k
          · rw [e, HRE.out]; exact HBT.out
          · exact HJ.out i (by omega)
        case measure => simp [intOf]; omega
    · obtain rfl : k = l.length := by omega
      go_wp2
      go_ret
      refine ⟨_, rfl, ?_, hbw⟩
      have : l.all okR = true := by
        rw [List.all_eq_true]
        intro x hx
        obtain ⟨i, hi, rfl⟩ := (memR l x).1 hx
        exact HJ.out i hi
      rw [this]
      rfl
set_option maxRecDepth 100000 in
theorem contW_any (w : World) (a : Option Addr) (cp : Nat) (l : List Rl) (h : RdR w a l) (hl : Lt l) :
    Calls Try.prog 58 #[.slice a l.length cp, .func (.func 59) #[] #[]] w fun e w' => e = .returned (.bool (!l.all okR)) ∧ Below w.heap.size w w' := by
  have I := idxW_any w a cp l h hl
  have hll := hl.1
  obtain ⟨B, hB⟩ : ∃ B, l.all okR = B := ⟨_, rfl⟩
  rw [hB] at I ⊢
  clear hB h hl
  go_enter Try.func58, Try.ntmps58
  go_wp2_with (go_at_call 73; refine I.mono ?_; rintro e w' ⟨r, rfl, hr, hb1⟩; have HR : Hid _ := hr; clear hr I)
  go_ret
  refine ⟨?_, hb1⟩
  have e := HR.out
  simp [e, Array.getD]

/-! ### The set of what rules are for -/
abbrev T := Int × Int
abbrev tv (k : T) : Value := .agg #[.int .i64 k.1, .int .i64 k.2]
def twf (k : T) : Prop := i64 k.1 ∧ i64 k.2
theorem keyedT : Maps.Keyed Try.prog 91 := Maps.Keyed.of_law (deep_law_laid (m := 10) (by kernel_rfl) (by omega) (of_decide_eq_true (by kernel_rfl)) (by kernel_rfl) (by kernel_rfl))
theorem prog_types : ∃ m, Try.prog.types.size = m + 2 := by
  have h : decide (2 ≤ Try.prog.types.size) = true := by kernel_rfl
  have := of_decide_eq_true h
  exact ⟨Try.prog.types.size - 2, by omega⟩
def klP (P : Program) (k : T) : Lit := (keyOf P 91 (tv k)).getD (.int .i64 0)
theorem keyT : Try.prog.keyType 91 = true := by kernel_rfl
theorem keyLitsT (d : Nat) (a b : Int) (ha : (Lit.int .i64 a).wf = true) (hb : (Lit.int .i64 b).wf = true) : (Try.prog.keyLits (d + 2) 91 [.int .i64 a, .int .i64 b]).isSome = true := by
  have h3 : Try.prog.cellsOf 91 = 2 := by kernel_rfl
  have h1 : Try.prog.cellsOf 3 = 1 := by kernel_rfl
  unfold Program.keyLits
  simp only [Try.underlying91]
  rw [if_pos (by refine ⟨by rw [h3]; rfl, by simp⟩)]
  simp [h1, Program.keyLits, Try.underlying3, ha, hb]
theorem kl_some {k : T} (h : twf k) : keyOf Try.prog 91 (tv k) = some (klP Try.prog k) := by
  obtain ⟨m, hm⟩ := prog_types
  have h3 : Try.prog.cellsOf 91 = 2 := by kernel_rfl
  have hs : (keyOf Try.prog 91 (tv k)).isSome = true := by
    have hl := keyLitsT (m + 1) k.1 k.2 (i64_wf h.1) (i64_wf h.2)
    unfold keyOf
    simp only [Try.underlying91]
    rw [if_pos (by simp [keyT, Value.formed, Try.underlying91, h3]), hm]
    simp only [Value.cells, Option.isSome_map]
    exact hl
  unfold klP
  obtain ⟨l, hl⟩ := Option.isSome_iff_exists.1 hs
  rw [hl]; rfl
theorem kl_inj {a b : T} (ha : twf a) (hb : twf b) (h : klP Try.prog a = klP Try.prog b) : a = b := by
  have h1 := kl_some ha
  have h2 := kl_some hb
  rw [h] at h1
  have h3 := keyedT.inj h1 h2
  obtain ⟨a1, a2⟩ := a
  obtain ⟨b1, b2⟩ := b
  simpa [tv] using h3
theorem kl_lit {k : T} (h : twf k) : WideAt.IsKeyLit (klP Try.prog k) := keyedT.key (kl_some h)
/-- The set at block b holds the things ks, and no others. -/
def SetIs (w : World) (b : Nat) (ks : List T) : Prop :=
  ∃ D : DataW Unit, w.ownsMap Try.prog 91 (unitElem (H := Unit)) b ks.length D ∧ ∀ k, twf k → (Maps.has D (klP Try.prog k) = true ↔ k ∈ ks)
theorem SetIs.made (w : World) : SetIs (w.alloc (.map #[] 0)) w.heap.size [] :=
  ⟨.map [], World.ownsMap_made _ _ _ _, fun k _ => by simp [Maps.has]⟩
theorem SetIs.lt {w : World} {b : Nat} {ks : List T} (h : SetIs w b ks) : b < w.heap.size := by
  obtain ⟨D, h1, _⟩ := h
  exact h1.lt
theorem SetIs.below {w w' : World} {b : Nat} {ks : List T} (h : SetIs w b ks) (hb : Below w.heap.size w w') : SetIs w' b ks := by
  obtain ⟨D, ⟨es, clock, h1, h2⟩, h3⟩ := h
  exact ⟨D, ⟨es, clock, (hb.block b (Array.getElem?_eq_some_iff.1 h1).1).trans h1, h2⟩, h3⟩
theorem SetIs.look {w : World} {b : Nat} {ks : List T} (h : SetIs w b ks) {k : T} (hk : twf k) :
    (Instr.lookup 89 (.map (some b)) (tv k) true).run Try.prog w = .ok (.tuple #[.agg #[], .bool (decide (k ∈ ks))]) w := by
  obtain ⟨D, hown, hhas⟩ := h
  have hb : Maps.has D (klP Try.prog k) = decide (k ∈ ks) := by
    cases e : Maps.has D (klP Try.prog k)
    · symm; rw [decide_eq_false_iff_not]; intro g; rw [(hhas k hk).2 g] at e; cases e
    · symm; rw [decide_eq_true_iff]; exact (hhas k hk).1 e
  obtain ⟨v, ps, hrun, hv⟩ := World.ownsMap.look_ok (H := Unit) hown keyedT Try.underlying89 (Try.zeroValue92 _) (unitElem_mk (H := Unit)) (kl_some hk)
  obtain ⟨rfl, _⟩ := unitElem_inv hv
  rw [hb] at hrun
  exact hrun
theorem ownsSet_size {w : World} {b n m : Nat} {D : DataW Unit} (h : w.ownsMap Try.prog 91 (unitElem (H := Unit)) b n D) (hm : Maps.size D ≤ m) : w.ownsMap Try.prog 91 (unitElem (H := Unit)) b m D := by
  obtain ⟨es, clock, h1, h2, h3, rfl⟩ := h
  refine ⟨es, clock, h1, h2, ?_, rfl⟩
  simpa [Maps.size, length_sorted] using hm
set_option maxRecDepth 10000 in
theorem SetIs.put {w0 w : World} {b : Nat} {ks : List T} (h : SetIs w b ks) (hB : Below w0.heap.size w0 w) (hb : w0.heap.size ≤ b) (hl : ks.length ≤ 1000) {k : T} (hk : twf k) (hn : k ∉ ks) :
    ∃ W1, (Instr.mapUpdate 89 (.map (some b)) (tv k) (.agg #[])).run Try.prog w = .ok () W1 ∧ SetIs W1 b (ks ++ [k]) ∧ Below w0.heap.size w0 W1 := by
  obtain ⟨D, hown, hhas⟩ := h
  have t0 := hown.tidy keyedT
  obtain ⟨W1, r1, o1, m1⟩ := World.ownsMap.store (H := Unit) hown keyedT Try.underlying89 (by unfold maxLen; omega) (kl_some hk) (unitElem_mk (H := Unit))
  have hno : Maps.has D (klP Try.prog k) = false := by
    cases e : Maps.has D (klP Try.prog k)
    · rfl
    · exact absurd ((hhas _ hk).1 e) hn
  refine ⟨W1, r1, ⟨_, ownsSet_size o1 ?_, ?_⟩, hB.grown m1.grown hB.size (fun k e => by simp at e; omega)⟩
  · rw [Maps.size_put t0, if_neg (by simp [hno])]
    have := hown.size_le
    simp; omega
  · intro j hj
    by_cases e : j = k
    · subst e
      rw [Maps.has_put_same t0.isMap (kl_lit hj)]
      simp
    · rw [Maps.has_put_other (fun h => e (kl_inj hj hk h)), hhas j hj]
      simp [e]
/-- What a rule is for. -/
def key (r : Rl) : T := (r.st, r.cl)
theorem nth_key (l : List Rl) (k : Nat) (h : k < l.length) : (l.map key).take (k + 1) = (l.map key).take k ++ [key (nthR l k)] := by
  rw [List.take_add_one]
  congr 1
  simp [nthR, h]

set_option maxRecDepth 100000 in
set_option maxHeartbeats 1000000 in
theorem twice_any (w : World) (a : Option Addr) (cp : Nat) (l : List Rl) (h : RdR w a l) (hl : l.length ≤ 100) :
    Calls Try.prog 60 #[.slice a l.length cp] w fun e w' => e = .returned (.bool (!decide (l.map key).Nodup)) ∧ Below w.heap.size w w' := by
  have HR : Hid (RdR w a l) := h
  have hmm := @run_makeMap Try.prog
  have HS0 : Hid _ := SetIs.made w
  have hb0 : Hid (Below w.heap.size w (w.alloc (.map #[] 0))) := (Below.refl _ w).alloc (Nat.le_refl _) _
  obtain ⟨mb, hmb⟩ : ∃ mb, w.heap.size = mb := ⟨_, rfl⟩
  have HMB : Hid _ := hmb
  clear h
  go_enter Try.func60, Try.ntmps60
  go_wp2_with fail

  clear hmb hmm
  go_loopw [12] (fun s12 wr => ∃ k : Nat, k ≤ l.length ∧ s12 = .int .i64 k ∧ Hid (SetIs wr mb ((l.map key).take k) ∧ ((l.map key).take k).Nodup) ∧ Below w.heap.size w wr) (fun s12 _ => l.length - (intOf s12).toNat)
  case atStart => exact ⟨0, Nat.zero_le _, rfl, ((by rw [← HMB.out]; exact ⟨HS0.out, List.nodup_nil⟩) : SetIs _ mb _ ∧ _), hb0.out⟩
  case round =>
    obtain ⟨k, hk, rfl, HJ, hbw⟩ := hrel
    by_cases hkl : k < l.length
    · have hk' : (k : Int) < (l.length : Int) := by omega
      obtain ⟨r, hr⟩ : ∃ r, nthR l k = r := ⟨_, rfl⟩
      obtain ⟨b, off, rfl, hB, x0, x1, x2, x3⟩ := (RdR.below HR.out hbw).cells hkl hr
      obtain ⟨w1, w2, _⟩ := RdR.at (RdR.below HR.out hbw) hkl hr
      have HRE : Hid _ := hr
      clear hr
      obtain ⟨st, cl, nx, sa, sc, os⟩ := r
      dsimp only at x0 x1 x2 x3 w1 w2
      have hkw : twf (st, cl) := ⟨w1, w2⟩
      obtain ⟨W2, hW2⟩ : ∃ W2, W2 = (wr.alloc (.cells #[.int .i64 st, .int .i64 cl, .int .i64 nx, .slice sa os.length sc] 44)).alloc (.cells #[.int .i64 st, .int .i64 cl] 91) := ⟨_, rfl⟩
      have hb2 : Below wr.heap.size wr W2 := by rw [hW2]; exact ((Below.refl _ wr).alloc (Nat.le_refl _) _).alloc (by simp) _
      have hS2 := (HJ.out).1.below hb2
      have L := hS2.look hkw
      dsimp only [tv] at L
      by_cases hin : (st, cl) ∈ (l.map key).take k
      · rw [decide_eq_true hin] at L
        have HIN : Hid _ := hin
        have HB2 : Hid (Below w.heap.size w W2) := hbw.trans (hb2.mono hbw.size)
        rw [hW2] at L
        clear hin hS2 hb2 hkw w1 w2
        go_wp2
        go_ret
        refine ⟨?_, hW2 ▸ ((HB2.out).alloc (HB2.out).size _)⟩
        rw [decide_eq_false (fun hnd => ?_)]
        · rfl
        · have h1 : (l.map key).take (k + 1) = (l.map key).take k ++ [(st, cl)] := by rw [nth_key l k hkl, HRE.out]; rfl
          have h2 : ((l.map key).take (k + 1)).Nodup := hnd.sublist (List.take_sublist _ _)
          rw [h1, List.nodup_append] at h2
          exact h2.2.2 _ HIN.out _ (by simp) rfl
      · rw [decide_eq_false hin] at L
        have hb3 : Below W2.heap.size W2 (W2.alloc (.cells #[] 92)) := (Below.refl _ W2).alloc (Nat.le_refl _) _
        have hw3 : Below w.heap.size w (W2.alloc (.cells #[] 92)) := (hbw.trans (hb2.mono hbw.size)).trans (hb3.mono (hbw.trans (hb2.mono hbw.size)).size)
        obtain ⟨W4, r4, s4, b4⟩ := (hS2.below hb3).put hw3 (by rw [HMB.out]; exact Nat.le_refl _) (by rw [List.length_take]; omega) hkw hin
        have HN : Hid (((l.map key).take (k + 1)).Nodup ∧ SetIs W4 mb ((l.map key).take (k + 1))) := by
          have h1 : (l.map key).take (k + 1) = (l.map key).take k ++ [(st, cl)] := by rw [nth_key l k hkl, HRE.out]; rfl
          rw [h1]
          refine ⟨List.nodup_append.2 ⟨(HJ.out).2, by simp, ?_⟩, s4⟩
          intro x hx y hy
          simp at hy
          subst hy
          exact fun e => hin (e ▸ hx)
        have HB4 : Hid _ := b4
        rw [hW2] at L r4
        dsimp only [tv] at r4
        clear hin hS2 hb2 hkw w1 w2 s4 b4 hb3 hw3 hW2
        go_wp2
        go_roundw
        case rel => exact ⟨k + 1, by omega, by go_num, (⟨(HN.out).2, (HN.out).1⟩ : SetIs _ mb _ ∧ _), HB4.out⟩
        case measure => simp [intOf]; omega
    · obtain rfl : k = l.length := by omega
      go_wp2
      go_ret
      refine ⟨?_, hbw⟩
      have h1 := (HJ.out).2
      rw [List.take_of_length_le (by simp)] at h1
      rw [decide_eq_true h1]
      rfl
end Go.Proofs.Ytpifkoblcbjiiaa
