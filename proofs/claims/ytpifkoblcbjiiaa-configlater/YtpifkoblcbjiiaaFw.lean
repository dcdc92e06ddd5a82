/- Proved: contracts of trials: what is wrong is found by functions that are tried one behind the other, whatever they are. -/
import Derived.Test.YtpifkoblcbjiiaaRfa
import Derived.Test.YtpifkoblcbjiiaaCk3
import Derived.Test.YtpifkoblcbjiiaaSnt
namespace Go.Proofs.Ytpifkoblcbjiiaa
open Go.RowKit Go.Shelf
set_option linter.unusedVariables false

/-- Enters the k-th function. -/
def Ent (k : Nat) : Prop := ∀ args w, (callFunc k args).run Try.prog w = .ok (.enter k args) w
/-- A function without arguments that answers an error, in whatever world behind. -/
def Tri (w : World) (v : Value) (E : Int) : Prop := ∃ k bs, v = .func (.func k) #[] bs ∧ Ent k ∧ ∀ W, Below w.heap.size w W → Calls Try.prog k bs W fun e W' => e = .returned (.int .i64 E) ∧ Below W.heap.size W W'
/-- The same, of a function that answers yes or no. -/
def TriB (w : World) (v : Value) (b : Bool) : Prop := ∃ k bs, v = .func (.func k) #[] bs ∧ Ent k ∧ ∀ W, Below w.heap.size w W → Calls Try.prog k bs W fun e W' => e = .returned (.bool b) ∧ Below W.heap.size W W'
theorem Tri.below {w w' : World} {v : Value} {E : Int} (h : Tri w v E) (hb : Below w.heap.size w w') : Tri w' v E := by
  obtain ⟨k, bs, rfl, he, hc⟩ := h
  exact ⟨k, bs, rfl, he, fun W hW => hc W (hb.trans (hW.mono hb.size))⟩
theorem TriB.below {w w' : World} {v : Value} {b : Bool} (h : TriB w v b) (hb : Below w.heap.size w w') : TriB w' v b := by
  obtain ⟨k, bs, rfl, he, hc⟩ := h
  exact ⟨k, bs, rfl, he, fun W hW => hc W (hb.trans (hW.mono hb.size))⟩
/-- The first error. -/
def fstE : List Int → Int
  | [] => 0
  | e :: r => if e = 0 then fstE r else e
theorem fstE_at {l : List Int} {k : Nat} {e : Int} (h : ∀ i, i < k → nthI l i = 0) (hk : k < l.length) (he : nthI l k = e) (h0 : e ≠ 0) : fstE l = e := by
  induction l generalizing k with
  | nil => simp at hk
  | cons x r ih =>
    cases k with
    | zero =>
      have : x = e := by simpa [nthI] using he
      simp [fstE, this, h0]
    | succ k =>
      have h1 : x = 0 := by simpa [nthI] using h 0 (by omega)
      simp only [fstE, h1, if_true]
      exact ih (k := k) (fun i hi => by have := h (i + 1) (by omega); simpa [nthI] using this) (by simpa using hk) (by simpa [nthI] using he)
theorem fstE_no {l : List Int} (h : ∀ i, i < l.length → nthI l i = 0) : fstE l = 0 := by
  induction l with
  | nil => rfl
  | cons x r ih =>
    have h1 : x = 0 := by simpa [nthI] using h 0 (by simp)
    simp only [fstE, h1, if_true]
    exact ih (fun i hi => by simpa [nthI] using h (i + 1) (by simpa using hi))

/-- Trials that can be read at a: their errors are es. -/
def RdT (w : World) (a : Option Addr) (es : List Int) : Prop :=
  es ≠ [] → ∃ b off, a = some ⟨b, off, none⟩ ∧ b < w.heap.size ∧ ∀ i, i < es.length → ∃ v, w.cell? ⟨b, off + i, none⟩ = some v ∧ Tri w v (nthI es i)

set_option maxRecDepth 100000 in
set_option maxHeartbeats 1000000 in
theorem first_any (w : World) (a : Option Addr) (cp : Nat) (es : List Int) (h : RdT w a es) (hl : es.length ≤ 100) :
    Calls Try.prog 21 #[.slice a es.length cp] w fun e w' => e = .returned (.int .i64 (fstE es)) ∧ Below w.heap.size w w' := by
  have HR : Hid (RdT w a es) := h
  clear h
  go_enter Try.func21, Try.ntmps21
  go_wp2_with fail
  go_loopw [8] (fun s8 wr => ∃ k : Nat, k ≤ es.length ∧ s8 = .int .i64 k ∧ Hid (∀ i, i < k → nthI es i = 0) ∧ Below w.heap.size w wr) (fun s8 _ => es.length - (intOf s8).toNat)
  case atStart => exact ⟨0, Nat.zero_le _, rfl, (fun i hi => absurd hi (Nat.not_lt_zero _) : ∀ i, i < 0 → nthI es i = 0), Below.refl _ _⟩
  case round =>
    obtain ⟨k, hk, rfl, HJ, hbw⟩ := hrel
    by_cases hkl : k < es.length
    · have hk' : (k : Int) < (es.length : Int) := by omega
      obtain ⟨b, off, rfl, hB, hc⟩ := HR.out (by intro e; simp [e] at hkl)
      obtain ⟨v, hv, hT⟩ := hc k hkl
      obtain ⟨kf, bs, rfl, eg, hC⟩ := hT.below hbw
      have x0 := (hbw.cell (p := ⟨b, off + k, none⟩) hB).trans hv
      obtain ⟨E, hE⟩ : ∃ E, nthI es k = E := ⟨_, rfl⟩
      rw [hE] at hC
      have HE : Hid _ := hE
      have C := hC wr (Below.refl _ _)
      unfold Ent at eg
      clear hc hv hT hC hE
      by_cases e0 : E = 0
      · subst e0
        go_wp2_with fail
        refine C.mono ?_
        rintro e w1 ⟨rfl, hb1⟩
        go_wp2
        go_roundw
        case rel =>
          refine ⟨k + 1, by omega, by go_num, ?_, hbw.trans (hb1.mono hbw.size)⟩
          refine (fun i hi => ?_ : ∀ i, i < k + 1 → nthI es i = 0)
          by_cases e : i = k
          · rw [e, HE.out]
          · exact HJ.out i (by omega)
        case measure => simp [intOf]; omega
      · have ke : (E == 0) = false := by simpa using e0
        go_wp2_with fail
        refine C.mono ?_
        rintro e w1 ⟨rfl, hb1⟩
        go_wp2
        go_ret
        refine ⟨?_, hbw.trans (hb1.mono hbw.size)⟩
        rw [fstE_at HJ.out hkl HE.out e0]
        rfl
    · obtain rfl : k = es.length := by omega
      go_wp2
      go_ret
      refine ⟨?_, hbw⟩
      rw [fstE_no HJ.out]
      rfl

/-! ### unless -/
def unl (b : Bool) (E : Int) : Int := if b = true then 0 else E
set_option maxRecDepth 100000 in
set_option maxHeartbeats 400000 in
theorem unless1_any (w : World) (B1 B2 : Nat) (E : Int) (v : Value) (b : Bool) (h1 : w.cell? ⟨B1, 0, none⟩ = some v) (h2 : w.cell? ⟨B2, 0, none⟩ = some (.int .i64 E)) (h : TriB w v b) :
    Calls Try.prog 37 #[.pointer (some ⟨B1, 0, none⟩), .pointer (some ⟨B2, 0, none⟩)] w fun e w' => e = .returned (.int .i64 (unl b E)) ∧ Below w.heap.size w w' := by
  have l2 := clt h2
  dsimp only at l2
  obtain ⟨kf, bs, rfl, eg, hC⟩ := h
  have C := hC w (Below.refl _ _)
  unfold Ent at eg
  have H2 : Hid _ := h2
  clear hC h2
  cases b with
  | true =>
    go_enter Try.func37, Try.ntmps37
    go_wp2_with fail
    refine C.mono ?_
    rintro e w1 ⟨rfl, hb1⟩
    go_wp2
    go_ret
    exact ⟨rfl, hb1⟩
  | false =>
    go_enter Try.func37, Try.ntmps37
    go_wp2_with fail
    refine C.mono ?_
    rintro e w1 ⟨rfl, hb1⟩
    have x2 := (hb1.cell (p := ⟨B2, 0, none⟩) l2).trans H2.out
    go_wp2
    go_ret
    exact ⟨rfl, hb1⟩
theorem ent_unless1 : Ent 37 := enters_of Try.func37 (by kernel_rfl) rfl
set_option maxRecDepth 100000 in
theorem unless_any (w : World) (E : Int) (v : Value) (b : Bool) (h : TriB w v b) :
    Calls Try.prog 24 #[.int .i64 E, v] w fun e w' => ∃ u, e = .returned u ∧ Tri w' u (unl b E) ∧ Below w.heap.size w w' ∧ u.oneCell' = true := by
  have hb0 : Below w.heap.size w ((w.alloc (.cells #[.int .i64 E] 27)).alloc (.cells #[v] 30)) := ((Below.refl _ w).alloc (Nat.le_refl _) _).alloc (by simp) _
  have HB0 : Hid _ := hb0
  have hT : Hid (Tri ((w.alloc (.cells #[.int .i64 E] 27)).alloc (.cells #[v] 30)) (.func (.func 37) #[] #[.pointer (some ⟨w.heap.size + 1, 0, none⟩), .pointer (some ⟨w.heap.size, 0, none⟩)]) (unl b E)) := by
    refine ⟨_, _, rfl, ent_unless1, fun W hW => unless1_any W _ _ E v b ?_ ?_ (h.below (hb0.trans (hW.mono hb0.size)))⟩
    · rw [hW.cell (p := ⟨w.heap.size + 1, 0, none⟩) (by simp), show w.heap.size + 1 = (w.alloc (.cells #[.int .i64 E] 27)).heap.size by simp, World.cell?_alloc_new]; rfl
    · rw [hW.cell (p := ⟨w.heap.size, 0, none⟩) (by simp; omega), World.cell?_alloc_lt _ _ _ (by simp), World.cell?_alloc_new]; rfl
  obtain ⟨kf, bs, rfl, eg, hC⟩ := h
  clear hC eg hb0
  go_enter Try.func24, Try.ntmps24
  go_wp2
  go_ret
  exact ⟨_, rfl, hT.out, HB0.out, rfl⟩
end Go.Proofs.Ytpifkoblcbjiiaa
