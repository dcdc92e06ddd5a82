/- Proved: the walk of the statement on Check, Find and Step at any rules. -/
import Derived.Test.YtddjfjecamcfnaaCk3
namespace Go.Proofs.Ytddjfjecamcfnaa
open Go.RowKit Go.Shelf
set_option linter.unusedVariables false

/-- What rules that are not heavy answer, in whatever world behind. -/
structure Rs (w : World) (a : Option Addr) (cp : Nat) (l : List Rl) : Prop where
  rd : RdR w a l
  lt : Lt l
theorem Rs.below {w W : World} {a : Option Addr} {cp : Nat} {l : List Rl} (h : Rs w a cp l) (hb : Below w.heap.size w W) : Rs W a cp l := ⟨h.rd.below hb, h.lt⟩
theorem Rs.find {w : World} {a : Option Addr} {cp : Nat} {l : List Rl} (h : Rs w a cp l) (s c : Int) : Calls Try.prog 14 #[.slice a l.length cp, .int .i64 s, .int .i64 c] w fun e w' => e = .returned (.int .i64 (fnd l s c)) ∧ Below w.heap.size w w' := find_any w a cp l s c h.rd (by have := h.lt.1; omega)
theorem Rs.rfind {w : World} {a : Option Addr} {cp : Nat} {l : List Rl} (h : Rs w a cp l) (s c : Int) : Calls Try.prog 15 #[.slice a l.length cp, .int .i64 s, .int .i64 c] w fun e w' => e = .returned (.int .i64 (fnd l s c)) ∧ w = w' := rfind_any w a cp l s c h.rd (by have := h.lt.1; omega)
theorem Rs.step {w : World} {a : Option Addr} {cp : Nat} {l : List Rl} (h : Rs w a cp l) (s c : Int) {n : Int} {X : List O} (he : stp l s c = (n, X)) : Calls Try.prog 10 #[.slice a l.length cp, .int .i64 s, .int .i64 c] w fun e w' => ∃ a' c', e = .returned (.tuple #[.int .i64 n, .slice a' X.length c']) ∧ RowO w w' (.slice a' X.length c') X := by
  have := step_any w a cp l s c h.rd h.lt
  rwa [he] at this
theorem Rs.rstep {w : World} {a : Option Addr} {cp : Nat} {l : List Rl} (h : Rs w a cp l) (s c : Int) {n : Int} {X : List O} (he : stp l s c = (n, X)) : Calls Try.prog 11 #[.slice a l.length cp, .int .i64 s, .int .i64 c] w fun e w' => ∃ a' c', e = .returned (.tuple #[.int .i64 n, .slice a' X.length c']) ∧ RowO w w' (.slice a' X.length c') X := by
  have := rstep_any w a cp l s c h.rd h.lt
  rwa [he] at this
theorem Rs.check {w : World} {a : Option Addr} {cp : Nat} {l : List Rl} (h : Rs w a cp l) : Calls Try.prog 12 #[.slice a l.length cp] w fun e w' => e = .returned (.int .i64 (chkE l)) ∧ Below w.heap.size w w' := check_any w a cp l h.rd h.lt
theorem Rs.rcheck {w : World} {a : Option Addr} {cp : Nat} {l : List Rl} (h : Rs w a cp l) : Calls Try.prog 13 #[.slice a l.length cp] w fun e w' => e = .returned (.int .i64 (chkE l)) ∧ Below w.heap.size w w' := rcheck_any w a cp l h.rd h.lt
theorem RowO.look {w W W' : World} {a : Option Addr} {c : Nat} {l : List O} (h : RowO w W (.slice a l.length c) l) (hb : Below W.heap.size W W') : RdO W' a l := by
  obtain ⟨a', c', e, hrd⟩ := (h.below hb).rd
  simp at e
  obtain ⟨rfl, rfl⟩ := e
  exact hrd

set_option maxRecDepth 100000 in
set_option maxHeartbeats 1000000 in
theorem checks_walk (w : World) (a : Option Addr) (cp : Nat) (l : List Rl) (s c : Int) (hn : l.length ≤ maxLen) (h : RdR w a l) :
    Calls Try.prog 3 #[.slice a l.length cp, .int .i64 s, .int .i64 c] w fun e w' => e = .returned (.bool true) ∧ Below w.heap.size w w' := by
  have HV := heavy_any w a cp l h hn
  cases hh : hvy l with
  | true =>
    rw [hh] at HV
    clear hh h hn
    go_enter Try.func3, Try.ntmps3
    go_wp2_with (go_at_call 9; refine HV.mono ?_; rintro e w' ⟨rfl, rfl⟩)
    go_ret
    exact ⟨rfl, Below.refl _ _⟩
  | false =>
    have R0 : Rs w a cp l := ⟨h, lt_of hh⟩
    rw [hh] at HV
    obtain ⟨n, X, he⟩ : ∃ n X, stp l s c = (n, X) := ⟨_, _, rfl⟩
    have hX : X.length ≤ 20 := by have := stp_len (lt_of hh) s c; rwa [he] at this
    have HE : Hid _ := he
    have HR : Hid _ := R0
    obtain ⟨E, hE⟩ : ∃ E, chkE l = E := ⟨_, rfl⟩
    have HCE : Hid _ := hE
    obtain ⟨F, hF⟩ : ∃ F, fnd l s c = F := ⟨_, rfl⟩
    have HFE : Hid _ := hF
    clear hh h hn he R0 hE hF
    go_enter Try.func3, Try.ntmps3
    go_wp2_with (go_at_call 9; refine HV.mono ?_; rintro e w' ⟨rfl, rfl⟩)
    refine ((HR.out).step s c HE.out).mono ?_
    rintro e w1 ⟨a1, c1, rfl, hR1⟩
    have HR1 : Hid _ := hR1
    have hb1 := hR1.2
    clear hR1 HV
    go_wp2_with fail
    refine (((HR.out).below hb1).rstep s c HE.out).mono ?_
    rintro e w2 ⟨a2, c2, rfl, hR2⟩
    have HR2 : Hid _ := hR2
    have hb2 := hb1.trans (hR2.2.mono hb1.size)
    clear hR2
    go_wp2_with fail
    have CK := ((HR.out).below hb2).check
    rw [HCE.out] at CK
    refine CK.mono ?_
    rintro e w3 ⟨rfl, h3⟩
    have hb3 := hb2.trans (h3.mono hb2.size)
    clear CK
    go_wp2_with fail
    have CR := ((HR.out).below hb3).rcheck
    rw [HCE.out] at CR
    refine CR.mono ?_
    rintro e w4 ⟨rfl, h4⟩
    have hb4 := hb3.trans (h4.mono hb3.size)
    clear CR
    go_wp2_with fail
    have FK := ((HR.out).below hb4).find s c
    rw [HFE.out] at FK
    refine FK.mono ?_
    rintro e w5 ⟨rfl, h5⟩
    have hb5 := hb4.trans (h5.mono hb4.size)
    clear FK
    go_wp2_with fail
    have FR := ((HR.out).below hb5).rfind s c
    rw [HFE.out] at FR
    refine FR.mono ?_
    rintro e w6 ⟨rfl, rfl⟩
    clear FR
    have h25 : Below w2.heap.size w2 w5 := (h3.trans (h4.mono h3.size)).trans (h5.mono (h3.trans (h4.mono h3.size)).size)
    have h15 : Below w1.heap.size w1 w5 := (HR2.out).2.trans (h25.mono (HR2.out).2.size)
    go_wp2_with fail
    refine (same_yes w5 a1 a2 c1 c2 X (RowO.look HR1.out h15) (RowO.look HR2.out h25) (by omega)).mono ?_
    rintro e w7 ⟨rfl, h7⟩
    go_wp2_with fail
    go_ret
    exact ⟨rfl, hb5.trans (h7.mono hb5.size)⟩
end Go.Proofs.Ytddjfjecamcfnaa
