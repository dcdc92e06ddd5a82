/- Proved: contracts of what reads and writes one clock: At, Told, Hear. -/
import Derived.Test.YtmhopjpbhdficaaDat
namespace Go.Proofs.Ytmhopjpbhdficaa
open Go.RowKit Go.Shelf
set_option linter.unusedVariables false

theorem keyI {j : Int} (hj : (Lit.int .i64 j).wf = true) : keyOf Try.prog 3 (.int .i64 j) = some (.int .i64 j) := Maps.keyOf_int_mk Try.underlying3 hj
theorem MapC.look {w : World} {b m : Nat} {P : Int → Bool} {c : Int → Int} {D : DataW Unit} (h : MapC w b m P c D) {j : Int} (hj : (Lit.int .i64 j).wf = true) :
    (Instr.lookup 47 (.map (some b)) (.int .i64 j) true).run Try.prog w = .ok (.tuple #[.int .i64 (if P j = true then c j else 0), .bool (P j)]) w := by
  obtain ⟨v, ps, hrun, hv⟩ := World.ownsMap.look_ok (H := Unit) h.own keyed3 Try.underlying47 (zero3 _) (plainElem_int (H := Unit) Try.underlying3 (a := 0) (by decide)) (keyI hj)
  obtain ⟨x, rfl, hc, _⟩ := plainElem_int_inv Try.underlying3 hv
  rw [h.has j] at hrun
  have e := congrArg Prod.fst hc
  simp only at e
  cases hp : P j
  · rw [hp] at hrun
    rw [Maps.atKey_of_not_has (by rw [h.has j]; exact hp)] at e
    have e2 : (0 : Int) = x := by simpa using e
    subst e2
    exact hrun
  · rw [hp] at hrun
    rw [h.val j hp] at e
    have e2 : c j = x := by simpa using e
    subst e2
    exact hrun
theorem Fr.of_grown {a b : World} {r : Option Nat} (h : a.grownBy b r) : Fr (fun k => r = some k) a b := ⟨h.os, h.tape, h.output, h.size, fun k hk hn => h.block k hk (fun e => hn e.symm)⟩
theorem lit_ne {i j : Int} (h : i ≠ j) : Lit.int .i64 i ≠ Lit.int .i64 j := fun e => h (by cases e; rfl)
theorem MapC.store {w : World} {b m : Nat} {P : Int → Bool} {c : Int → Int} {D : DataW Unit} (h : MapC w b m P c D) (hm : m < 100) {j t : Int} (hj : (Lit.int .i64 j).wf = true) (ht : (Lit.int .i64 t).wf = true) :
    ∃ W2 D2, (Instr.mapUpdate 47 (.map (some b)) (.int .i64 j) (.int .i64 t)).run Try.prog w = .ok () W2 ∧ MapC W2 b (if P j = true then m else m + 1) (fun i => P i || i == j) (upC c j t) D2 ∧ Fr (fun k => k = b) w W2 ∧ W2.heap.size = w.heap.size := by
  obtain ⟨W2, r1, o1, m1⟩ := World.ownsMap.store (H := Unit) h.own keyed3 Try.underlying47 (by unfold maxLen; omega) (keyI hj) (plainElem_int (H := Unit) Try.underlying3 (a := t) ht)
  have tD := h.own.tidy keyed3
  refine ⟨W2, D.put (.int .i64 j) (num t), r1, ⟨?_, fun i => ?_, fun i hi z => ?_⟩, (Fr.of_grown m1.grown).wide (fun k hk => by simpa using hk.symm), by obtain ⟨es, clock, es', clock', hb, rfl⟩ := m1; simp [ChangeMaps.setBlock]⟩
  · refine ownsMap_size o1 ?_
    have hs := h.own.size_le
    rw [Maps.size_put tD, h.has j]
    cases P j <;> simp <;> omega
  · by_cases e : i = j
    · subst e; rw [Maps.has_put_same (k := .int .i64 i) tD.isMap trivial]; simp
    · rw [Maps.has_put_other (lit_ne e), h.has i]; simp [e]
  · by_cases e : i = j
    · subst e; rw [Maps.atKey_put_same (k := .int .i64 i) tD.isMap trivial, upC_at]
    · rw [Maps.atKey_put_other (lit_ne e), upC_out _ _ e]
      exact h.val i (by simpa [e] using hi) z

set_option maxHeartbeats 1000000 in
theorem at_any {n me : Nat} {c : Int → Int} {t : Int} {b mb : Nat} {w : World} (h : PC n me c t b mb w) (j : Int) (hj : (Lit.int .i64 j).wf = true) :
    Calls Try.prog 14 #[.pointer (some ⟨b, 0, none⟩), .int .i64 j] w fun e w' => e = .returned (.int .i64 (atC n me c j)) ∧ w = w' := by
  have c0 := h.c0
  obtain ⟨D, hD⟩ := h.map
  have lk := hD.look hj
  unfold atC
  cases hi : isCl n me j
  · simp only [hi] at lk
    simp only [Bool.false_eq_true, if_false] at lk ⊢
    clear hD
    go_enter Try.func14, Try.ntmps14
    go_wp2
    go_ret
    exact ⟨rfl, rfl⟩
  · simp only [hi] at lk
    simp only [if_true] at lk ⊢
    clear hD
    go_enter Try.func14, Try.ntmps14
    go_wp2
    go_ret
    exact ⟨rfl, rfl⟩
set_option maxHeartbeats 1000000 in
theorem told_any {n me : Nat} {c : Int → Int} {t : Int} {b mb : Nat} {w : World} (h : PC n me c t b mb w) :
    Calls Try.prog 18 #[.pointer (some ⟨b, 0, none⟩)] w fun e w' => e = .returned (.int .i64 t) ∧ w = w' := by
  have c1 := h.c1
  go_enter Try.func18, Try.ntmps18
  go_wp2
  go_ret
  exact ⟨rfl, rfl⟩
theorem wf_of {t : Int} (h0 : 0 ≤ t) (h1 : t ≤ 1125899906842624) : (Lit.int .i64 t).wf = true := WalkArith.wf_i64 (by omega)
theorem PC.stored {n me : Nat} {c : Int → Int} {t : Int} {b mb : Nat} {w : World} (h : PC n me c t b mb w) {j x : Int} (hj : isCl n me j = true) (hx : okT x = true) (hw : (Lit.int .i64 j).wf = true) :
    ∃ W2, (Instr.mapUpdate 47 (.map (some mb)) (.int .i64 j) (.int .i64 x)).run Try.prog w = .ok () W2 ∧ PC n me (upC c j x) t b mb W2 ∧ Fr (fun k => k = mb) w W2 := by
  obtain ⟨D, hD⟩ := h.map
  obtain ⟨W2, D2, r, hm, hf, _⟩ := hD.store (by omega) hw (wf_of (okT_lo hx) (okT_hi hx))
  rw [if_pos hj] at hm
  have eP : (fun i => isCl n me i || i == j) = isCl n me := by
    funext i
    by_cases e : i = j
    · subst e; simp [hj]
    · simp [e]
  rw [eP] at hm
  refine ⟨W2, r, ⟨(hf.block b h.lt (fun e => h.ne e.symm)).trans h.blk, ⟨D2, hm⟩, fun i hi => ?_, h.tl, h.th, h.hn⟩, hf⟩
  by_cases e : i = j
  · subst e; rw [upC_at]; exact hx
  · rw [upC_out _ _ e]; exact h.ok i hi

set_option maxHeartbeats 1000000 in
theorem hear_any {n me : Nat} {c : Int → Int} {t : Int} {b mb : Nat} {w : World} (h : PC n me c t b mb w) (j x : Int) (hj : (Lit.int .i64 j).wf = true) :
    Calls Try.prog 10 #[.pointer (some ⟨b, 0, none⟩), .int .i64 j, .int .i64 x] w fun e w' => e = .returned (.int .i64 (hrE n me c j x)) ∧ PC n me (hrC n me c j x) t b mb w' ∧ Fr (fun k => k = mb) w w' := by
  have c0 := h.c0
  have HP : Hid _ := h
  obtain ⟨D, hD⟩ := h.map
  have lk := hD.look hj
  cases hi : isCl n me j
  · have e : hrE n me c j x = 1 := by unfold hrE; rw [if_neg (by simp [hi])]
    have e2 : hrC n me c j x = c := by unfold hrC; rw [if_neg (by rw [e]; decide)]
    rw [e, e2]
    simp only [hi] at lk
    simp only [Bool.false_eq_true, if_false] at lk
    clear hD h e e2
    go_enter Try.func10, Try.ntmps10
    go_wp2
    go_ret
    exact ⟨rfl, HP.out, Fr.refl _ _⟩
  · simp only [hi] at lk
    simp only [if_true] at lk
    have V := valid_any x
    cases hv : okT x
    · have e : hrE n me c j x = 1 := by unfold hrE; rw [if_neg (by simp [hv])]
      have e2 : hrC n me c j x = c := by unfold hrC; rw [if_neg (by rw [e]; decide)]
      rw [e, e2]
      simp only [hv] at V
      clear hD h e e2
      go_enter Try.func10, Try.ntmps10
      go_wp2_with (go_at_call 20; refine (V _).mono ?_; rintro e w' ⟨rfl, rfl⟩)
      go_ret
      exact ⟨rfl, HP.out, Fr.refl _ _⟩
    · simp only [hv] at V
      obtain ⟨y, hy⟩ : ∃ y, c j = y := ⟨_, rfl⟩
      rw [hy] at lk
      by_cases hlt : x < y
      · have e : hrE n me c j x = 110 := by unfold hrE; rw [if_pos ⟨hi, hv⟩, hy, if_pos hlt]
        have e2 : hrC n me c j x = c := by unfold hrC; rw [if_neg (by rw [e]; decide)]
        rw [e, e2]
        clear hD h e e2 hy
        go_enter Try.func10, Try.ntmps10
        go_wp2_with (go_at_call 20; refine (V _).mono ?_; rintro e w' ⟨rfl, rfl⟩)
        go_ret
        exact ⟨rfl, HP.out, Fr.refl _ _⟩
      · have e : hrE n me c j x = 0 := by unfold hrE; rw [if_pos ⟨hi, hv⟩, hy, if_neg hlt]
        have e2 : hrC n me c j x = upC c j x := by unfold hrC; rw [if_pos e]
        rw [e, e2]
        obtain ⟨W2, hu, hp2, hf2⟩ := h.stored hi hv hj
        have HQ : Hid _ := hp2
        clear hD h e e2 hy hp2
        go_enter Try.func10, Try.ntmps10
        go_wp2_with (go_at_call 20; refine (V _).mono ?_; rintro e w' ⟨rfl, rfl⟩)
        go_ret
        exact ⟨rfl, HQ.out, hf2⟩
end Go.Proofs.Ytmhopjpbhdficaa
