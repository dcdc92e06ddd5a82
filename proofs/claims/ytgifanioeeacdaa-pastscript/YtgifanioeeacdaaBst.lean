/- Proved: the contract of slices.BinarySearchFunc of entries by a time. -/
import Derived.Test.YtgifanioeeacdaaSid
import Derived.Test.YtgifanioeeacdaaCut
import Derived.Shelf.SlSortCmp.QuietGrown
namespace Go.Proofs.Ytgifanioeeacdaa
open Go.RowKit Go.Shelf Go.Sort
set_option linter.unusedVariables false
set_option maxRecDepth 100000 in
set_option maxHeartbeats 2000000 in
theorem bsfT {w : World} {v : Value} {l : List E} (h : OwR cE 34 w v l) (hlen : l.length ≤ 64) (tm : Int) (hs : SrtP (l.map E.p)) :
    Calls Try.prog 32 #[v, .int .i64 tm, .func (.func 26) #[] #[]] w fun e w' => ∃ z : Bool, e = .returned (.tuple #[.int .i64 (cut (low tm) (l.map E.p)), .bool z]) ∧ Below w.heap.size w w' := by
  have mixed : Try.prog.follows .mixedOrders = true := by kernel_rfl
  have P1 : Aside (∀ i, i ≤ l.length → (∀ t, t < i → low tm (nth cE l t).p = true) → (∀ t, i ≤ t → t < l.length → low tm (nth cE l t).p = false) → cut (low tm) (l.map E.p) = i) := fun i hi h1 h2 => cutE_unique i hi h1 h2
  have P3 : Aside (∀ a b, a ≤ b → b < l.length → low tm (nth cE l b).p = true → low tm (nth cE l a).p = true) := fun a b h1 h2 h3 => low_mono hs h1 h2 h3
  obtain ⟨p, hp⟩ : ∃ p, cut (low tm) (l.map E.p) = p := ⟨_, rfl⟩
  rw [hp] at P1 ⊢
  clear hp hs
  have eg : ∀ args w, (callFunc 26 args).run Try.prog w = .ok (.enter 26 args) w := enters_of Try.func26 (by kernel_rfl) rfl
  obtain ⟨w0, hw0⟩ : ∃ w0, w0 = w := ⟨_, rfl⟩
  have hown0 : OwR cE 34 w0 v l := by rw [hw0]; exact h
  have hend : Aside (∀ q os, Below w.heap.size w (grow (w0.drewN q) os)) := fun q os => by rw [hw0]; exact below_grow _ _ _
  have HW : Hid (w0 = w) := hw0
  clear hw0
  obtain ⟨a, cap, rfl, _⟩ := h.rd (N := fun _ => True) (fun _ _ => trivial)
  have HE : Aside _ := hend
  have HOWN : Hid (OwR cE 34 w0 (.slice a l.length cap) l) := hown0
  clear hend h hown0
  go_enter Try.func32, Try.ntmps32
  go_wp2_with fail
  rw [← HW.out]
  go_loopw [9, 10] (fun s9 s10 wr => ∃ lo hi : Nat, s9 = .int .i64 lo ∧ s10 = .int .i64 hi ∧ lo ≤ hi ∧ hi ≤ l.length ∧ (∃ q os, wr = grow (w0.drewN q) os) ∧ Aside ((∀ t, t < lo → low tm (nth cE l t).p = true) ∧ (∀ t, hi ≤ t → t < l.length → low tm (nth cE l t).p = false))) (fun s9 s10 _ => (intOf s10).toNat - (intOf s9).toNat)
  case atStart => exact ⟨0, l.length, rfl, rfl, Nat.zero_le _, Nat.le_refl _, ⟨0, #[], by rw [grow_empty]; rfl⟩, (⟨fun t ht => absurd ht (Nat.not_lt_zero _), fun t h1 h2 => by omega⟩ : (∀ t, t < 0 → low tm (nth cE l t).p = true) ∧ (∀ t, l.length ≤ t → t < l.length → low tm (nth cE l t).p = false))⟩
  case round =>
    obtain ⟨lo, hi, rfl, rfl, hlh, hin, ⟨q, os, rfl⟩, I⟩ := hrel
    have hbq : Below w0.heap.size w0 (grow (w0.drewN q) os) := below_grow _ _ _
    have hown : OwR cE 34 (grow (w0.drewN q) os) (.slice a l.length cap) l := HOWN.out.below hbq
    have hgg : ∀ q' os', grow ((grow (w0.drewN q) os).drewN q') os' = grow (w0.drewN (q + q')) (os ++ os') := fun q' os' => by
      show grow (grow ((w0.drewN q).drewN q') os) os' = _; rw [grow_grow, World.drewN_drewN]
    have HG : Aside _ := hgg
    clear hgg
    obtain ⟨wr, hwr⟩ : ∃ wr, grow (w0.drewN q) os = wr := ⟨_, rfl⟩
    rw [hwr] at hown ⊢
    have HR : Aside _ := hwr
    clear hwr hbq
    by_cases hlt : lo < hi
    · obtain ⟨mid, hm⟩ : ∃ mid : Nat, mid = (lo + hi) / 2 := ⟨_, rfl⟩
      have hm1 : lo ≤ mid := by omega
      have hm2 : mid < hi := by omega
      have hm4 : ((lo : Int) + (hi : Int)) / 2 = (mid : Int) := by omega
      have hm5 : (mid : Int) < (l.length : Int) := by omega
      clear hm
      obtain ⟨x, hx⟩ : ∃ x, nth cE l (mid) = x := ⟨_, rfl⟩
      obtain ⟨g, hv, hg, x0, x1, x2, x3, x4, x5, x6, x7, x8, x9⟩ := hown.entry (i := mid) (by omega) hx
      subst hv
      have HX : Aside (nth cE l mid = x) := hx
      have hc := fun W => side_time x tm W
      obtain ⟨r, hr⟩ : ∃ r, cmpI x.p.m.1.1 tm = r := ⟨_, rfl⟩
      rw [hr] at hc
      have HK : Aside _ := low_dec x.p tm r hr
      clear hx hr
      clear hown
      have hlt' : (lo : Int) < (hi : Int) := by omega
      obtain ⟨⟨⟨⟨y1, y2, y3⟩, y4, y5, y6⟩, y7, y8, y9, yos⟩, yoa, yoc⟩ := x
      by_cases hrl : r < 0
      · go_wp2_with (go_at_fn 26; refine (hc _).mono ?_; rintro e w2 ⟨rfl, q2, os2, rfl⟩)
        go_roundw
        case rel =>
          refine ⟨mid + 1, hi, by go_num, rfl, by omega, hin, ?_, ?_⟩
          · exact ⟨_, _, by rw [← HR.out, HG.out]⟩
          · refine (⟨fun t ht => ?_, I.out.2⟩ : (∀ t, t < mid + 1 → low tm (nth cE l t).p = true) ∧ (∀ t, hi ≤ t → t < l.length → low tm (nth cE l t).p = false))
            exact P3.out t mid (by omega) (by omega) (by rw [HX.out, HK.out]; simpa using hrl)
        case measure => simp [intOf]; omega
      · go_wp2_with (go_at_fn 26; refine (hc _).mono ?_; rintro e w2 ⟨rfl, q2, os2, rfl⟩)
        go_roundw
        case rel =>
          refine ⟨lo, mid, rfl, rfl, by omega, by omega, ?_, ?_⟩
          · exact ⟨_, _, by rw [← HR.out, HG.out]⟩
          · refine (⟨I.out.1, fun t ht htl => ?_⟩ : (∀ t, t < lo → low tm (nth cE l t).p = true) ∧ (∀ t, mid ≤ t → t < l.length → low tm (nth cE l t).p = false))
            cases hkt : low tm (nth cE l t).p
            · rfl
            · have := P3.out mid t ht htl hkt
              rw [HX.out, HK.out] at this
              simp at this
              omega
        case measure => simp [intOf]; omega
    · obtain rfl : hi = lo := by omega
      have hp : p = hi := P1.out hi hin I.out.1 I.out.2
      subst hp
      have hnl : ¬ ((p : Int) < (p : Int)) := by omega
      by_cases hn : p < l.length
      · obtain ⟨x, hx⟩ : ∃ x, nth cE l (p) = x := ⟨_, rfl⟩
        obtain ⟨g, hv, hg, x0, x1, x2, x3, x4, x5, x6, x7, x8, x9⟩ := hown.entry (i := p) (by omega) hx
        subst hv
        have HX : Aside (nth cE l p = x) := hx
        have hc := fun W => side_time x tm W
        obtain ⟨r, hr⟩ : ∃ r, cmpI x.p.m.1.1 tm = r := ⟨_, rfl⟩
        rw [hr] at hc
        have HK : Aside _ := low_dec x.p tm r hr
        clear hx hr
        clear hown
        have hn' : (p : Int) < (l.length : Int) := by omega
        have hdn : decide ((p : Int) < (l.length : Int)) = true := by simpa using hn
        obtain ⟨⟨⟨⟨y1, y2, y3⟩, y4, y5, y6⟩, y7, y8, y9, yos⟩, yoa, yoc⟩ := x
        go_wp2_with (go_at_fn 26; refine (hc _).mono ?_; rintro e w2 ⟨rfl, q2, os2, rfl⟩)
        refine bodyPost_ret (v := .tuple #[.int .i64 p, .bool (r == 0)]) (by simp [results, Try.results32, go_sem]) rfl ⟨_, rfl, ?_⟩
        rw [← HR.out, HG.out]
        exact HE.out _ _
      · have hdn : decide ((p : Int) < (l.length : Int)) = false := by simp; omega
        have hn' : ¬ ((p : Int) < (l.length : Int)) := by omega
        obtain rfl : p = l.length := by omega
        clear hown P1 P3 I hdn hn' hnl hn hin hlh
        go_wp2
        refine bodyPost_ret (v := .tuple #[.int .i64 l.length, .bool false]) (by simp [results, Try.results32, go_sem]) rfl ⟨false, rfl, ?_⟩
        rw [← HR.out]
        exact HE.out _ _
end Go.Proofs.Ytgifanioeeacdaa
