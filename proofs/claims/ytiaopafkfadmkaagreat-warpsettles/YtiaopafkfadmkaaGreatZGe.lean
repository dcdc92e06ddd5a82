/- Joined: the texts that follow, each with its own sentence. -/
import Derived.Test.YtiaopafkfadmkaaGreatZGd
import Derived.Test.YtiaopafkfadmkaaGreatZGa
import Derived.Deep.QuietTactic
set_option linter.unusedVariables false
set_option maxRecDepth 100000
namespace Go.Proofs.YtiaopafkfadmkaaGreat.B.Stb
def J1 {α : Type} (le : α → α → Bool) (L : List α) (x : Nat) (D : List α) : Prop := ∃ j, x = 20 * j ∧ I1 le L j D
def J3 {α : Type} (le : α → α → Bool) (L : List α) (s x : Nat) (D : List α) : Prop := ∃ j, x = 2 * s * j ∧ I3 le L s j D
theorem J1.ins {α : Type} {le : α → α → Bool} {L D : List α} {x : Nat} (h : J1 le L x D) (hx : x + 20 ≤ L.length) : ∃ A X C, D = A ++ (X ++ C) ∧ A.length = x ∧ x + X.length = x + 20 ∧ J1 le L (x + 20) (A ++ (isort le X ++ C)) := by
 obtain ⟨j, rfl, h⟩ := h
 obtain ⟨A, X, C, e1, e2, e3, e4⟩ := h.ins hx
 exact ⟨A, X, C, e1, e2, by omega, j + 1, by omega, e4⟩
theorem J1.last {α : Type} {le : α → α → Bool} {L D : List α} {x : Nat} (h : J1 le L x D) (hx : x ≤ L.length) (hx2 : L.length < x + 20) : ∃ A X C, D = A ++ (X ++ C) ∧ A.length = x ∧ x + X.length = L.length ∧ I2 le L 20 (A ++ (isort le X ++ C)) := by
 obtain ⟨j, rfl, h⟩ := h
 exact h.last hx hx2
theorem J3.start {α : Type} {le : α → α → Bool} {L D : List α} {s : Nat} (h : I2 le L s D) : J3 le L s 0 D := ⟨0, by simp, h.start⟩
theorem J3.mrg {α : Type} {le : α → α → Bool} (ht : Tot le) {L D : List α} {s t x : Nat} (h : J3 le L s x D) (hs : 0 < s) (hst : t = 2 * s) (hx : x + t ≤ L.length) :
  ∃ A X Y C, D = A ++ (X ++ (Y ++ C)) ∧ A.length = x ∧ x + X.length = x + s ∧ x + s + Y.length = x + t ∧ 0 < X.length ∧ 0 < Y.length ∧ Srt le X ∧ Srt le Y ∧ J3 le L s (x + t) (A ++ (List.merge X Y le ++ C)) := by
 obtain ⟨j, rfl, h⟩ := h
 obtain ⟨A, X, Y, C, e1, e2, e3, e4, e5, e6, e7⟩ := h.mrg ht hs (by omega)
 exact ⟨A, X, Y, C, e1, e2, by omega, by omega, by omega, by omega, e5, e6, j + 1, by rw [Nat.mul_add]; omega, e7⟩
theorem J3.last {α : Type} {le : α → α → Bool} (ht : Tot le) {L D : List α} {s t x : Nat} (h : J3 le L s x D) (hs : 0 < s) (hst : t = 2 * s) (hx : x + s < L.length) (hx2 : L.length < x + t) :
  ∃ A X Y C, D = A ++ (X ++ (Y ++ C)) ∧ A.length = x ∧ x + X.length = x + s ∧ x + s + Y.length = L.length ∧ 0 < X.length ∧ 0 < Y.length ∧ Srt le X ∧ Srt le Y ∧ I2 le L t (A ++ (List.merge X Y le ++ C)) := by
 obtain ⟨j, rfl, h⟩ := h
 obtain ⟨A, X, Y, C, e1, e2, e3, e4, e5, e6, e7⟩ := h.last ht hs hx (by omega)
 exact ⟨A, X, Y, C, e1, e2, by omega, by omega, by omega, by omega, e5, e6, by rw [hst]; exact e7⟩
theorem J3.done {α : Type} {le : α → α → Bool} {L D : List α} {s t x : Nat} (h : J3 le L s x D) (hst : t = 2 * s) (hx : L.length ≤ x + s) (hx2 : x ≤ L.length) : I2 le L t D := by
 obtain ⟨j, rfl, h⟩ := h
 rw [hst]
 exact h.done hx hx2
end Go.Proofs.YtiaopafkfadmkaaGreat.B.Stb
namespace Go.Proofs.YtiaopafkfadmkaaGreat.G
open Go.Proofs.YtiaopafkfadmkaaGreat.B
open Go.RowKit Go.Shelf Go.Lib Go.Sort
set_option maxHeartbeats 4000000 in
theorem sym_all {P : Program} (Ly : Lys P) (k : Nat) (aE : ∀ w, (isAgg 189).run P w = .ok true w) (zE : ∀ w, (Go.sizeOf 189).run P w = .ok k w) {α : Type} [Inhabited α] (enc : α → List Value) (cf : α → α → Int) (le : α → α → Bool) (hcf : ∀ x y, decide (cf x y < 0) = !le y x) (ht : Stb.Tot le) (g : Nat) (cb : Array Value)
  (eg : ∀ args w, (callFunc g args).run P w = .ok (.enter g args) w) (blk off cap : Nat) (d0 : Array α) (w0 : World) (hC : CmpLays P g cb enc k cf blk off d0.size w0) (R : RowK enc k w0 blk off d0) : ∀ (n a m b : Nat) (d : Array α) (w : World) (A X Y C : List α), X.length + Y.length ≤ n → d0.size = d.size → SWK enc k w0 blk off d w → d.toList = A ++ (X ++ (Y ++ C)) → A.length = a → a + X.length = m → m + Y.length = b → 0 < X.length → 0 < Y.length → Stb.Srt le X → Stb.Srt le Y → d.size ≤ 1000 →
  Calls P 191 #[.slice (some ⟨blk, off, none⟩) d.size cap, .int .i64 a, .int .i64 m, .int .i64 b, .func (.func g) #[] cb] w fun e w2 => e = .returned (.tuple #[]) ∧ ∃ d2 : Array α, d2.toList = A ++ (List.merge X Y le ++ C) ∧ d2.size = d.size ∧ SWK enc k w0 blk off d2 w2
 | 0, a, m, b, d, w, A, X, Y, C, hn, hs, S, hd, hA, hm, hb, h0, h1, hX, hY, hsz => absurd h0 (by omega)
 | n + 1, a, m, b, d, w, A, X, Y, C, hn, hs, S, hd, hA, hm, hb, h0, h1, hX, hY, hsz => by
  by_cases g1 : X.length = 1
  ·obtain ⟨x, rfl⟩ := List.length_eq_one_iff.1 g1
   exact symL Ly k aE zE enc cf le hcf ht g cb eg blk off cap d0 w0 hC R a m b d w hs S A x Y C (by rw [hd]; simp) hA (by simpa using hm) hb hY hsz
  ·by_cases g2 : Y.length = 1
   ·obtain ⟨y, rfl⟩ := List.length_eq_one_iff.1 g2
    exact symR Ly k aE zE enc cf le hcf ht g cb eg blk off cap d0 w0 hC R a m b d w hs S A X y C (by rw [hd]; simp) hA hm (by omega) (by simpa using hb) hX hsz
   ·refine symG Ly k aE zE enc cf le hcf ht g cb eg blk off cap d0 w0 hC R a m b d w hs S A X Y C hd hA hm hb (by omega) (by omega) hX hY hsz (fun a2 m2 b2 dk w1 A2 X2 Y2 C2 q1 q2 q3 q4 q5 q6 q7 q8 q9 q10 q11 => ?_)
    have := sym_all Ly k aE zE enc cf le hcf ht g cb eg blk off cap d0 w0 hC R n a2 m2 b2 dk w1 A2 X2 Y2 C2 (by omega) (by omega) q2 q3 q4 q5 q6 q7 q8 q9 q10 (by omega)
    rw [q1] at this
    exact this
set_option maxHeartbeats 4000000 in
theorem stable_all {P : Program} (Ly : Lys P) (k : Nat) (aE : ∀ w, (isAgg 189).run P w = .ok true w) (zE : ∀ w, (Go.sizeOf 189).run P w = .ok k w) {α : Type} [Inhabited α] (enc : α → List Value) (cf : α → α → Int) (le : α → α → Bool) (hcf : ∀ x y, decide (cf x y < 0) = !le y x) (ht : Stb.Tot le) (g : Nat) (cb : Array Value)
  (eg : ∀ args w, (callFunc g args).run P w = .ok (.enter g args) w) (blk off cap : Nat) (d0 : Array α) (w0 : World) (hC : CmpLays P g cb enc k cf blk off d0.size w0) (R : RowK enc k w0 blk off d0) (d : Array α) (w : World) (hs : d0.size = d.size) (S : SWK enc k w0 blk off d w) (L : List α) (hd : d.toList = L) (hsz : d.size ≤ 1000) (eI : ∀ args w, (callFunc 190 args).run P w = .ok (.enter 190 args) w)
  (IN : ∀ (x y : Nat) (dk : Array α) (w1 : World) (A X C : List α), dk.size = d.size → SWK enc k w0 blk off dk w1 → dk.toList = A ++ (X ++ C) → A.length = x → x + X.length = y → Calls P 190 #[.slice (some ⟨blk, off, none⟩) d.size cap, .int .i64 x, .int .i64 y, .func (.func g) #[] cb] w1 fun e w2 => e = .returned (.tuple #[]) ∧ ∃ d2 : Array α, d2.toList = A ++ (Stb.isort le X ++ C) ∧ d2.size = d.size ∧ SWK enc k w0 blk off d2 w2) :
  Calls P 165 #[.slice (some ⟨blk, off, none⟩) d.size cap, .int .i64 d.size, .func (.func g) #[] cb] w fun e w2 => e = .returned (.tuple #[]) ∧ ∃ d2 : Array α, d2.toList = Stb.isort le L ∧ d2.size = d.size ∧ SWK enc k w0 blk off d2 w2 := by
 have mixed := Ly.mixed; have t0 := Ly.t0; have a0 := Ly.a0; have z0 := Ly.z0; have v0 := Ly.v0; have t1 := Ly.t1; have a1 := Ly.a1; have z1 := Ly.z1; have v1 := Ly.v1; have t2 := Ly.t2; have a2 := Ly.a2; have z2 := Ly.z2; have v2 := Ly.v2; have t3 := Ly.t3; have a3 := Ly.a3; have z3 := Ly.z3; have v3 := Ly.v3; have t4 := Ly.t4; have a4 := Ly.a4; have z4 := Ly.z4; have v4 := Ly.v4; have t5 := Ly.t5; have a5 := Ly.a5; have z5 := Ly.z5; have v5 := Ly.v5
 have F := Ly.st
 have e37 : ∀ args w, (callFunc 191 args).run P w = .ok (.enter 191 args) w := enters_of Ly.sm (by kernel_rfl) rfl
 have SY : Aside (∀ (a m b : Nat) (dk : Array α) (w1 : World) (A X Y C : List α), dk.size = d.size → SWK enc k w0 blk off dk w1 → dk.toList = A ++ (X ++ (Y ++ C)) → A.length = a → a + X.length = m → m + Y.length = b → 0 < X.length → 0 < Y.length → Stb.Srt le X → Stb.Srt le Y → Calls P 191 #[.slice (some ⟨blk, off, none⟩) d.size cap, .int .i64 a, .int .i64 m, .int .i64 b, .func (.func g) #[] cb] w1 fun e w2 => e = .returned (.tuple #[]) ∧ ∃ d2 : Array α, d2.toList = A ++ (List.merge X Y le ++ C) ∧ d2.size = d.size ∧ SWK enc k w0 blk off d2 w2) := fun a m b dk w1 A X Y C q1 q2 q3 q4 q5 q6 q7 q8 q9 q10 => by
  have := sym_all Ly k aE zE enc cf le hcf ht g cb eg blk off cap d0 w0 hC R _ a m b dk w1 A X Y C (Nat.le_refl _) (by omega) q2 q3 q4 q5 q6 q7 q8 q9 q10 (by omega)
  rw [q1] at this
  exact this
 have II : Aside _ := IN
 obtain ⟨n, hn⟩ : ∃ n, d.size = n := ⟨_, rfl⟩
 have hL : L.length = n := by rw [← hd, ← hn]; simp
 have S0 : Aside (SWK enc k w0 blk off d w) := S
 have HL0 : Hid (Stb.J1 le L 0 d.toList) := ⟨0, rfl, by rw [hd]; exact Stb.I1.start le L⟩
 have hn1 : n ≤ 1000 := by omega
 have HNL : Hid (L.length = n) := hL
 have HTT : Hid (Stb.Tot le) := ht
 rw [hn]
 have HDN : Hid (d.size = n) := hn
 rw [hn] at II SY
 clear IN S hd hC hL hn Ly R ht hcf hs hsz
 go_enter F, Tryz.ntmps165
 go_wp2
 go_loopw [7, 8] (fun s7 s8 wr => ∃ (x y : Nat) (dk : Array α), s7 = .int .i64 x ∧ s8 = .int .i64 y ∧ x ≤ n ∧ y ≤ n + 20 ∧ dk.size = n ∧ Aside (SWK enc k w0 blk off dk wr) ∧ Hid (Stb.J1 le L x dk.toList ∧ y = x + 20)) (fun _ s8 _ => n + 20 - (intOf s8).toNat)
 case atStart => exact ⟨0, 20, d, rfl, rfl, Nat.zero_le _, by omega, HDN.out, S0, (⟨HL0.out, rfl⟩ : Stb.J1 le L 0 d.toList ∧ 20 = 0 + 20)⟩
 case round =>
  clear S0 HL0
  obtain ⟨x, y, dk, rfl, rfl, hx, hy, hds, S1, HI⟩ := hrel
  by_cases hlt : y ≤ n
  ·have hlt' : (y : Int) ≤ (n : Int) := by omega
   obtain ⟨A, X, C, q1, q2, q3, q4⟩ := HI.out.1.ins (by have := HI.out.2; have := HNL.out; omega)
   have C0 := II.out x y dk wr A X C hds S1.out q1 q2 (by have := HI.out.2; omega)
   obtain ⟨T, hT⟩ : ∃ T, A ++ (Stb.isort le X ++ C) = T := ⟨_, rfl⟩
   rw [hT] at C0 q4
   have Q4 : Hid (Stb.J1 le L y T) := by rw [HI.out.2]; exact q4
   clear q1 q2 q3 q4 hT S1 HI
   go_wp2_with (go_at_fn 190; refine C0.mono ?_; rintro e w2 ⟨rfl, d2, h1, h2, h3⟩; have S2 : Aside (SWK enc k w0 blk off d2 w2) := h3; have H1 : Hid (d2.toList = T) := h1; have H2 : Hid (d2.size = n) := h2; clear h1 h2 h3)
   go_roundw
   case rel => exact ⟨y, y + 20, d2, rfl, by go_num, hlt, by omega, H2.out, S2, (⟨by rw [H1.out]; exact Q4.out, rfl⟩ : Stb.J1 le L y d2.toList ∧ y + 20 = y + 20)⟩
   case measure => simp [intOf]; omega
  ·have hlt' : ¬ (y : Int) ≤ (n : Int) := by omega
   obtain ⟨A, X, C, q1, q2, q3, q4⟩ := HI.out.1.last (by have := HNL.out; omega) (by have := HI.out.2; have := HNL.out; omega)
   have C0 := II.out x n dk wr A X C hds S1.out q1 q2 (by have := HNL.out; omega)
   obtain ⟨T, hT⟩ : ∃ T, A ++ (Stb.isort le X ++ C) = T := ⟨_, rfl⟩
   rw [hT] at C0 q4
   have Q4 : Hid (Stb.I2 le L 20 T) := q4
   clear q1 q2 q3 q4 hT S1 HI
   go_wp2_with (go_at_fn 190; refine C0.mono ?_; rintro e w2 ⟨rfl, d2, h1, h2, h3⟩; have S2 : Aside (SWK enc k w0 blk off d2 w2) := h3; have H1 : Hid (d2.toList = T) := h1; have H2 : Hid (d2.size = n) := h2; clear h1 h2 h3)
   clear C0 hds
   go_loopw [6] (fun s6 wr => ∃ (s : Nat) (dk : Array α), s6 = .int .i64 s ∧ 0 < s ∧ s ≤ 2000 ∧ dk.size = n ∧ Aside (SWK enc k w0 blk off dk wr) ∧ Hid (Stb.I2 le L s dk.toList)) (fun s6 _ => n - (intOf s6).toNat)
   case atStart => exact ⟨20, d2, rfl, by omega, by omega, H2.out, S2, by show Stb.I2 _ _ _ _; rw [H1.out]; exact Q4.out⟩
   case round =>
    clear S2 H1 H2 Q4
    obtain ⟨s, dk, rfl, hs0, hs1, hds, S1, HI⟩ := hrel
    by_cases hlt2 : s < n
    ·have hlt2' : (s : Int) < (n : Int) := by omega
     obtain ⟨t, ht2⟩ : ∃ t : Nat, t = 2 * s := ⟨_, rfl⟩
     have hs2 : 2 * (s : Int) = (t : Int) := by omega
     have hs3 : (s : Int) * 2 = (t : Int) := by omega
     have ht3 : t ≤ 2000 := by omega
     have ht0 : s < t := by omega
     have HST : Hid (t = 2 * s) := ht2
     clear ht2
     go_wp2
     go_loopw [7, 8] (fun s7 s8 wr => ∃ (x y : Nat) (dk : Array α), s7 = .int .i64 x ∧ s8 = .int .i64 y ∧ x ≤ n ∧ y ≤ 4000 ∧ dk.size = n ∧ Aside (SWK enc k w0 blk off dk wr) ∧ Hid (Stb.J3 le L s x dk.toList ∧ y = x + t)) (fun _ s8 _ => n + t - (intOf s8).toNat)
     case atStart => exact ⟨0, t, dk, rfl, by first | rfl | (congr 1; omega), Nat.zero_le _, by omega, hds, S1, (⟨Stb.J3.start HI.out, by omega⟩ : Stb.J3 le L s 0 dk.toList ∧ t = 0 + t)⟩
     case round =>
      clear S1 HI hds
      obtain ⟨x, y, dk, rfl, rfl, hx, hy, hds, S1, HI⟩ := hrel
      obtain ⟨mm, hmm⟩ : ∃ mm : Nat, mm = x + s := ⟨_, rfl⟩
      have hm2 : (x : Int) + (s : Int) = (mm : Int) := by omega
      have hm3 : mm ≤ 3000 := by omega
      have HMM : Hid (mm = x + s) := hmm
      clear hmm
      by_cases hlt3 : y ≤ n
      ·have hlt3' : (y : Int) ≤ (n : Int) := by omega
       obtain ⟨y2, hy2⟩ : ∃ y2 : Nat, y2 = y + t := ⟨_, rfl⟩
       have hy3 : (y : Int) + (t : Int) = (y2 : Int) := by omega
       obtain ⟨A, X, Y, C, q1, q2, q3, q4, q5, q6, q7, q8, q9⟩ := HI.out.1.mrg HTT.out hs0 HST.out (by have := HI.out.2; have := HNL.out; omega)
       have C0 := SY.out x mm y dk wr A X Y C hds S1.out q1 q2 (by have := HMM.out; omega) (by have := HI.out.2; have := HMM.out; omega) q5 q6 q7 q8
       obtain ⟨T, hT⟩ : ∃ T, A ++ (List.merge X Y le ++ C) = T := ⟨_, rfl⟩
       rw [hT] at C0 q9
       have Q9 : Hid (Stb.J3 le L s y T) := by rw [HI.out.2]; exact q9
       have HY2 : Hid (y2 = y + t) := hy2
       have hy4 : y < y2 := by omega
       have hy5 : y2 ≤ 4000 := by omega
       clear q1 q2 q3 q4 q5 q6 q7 q8 q9 hT S1 HI hy2
       go_wp2_with (go_at_fn 191; refine C0.mono ?_; rintro e w2 ⟨rfl, d2, h1, h2, h3⟩; have S2 : Aside (SWK enc k w0 blk off d2 w2) := h3; have H1 : Hid (d2.toList = T) := h1; have H2 : Hid (d2.size = n) := h2; clear h1 h2 h3)
       go_roundw
       case rel => exact ⟨y, y2, d2, rfl, by first | rfl | go_num, hlt3, by omega, H2.out, S2, (⟨by rw [H1.out]; exact Q9.out, HY2.out⟩ : Stb.J3 le L s y d2.toList ∧ y2 = y + t)⟩
       case measure => simp [intOf]; omega
      ·have hlt3' : ¬ (y : Int) ≤ (n : Int) := by omega
       by_cases hlt4 : mm < n
       ·have hlt4' : (mm : Int) < (n : Int) := by omega
        obtain ⟨A, X, Y, C, q1, q2, q3, q4, q5, q6, q7, q8, q9⟩ := HI.out.1.last HTT.out hs0 HST.out (by have := HMM.out; have := HNL.out; omega) (by have := HI.out.2; have := HNL.out; omega)
        have C0 := SY.out x mm n dk wr A X Y C hds S1.out q1 q2 (by have := HMM.out; omega) (by have := HNL.out; have := HMM.out; omega) q5 q6 q7 q8
        obtain ⟨T, hT⟩ : ∃ T, A ++ (List.merge X Y le ++ C) = T := ⟨_, rfl⟩
        rw [hT] at C0 q9
        have Q9 : Hid (Stb.I2 le L t T) := q9
        clear q1 q2 q3 q4 q5 q6 q7 q8 q9 hT S1 HI
        go_wp2_with (go_at_fn 191; refine C0.mono ?_; rintro e w2 ⟨rfl, d2, h1, h2, h3⟩; have S2 : Aside (SWK enc k w0 blk off d2 w2) := h3; have H1 : Hid (d2.toList = T) := h1; have H2 : Hid (d2.size = n) := h2; clear h1 h2 h3)
        go_roundw
        case rel => exact ⟨t, d2, by first | rfl | go_num, by omega, ht3, H2.out, S2, by show Stb.I2 _ _ _ _; rw [H1.out]; exact Q9.out⟩
        case measure => simp [intOf]; omega
       ·have hlt4' : ¬ (mm : Int) < (n : Int) := by omega
        have Q9 : Hid (Stb.I2 le L t dk.toList) := HI.out.1.done HST.out (by have := HMM.out; have := HNL.out; omega) (by have := HNL.out; omega)
        clear HI
        go_wp2
        go_roundw
        case rel => exact ⟨t, dk, by first | rfl | go_num, by omega, ht3, hds, S1, Q9⟩
        case measure => simp [intOf]; omega
    ·have hlt2' : ¬ (s : Int) < (n : Int) := by omega
     go_wp2
     go_end0
     exact ⟨rfl, dk, HI.out.fin (by have := HNL.out; omega), hds, S1.out⟩
end Go.Proofs.YtiaopafkfadmkaaGreat.G
namespace Go.Proofs
open Go.Shelf
def Tryz.insH_ren : Go.Shelf.Ren := ⟨fun | 20 => 190 | n => n, fun | 22 => 168 | 24 => 189 | 25 => 192 | n => n, fun | n => n⟩
theorem Tryz.insH : Go.Proofs.SlLaysF0.n20 Tryz.prog Tryz.insH_ren := {
 mixed := by kernel_rfl
 f20 := ⟨Tryz.f190.name, by decide, Tryz.func190.trans (congrArg some (by kernel_rfl))⟩
 t0 := Tryz.underlying0
 a0 := Tryz.isAgg0
 z0 := Tryz.sizeOf0
 v0 := Tryz.zeroValue0
 t3 := Tryz.underlying3
 a3 := Tryz.isAgg3
 z3 := Tryz.sizeOf3
 v3 := Tryz.zeroValue3
 t4 := Tryz.underlying4
 a4 := Tryz.isAgg4
 z4 := Tryz.sizeOf4
 v4 := Tryz.zeroValue4
 t22 := Tryz.underlying168
 a22 := Tryz.isAgg168
 z22 := Tryz.sizeOf168
 v22 := Tryz.zeroValue168
 t25 := Tryz.underlying192
 a25 := Tryz.isAgg192
 z25 := Tryz.sizeOf192
 v25 := Tryz.zeroValue192 }
end Go.Proofs
namespace Go.Proofs.YtiaopafkfadmkaaGreat.G
open Go.Proofs.YtiaopafkfadmkaaGreat.B
open Go.RowKit Go.Shelf Go.Lib Go.Sort
def cfH (x y : H) : Int := kcmp x.1 y.1
theorem cfH_le (x y : H) : decide (cfH x y < 0) = !leH y x := by
 show klt x.1 y.1 = !(!klt x.1 y.1)
 rw [Bool.not_not]
set_option maxHeartbeats 1000000 in
theorem cmpH_any (x y : H) (w : World) :
  Calls Tryz.prog 124 #[hv x, hv y] w fun e w' => e = .returned (.int .i64 (cfH x y)) ∧ ∃ q os, w' = grow (w.drewN q) os := by
 obtain ⟨⟨a1, a2, a3⟩, ⟨a4, a5, a6⟩, a7, a8, a9⟩ := x
 obtain ⟨⟨b1, b2, b3⟩, ⟨b4, b5, b6⟩, b7, b8, b9⟩ := y
 have hc := fun W => cmp_any (a1, a2, a3) (b1, b2, b3) W
 show Calls Tryz.prog 124 _ w fun e w' => e = .returned (.int .i64 (kcmp (a1, a2, a3) (b1, b2, b3))) ∧ _
 try dsimp only at hc ⊢
 generalize kcmp (a1, a2, a3) (b1, b2, b3) = r at hc ⊢
 go_enter Tryz.func124, Tryz.ntmps124
 go_wp2_with (go_at_call 125; refine (hc _).mono ?_; rintro e w' ⟨rfl, q, os, rfl⟩)
 go_ret
 exact ⟨rfl, q, _, grow2_drewN _ _ _ _ _⟩
theorem _root_.Go.Proofs.YtiaopafkfadmkaaGreat.B.OwR.holds {e : TypeId} {w : World} {g cap : Nat} {l : List H} (h : OwR cH e w (.slice (some ⟨g, 0, none⟩) l.length cap) l) : HoldsK encH 9 w g 0 l.toArray := by
 intro j hj
 rw [size_flatK] at hj
 simp only [List.size_toArray] at hj
 have hq : j / 9 < l.length := Nat.div_lt_of_lt_mul (by omega)
 have hr : j % 9 < 9 := Nat.mod_lt _ (by omega)
 refine ⟨?_, World.ownsRow.frozenAt h (0 + j)⟩
 rw [get_flatK _ _ _ _ (by simpa using hj), Nat.zero_add]
 have e1 := World.ownsRow.cellAt h j hj
 have e2 := flat_get cH l (j / 9) (j % 9) hq hr
 have e3 : j / 9 * 9 + j % 9 = j := by omega
 have e4 : (flat cH l)[j / 9 * 9 + j % 9]? = (encH (nth cH l (j / 9)))[j % 9]? := e2
 rw [e3] at e4
 rw [e1, e4]
 simp only [id]
 rw [List.getElem?_eq_getElem (show j % 9 < (encH (nth cH l (j / 9))).length from hr)]
 congr 1
 rw [getElem!_pos l.toArray (j / 9) (by simpa using hq)]
 simp only [List.getElem_toArray]
 rw [getElem!_pos (encH l[j / 9]) (j % 9) hr]
 have e5 := nth_get (C := cH) hq
 congr 1
 rw [e5]
theorem size_putCells (off : Nat) (F c : Array Value) : (putCells id off F c).size = c.size := by simp [putCells]
theorem fr_mapBlock (w : World) (n g : Nat) (f : Array Value → Array Value) : Fr (fun k => k = g) w (mapBlock (Sort.ahead w n) g f) :=
 ⟨rfl, rfl, rfl, by simp [mapBlock], fun k hk hn => by simp [mapBlock, Array.getElem?_modify, Ne.symm hn]⟩
theorem mapBlock_shape (w : World) (g : Nat) (f : Array Value → Array Value) (hf : ∀ c, (f c).size = c.size) (cur : Array Value) (e : TypeId) (fr : Nat × Nat) (h : w.heap[g]? = some (.cells cur e fr)) : ∃ cur', (mapBlock w g f).heap[g]? = some (.cells cur' e fr) ∧ cur'.size = cur.size := by
 refine ⟨f cur, ?_, hf cur⟩
 simp [mapBlock, Array.getElem?_modify, h, onCells]
theorem own_of_holds {e : TypeId} {w w' : World} {g cap : Nat} {l l' : List H} (h : OwR cH e w (.slice (some ⟨g, 0, none⟩) l.length cap) l) (hl : l'.length = l.length) (hs : ∀ cur, w.heap[g]? = some (.cells cur e (0, 0)) → ∃ cur', w'.heap[g]? = some (.cells cur' e (0, 0)) ∧ cur'.size = cur.size)
  (hH : HoldsK encH 9 w' g 0 l'.toArray) : OwR cH e w' (.slice (some ⟨g, 0, none⟩) l'.length cap) l' := by
 obtain ⟨_, cur, hg, h1, h2, h3, h4⟩ := h.block
 obtain ⟨cur', hg', hsz⟩ := hs cur hg
 have h3' : cur.size = cap * 9 := h3
 refine own_of_block hg' (by omega) h2 (by rw [hsz]; exact h3) ?_
 show cur'.toList.take (l'.length * 9) = _
 apply List.ext_getElem?
 intro j
 by_cases hj : j < l'.length * 9
 ·have hq : j / 9 < l'.length := Nat.div_lt_of_lt_mul (by omega)
  have hr : j % 9 < 9 := Nat.mod_lt _ (by omega)
  rw [List.getElem?_take_of_lt hj]
  have h1 := (hH j (by rw [size_flatK]; simpa using hj)).1
  rw [get_flatK _ _ _ _ (by simpa using hj), Nat.zero_add] at h1
  simp only [World.cell?, hg', id] at h1
  have h2 : cur'.toList[j]? = cur'[j]? := by simp
  rw [h2]
  have h3 : cur'[j]? = some ((encH (l'.toArray[j / 9]!))[j % 9]!) := by simpa using h1
  rw [h3]
  have e2 := flat_get cH l' (j / 9) (j % 9) hq hr
  have e3 : j / 9 * 9 + j % 9 = j := by omega
  have e4 : (flat cH l')[j / 9 * 9 + j % 9]? = (encH (nth cH l' (j / 9)))[j % 9]? := e2
  rw [e3] at e4
  rw [e4, List.getElem?_eq_getElem (show j % 9 < (encH (nth cH l' (j / 9))).length from hr)]
  congr 1
  rw [getElem!_pos l'.toArray (j / 9) (by simpa using hq)]
  simp only [List.getElem_toArray]
  rw [getElem!_pos (encH l'[j / 9]) (j % 9) hr]
  have e5 := nth_get (C := cH) hq
  congr 1
  rw [e5]
 ·rw [List.getElem?_eq_none (by rw [List.length_take]; omega), List.getElem?_eq_none (by rw [flat_len]; show l'.length * 9 ≤ j; omega)]
theorem ins_all {d0 : Array H} {w0 : World} {blk cap : Nat} (hC : CmpLays Tryz.prog 124 #[] encH 9 cfH blk 0 d0.size w0) (R : RowK encH 9 w0 blk 0 d0) (eg : ∀ args w, (callFunc 124 args).run Tryz.prog w = .ok (.enter 124 args) w) (x y : Nat) (dk : Array H) (w1 : World) (A X C : List H) (hs : dk.size = d0.size) (S : SWK encH 9 w0 blk 0 dk w1) (hd : dk.toList = A ++ (X ++ C)) (hA : A.length = x) (hy : x + X.length = y) (hsz : d0.size ≤ 1000) :
  Calls Tryz.prog 190 #[.slice (some ⟨blk, 0, none⟩) d0.size cap, .int .i64 x, .int .i64 y, .func (.func 124) #[] #[]] w1 fun e w2 => e = .returned (.tuple #[]) ∧ ∃ d2 : Array H, d2.toList = A ++ (Stb.isort leH X ++ C) ∧ d2.size = d0.size ∧ SWK encH 9 w0 blk 0 d2 w2 := by
 have hle : y ≤ dk.size := by
  have := congrArg List.length hd
  simp at this
  omega
 have hl := Stb.insertionSort_list (le := leH) (lt := ltOf cfH) leH_tot (fun x y => cfH_le x y) hA hy hd
 have hs' : (Sort.insertionSort (ltOf cfH) dk x y).size = dk.size := by
  have h1 := congrArg List.length hl
  have h2 := congrArg List.length hd
  simp only [List.length_append, Stb.isort_len, Array.length_toList] at h1 h2
  omega
 have hC' : CmpLays Tryz.prog 124 #[] encH 9 cfH blk 0 dk.size w1 := fun m os dj hdj x y => by
  obtain ⟨n0, os0, rfl⟩ := S
  rw [sortWorldK_on encH 9 w0 blk 0 n0 m dk dj os0 os R.hblk hdj]
  exact hC _ _ dj (by omega) x y
 have H := AnyQ.insertionSortCmpFunc Tryz.insH 9 Tryz.isAgg189 Tryz.sizeOf189 encH R.hk R.h1 cfH 124 #[] blk 0 cap x y dk w1 eg hC' (S.holds R.hblk R.hH hs) (S.lt R.hblk) (by omega) hle (by omega)
 rw [hs] at H
 refine H.mono ?_
 rintro e w' ⟨rfl, n, os, rfl⟩
 exact ⟨rfl, _, hl, by omega, S.on R.hblk n _ os hs'⟩
set_option maxHeartbeats 1000000 in
theorem ins_none (a : Option Addr) (c : Nat) (w : World) : Calls Tryz.prog 190 #[.slice a 0 c, .int .i64 0, .int .i64 0, .func (.func 124) #[] #[]] w fun e w' => e = .returned (.tuple #[]) ∧ w = w' := by
 go_enter Tryz.func190, Tryz.ntmps190
 go_wp2
 refine wp_loop_rounds 1 ?_
 rw [rounds_succ]
 go_wp2
 go_end0
 exact ⟨rfl, rfl⟩
set_option maxHeartbeats 1000000 in
theorem stable_none (a : Option Addr) (c : Nat) (w : World) : Calls Tryz.prog 165 #[.slice a 0 c, .int .i64 0, .func (.func 124) #[] #[]] w fun e w' => e = .returned (.tuple #[]) ∧ w = w' := by
 go_enter Tryz.func165, Tryz.ntmps165
 go_wp2
 refine wp_loop_rounds 1 ?_
 rw [rounds_succ]
 go_wp2_with (go_at_call 190; refine (ins_none _ _ _).mono ?_; rintro e w' ⟨rfl, rfl⟩)
 refine wp_loop_rounds 1 ?_
 rw [rounds_succ]
 go_wp2
 go_end0
 exact ⟨rfl, rfl⟩
theorem below_grow' (w : World) (os : Array Obj) : Below w.heap.size w (Go.Sort.grow w os) :=
 ⟨rfl, rfl, rfl, by simp [Go.Sort.grow], fun k hk => by simp [Go.Sort.grow, Array.getElem?_append, hk]⟩
theorem stable_row {w : World} {a : Option Addr} {n c : Nat} {l : List H} (h : OwR cH 189 w (.slice a n c) l) (hl : l.length ≤ 256) :
  Calls Tryz.prog 165 #[.slice a n c, .int .i64 n, .func (.func 124) #[] #[]] w fun e w' => e = .returned (.tuple #[]) ∧ OwR cH 189 w' (.slice a n c) (Stb.isort leH l) ∧ Fr (fun k => (Value.slice a n c).ownBlock = some k) w w' := by
 have h0 := h
 rcases h.2 with ⟨e, hn⟩ | ⟨g, cap, cur, e, _, hg, _⟩
 ·simp at e
  obtain ⟨rfl, rfl, rfl⟩ := e
  obtain rfl : l = [] := List.length_eq_zero_iff.1 hn
  refine (stable_none none 0 w).mono fun e w' ⟨he, hw⟩ => ⟨he, ?_, ?_⟩
  ·rw [← hw]; exact h
  ·rw [← hw]; exact Fr.refl _ _
 ·simp at e
  obtain ⟨rfl, rfl, rfl⟩ := e
  have eg : ∀ args w, (callFunc 124 args).run Tryz.prog w = .ok (.enter 124 args) w := enters_of Tryz.func124 (by kernel_rfl) rfl
  have eI : ∀ args w, (callFunc 190 args).run Tryz.prog w = .ok (.enter 190 args) w := enters_of Tryz.func190 (by kernel_rfl) rfl
  have hsz : l.toArray.size = l.length := by simp
  have R : RowK encH 9 w g 0 l.toArray := ⟨fun _ => rfl, encH_one, h.holds, (Array.getElem?_eq_some_iff.1 hg).1⟩
  have hC : CmpLays Tryz.prog 124 #[] encH 9 cfH g 0 l.toArray.size w := fun m os dk hdk x y => cmpH_any x y _
  have S : SWK encH 9 w g 0 l.toArray w := SWK.start h.holds
  have H := stable_all lys 9 Tryz.isAgg189 Tryz.sizeOf189 encH cfH leH cfH_le leH_tot 124 #[] eg g 0 c l.toArray w hC R l.toArray w rfl S l rfl (by omega) eI (fun x y dk w1 A X C q1 q2 q3 q4 q5 => ins_all hC R eg x y dk w1 A X C q1 q2 q3 q4 q5 (by omega))
  rw [hsz] at H
  refine H.mono fun e w' ⟨he, d2, hd2, hs2, S2⟩ => ⟨he, ?_, ?_⟩
  ·have hHo := S2.holds R.hblk R.hH (by omega)
   have e1 : d2 = (Stb.isort leH l).toArray := by rw [← hd2]
   rw [e1] at hHo
   have := own_of_holds (w' := w') (l' := Stb.isort leH l) h (Stb.isort_len l) (fun cur hc => by
    obtain ⟨n, os, rfl⟩ := S2
    obtain ⟨cur', g1, g2⟩ := mapBlock_shape (Sort.ahead w n) g _ (fun c => size_putCells 0 (flatK encH 9 d2) c) cur _ (0, 0) hc
    refine ⟨cur', ?_, g2⟩
    rw [← g1]
    unfold sortWorldK Sort.grow
    show ((putRowK encH 9 (Sort.ahead w n) g 0 d2).heap ++ os)[g]? = _
    rw [Array.getElem?_append_left (by rw [size_putRowK]; exact R.hblk)]
    rfl) hHo
   rw [Stb.isort_len] at this
   exact this
  ·obtain ⟨n, os, rfl⟩ := S2
   have f1 : Fr (fun k => k = g) w (putRowK encH 9 (Sort.ahead w n) g 0 d2) := fr_mapBlock w n g _
   exact (f1.then (Fr.of_below (below_grow' _ os))).wide (fun i e => by subst e; rfl)
set_option maxHeartbeats 1000000 in
theorem sort_any {w : World} {a : Option Addr} {n c : Nat} {l : List H} (h : OwR cH 189 w (.slice a n c) l) (hl : l.length ≤ 256) :
  Calls Tryz.prog 123 #[.slice a n c, .func (.func 124) #[] #[]] w fun e w' => e = .returned (.tuple #[]) ∧ OwR cH 189 w' (.slice a n c) (Stb.isort leH l) ∧ Fr (fun k => (Value.slice a n c).ownBlock = some k) w w' := by
 have C0 := stable_row h hl
 clear h hl
 go_enter Tryz.func123, Tryz.ntmps123
 go_wp2_with (go_at_call 165; refine C0.mono ?_; rintro e w' ⟨rfl, h1, h2⟩; have H1 : Hid (OwR cH 189 w' (.slice a n c) (Stb.isort leH l)) := h1; have H2 : Hid (Fr (fun k => (Value.slice a n c).ownBlock = some k) w w') := h2; clear h1 h2 C0)
 go_end0
 exact ⟨rfl, H1.out, H2.out⟩
end Go.Proofs.YtiaopafkfadmkaaGreat.G
