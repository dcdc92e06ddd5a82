/- Proved: the contract of two parts that stand beside each other and change places. -/
import Derived.Test.YtpkemgpnpadkfaaSsw
namespace Go.Proofs.Ytpkemgpnpadkfaa.Stb
/-- On the way: what is left to do. -/
def RoI {α : Type} (m : Nat) (T : List α) (i j : Nat) (D : List α) : Prop := ∃ A X Y C, D = A ++ (X ++ (Y ++ C)) ∧ A.length + i = m ∧ X.length = i ∧ Y.length = j ∧ A ++ (Y ++ (X ++ C)) = T
theorem RoI.big {α : Type} {m i j : Nat} {T D : List α} (h : RoI m T i j D) (hij : j < i) : ∃ A X B Y C, D = A ++ (X ++ (B ++ (Y ++ C))) ∧ A.length = m - i ∧ X.length = j ∧ Y.length = j ∧ m - i + j + B.length = m ∧ i ≤ m ∧ RoI m T (i - j) j (A ++ (Y ++ (B ++ (X ++ C)))) := by
  obtain ⟨A, X, Y, C, rfl, h1, h2, h3, h4⟩ := h
  have h5 := List.take_append_drop j X
  refine ⟨A, X.take j, X.drop j, Y, C, ?_, by omega, by simp; omega, h3, by simp; omega, by omega, A ++ Y, X.drop j, X.take j, C, ?_, by simp; omega, by simp; omega, by simp; omega, ?_⟩
  · rw [← List.append_assoc (X.take j), h5]
  · simp
  · rw [← h4, ← List.append_assoc (X.take j), h5, List.append_assoc]
theorem RoI.small {α : Type} {m i j : Nat} {T D : List α} (h : RoI m T i j D) (hij : i < j) : ∃ A X B Y C, D = A ++ (X ++ (B ++ (Y ++ C))) ∧ A.length = m - i ∧ X.length = i ∧ Y.length = i ∧ m - i + i + B.length = m + j - i ∧ i ≤ m ∧ RoI m T i (j - i) (A ++ (Y ++ (B ++ (X ++ C)))) := by
  obtain ⟨A, X, Y, C, rfl, h1, h2, h3, h4⟩ := h
  have h5 := List.take_append_drop (j - i) Y
  refine ⟨A, X, Y.take (j - i), Y.drop (j - i), C, ?_, by omega, h2, by simp; omega, by simp; omega, by omega, A, Y.drop (j - i), Y.take (j - i), X ++ C, rfl, by omega, by simp; omega, by simp; omega, ?_⟩
  · rw [← List.append_assoc (Y.take (j - i)), h5]
  · rw [← h4, ← List.append_assoc (Y.take (j - i)), h5]
theorem RoI.same {α : Type} {m i : Nat} {T D : List α} (h : RoI m T i i D) : ∃ A X Y C, D = A ++ (X ++ ([] ++ (Y ++ C))) ∧ A.length = m - i ∧ X.length = i ∧ Y.length = i ∧ m - i + i + ([] : List α).length = m ∧ i ≤ m ∧ A ++ (Y ++ ([] ++ (X ++ C))) = T := by
  obtain ⟨A, X, Y, C, rfl, h1, h2, h3, h4⟩ := h
  exact ⟨A, X, Y, C, by simp, by omega, h2, h3, by simp; omega, by omega, by rw [← h4]; simp⟩
end Go.Proofs.Ytpkemgpnpadkfaa.Stb
namespace Go.Proofs.Ytpkemgpnpadkfaa
open Go.RowKit Go.Shelf Go.Lib Go.Sort
set_option linter.unusedVariables false
set_option maxHeartbeats 4000000 in
set_option maxRecDepth 1000000 in
theorem rotate_any {P : Program} (Ly : Lys P) (k : Nat) (aE : ∀ w, (isAgg 56).run P w = .ok true w) (zE : ∀ w, (Go.sizeOf 56).run P w = .ok k w) {α : Type} [Inhabited α] (enc : α → List Value) (g : Nat) (cb : Array Value) (blk off cap a m b : Nat) (d0 d : Array α) (w0 w : World)
    (R : RowK enc k w0 blk off d0) (hs : d0.size = d.size) (S : SWK enc k w0 blk off d w) (A X Y C : List α) (hd : d.toList = A ++ (X ++ (Y ++ C))) (hA : A.length = a) (hm : a + X.length = m) (hb : m + Y.length = b) (h0 : 0 < X.length) (h1 : 0 < Y.length) (hsz : d.size ≤ 1000) :
    Calls P 38 #[.slice (some ⟨blk, off, none⟩) d.size cap, .int .i64 a, .int .i64 m, .int .i64 b, .func (.func g) #[] cb] w fun e w' => e = .returned (.tuple #[]) ∧ ∃ d' : Array α, d'.toList = A ++ (Y ++ (X ++ C)) ∧ d'.size = d.size ∧ SWK enc k w0 blk off d' w' := by
  have mixed := Ly.mixed; have t0 := Ly.t0; have a0 := Ly.a0; have z0 := Ly.z0; have v0 := Ly.v0; have t1 := Ly.t1; have a1 := Ly.a1; have z1 := Ly.z1; have v1 := Ly.v1; have t2 := Ly.t2; have a2 := Ly.a2; have z2 := Ly.z2; have v2 := Ly.v2; have t3 := Ly.t3; have a3 := Ly.a3; have z3 := Ly.z3; have v3 := Ly.v3; have t4 := Ly.t4; have a4 := Ly.a4; have z4 := Ly.z4; have v4 := Ly.v4; have t5 := Ly.t5; have a5 := Ly.a5; have z5 := Ly.z5; have v5 := Ly.v5
  have F := Ly.ro
  have e39 : ∀ args w, (callFunc 39 args).run P w = .ok (.enter 39 args) w := enters_of Ly.sw (by kernel_rfl) rfl
  have hle : b ≤ d.size := by
    have := congrArg List.length hd
    simp at this
    omega
  have S0 : Aside (SWK enc k w0 blk off d w) := S
  obtain ⟨T, hT⟩ : ∃ T, A ++ (Y ++ (X ++ C)) = T := ⟨_, rfl⟩
  have HD : Hid (Stb.RoI m T (m - a) (b - m) d.toList) := ⟨A, X, Y, C, hd, by omega, by omega, by omega, hT⟩
  have SW : Hid (∀ (dk : Array α) (wr : World) (x y n : Nat) (A X B Y C : List α), dk.size = d.size → SWK enc k w0 blk off dk wr → dk.toList = A ++ (X ++ (B ++ (Y ++ C))) → A.length = x → X.length = n → Y.length = n → x + n + B.length = y → Calls P 39 #[.slice (some ⟨blk, off, none⟩) d.size cap, .int .i64 x, .int .i64 y, .int .i64 n, .func (.func g) #[] cb] wr fun e w' => e = .returned (.tuple #[]) ∧ ∃ d' : Array α, d'.toList = A ++ (Y ++ (B ++ (X ++ C))) ∧ d'.size = d.size ∧ SWK enc k w0 blk off d' w') := fun dk wr x y n A X B Y C h1 h2 h3 h4 h5 h6 h7 => by
    have := swapRange_any Ly k aE zE enc g cb blk off cap x y n d0 dk w0 wr R (by omega) h2 A X B Y C h3 h4 h5 h6 h7 (by omega)
    rw [h1] at this
    exact this
  rw [hT]
  have ham : a < m := by omega
  have hmb : m < b := by omega
  clear S hd hm hb Ly hT h0 h1 hA R
  go_enter F, Try.ntmps38
  go_wp2
  go_loopw [10, 11] (fun s10 s11 wr => ∃ (i j : Nat) (dk : Array α), s10 = .int .i64 i ∧ s11 = .int .i64 j ∧ 0 < i ∧ 0 < j ∧ i ≤ m ∧ m + j ≤ b ∧ dk.size = d.size ∧ Aside (SWK enc k w0 blk off dk wr) ∧ Hid (Stb.RoI m T i j dk.toList)) (fun s10 s11 _ => (intOf s10).toNat + (intOf s11).toNat)
  case atStart => exact ⟨m - a, b - m, d, by congr 1; omega, by congr 1; omega, by omega, by omega, by omega, by omega, rfl, S0, HD⟩
  case round =>
    obtain ⟨i, j, dk, rfl, rfl, hi, hj, him, hjb, hds, S1, HL⟩ := hrel
    by_cases hne : i = j
    · subst hne
      have hk1 : ((i : Int) != (i : Int)) = false := by simp
      obtain ⟨A', X', Y', C', q1, q2, q3, q4, q5, q6, q7⟩ := HL.out.same
      have C0 := SW.out dk wr (m - i) m i A' X' [] Y' C' hds S1.out q1 q2 q3 q4 q5
      rw [q7, show ((m - i : Nat) : Int) = (m : Int) - (i : Int) by omega] at C0
      clear q1 q2 q3 q4 q5 q7 HL S1
      go_wp2_with (go_at_fn 39; refine C0.mono ?_; rintro e w2 ⟨rfl, d2, h1, h2, h3⟩)
      go_end0
      exact ⟨rfl, d2, h1, h2, h3⟩
    · have hk1 : ((i : Int) != (j : Int)) = true := by simp; omega
      by_cases hlt : j < i
      · have hlt' : (j : Int) < (i : Int) := by omega
        obtain ⟨A', X', B', Y', C', q1, q2, q3, q4, q5, q6, q7⟩ := HL.out.big hlt
        have C0 := SW.out dk wr (m - i) m j A' X' B' Y' C' hds S1.out q1 q2 q3 q4 q5
        rw [show ((m - i : Nat) : Int) = (m : Int) - (i : Int) by omega] at C0
        obtain ⟨T2, hT2⟩ : ∃ T2, A' ++ (Y' ++ (B' ++ (X' ++ C'))) = T2 := ⟨_, rfl⟩
        rw [hT2] at C0 q7
        have Q7 : Hid (Stb.RoI m T (i - j) j T2) := q7
        clear q1 q2 q3 q4 q5 q7 HL S1 hT2
        go_wp2_with (go_at_fn 39; refine C0.mono ?_; rintro e w2 ⟨rfl, d2, h1, h2, h3⟩; have S2 : Aside (SWK enc k w0 blk off d2 w2) := h3; have H1 : Hid (d2.toList = T2) := h1; have H2 : Hid (d2.size = d.size) := h2; clear h1 h2 h3)
        go_roundw
        case rel => exact ⟨i - j, j, d2, by congr 1; omega, rfl, by omega, hj, by omega, by omega, H2.out, S2, by show Stb.RoI _ _ _ _ _; rw [H1.out]; exact Q7.out⟩
        case measure => simp [intOf]; omega
      · have hlt' : ¬ (j : Int) < (i : Int) := by omega
        obtain ⟨A', X', B', Y', C', q1, q2, q3, q4, q5, q6, q7⟩ := HL.out.small (by omega)
        have C0 := SW.out dk wr (m - i) (m + j - i) i A' X' B' Y' C' hds S1.out q1 q2 q3 q4 q5
        rw [show ((m - i : Nat) : Int) = (m : Int) - (i : Int) by omega, show ((m + j - i : Nat) : Int) = (m : Int) + (j : Int) - (i : Int) by omega] at C0
        obtain ⟨T2, hT2⟩ : ∃ T2, A' ++ (Y' ++ (B' ++ (X' ++ C'))) = T2 := ⟨_, rfl⟩
        rw [hT2] at C0 q7
        have Q7 : Hid (Stb.RoI m T i (j - i) T2) := q7
        clear q1 q2 q3 q4 q5 q7 HL S1 hT2
        go_wp2_with (go_at_fn 39; refine C0.mono ?_; rintro e w2 ⟨rfl, d2, h1, h2, h3⟩; have S2 : Aside (SWK enc k w0 blk off d2 w2) := h3; have H1 : Hid (d2.toList = T2) := h1; have H2 : Hid (d2.size = d.size) := h2; clear h1 h2 h3)
        go_roundw
        case rel => exact ⟨i, j - i, d2, rfl, by congr 1; omega, hi, by omega, by omega, by omega, H2.out, S2, by show Stb.RoI _ _ _ _ _; rw [H1.out]; exact Q7.out⟩
        case measure => simp [intOf]; omega
end Go.Proofs.Ytpkemgpnpadkfaa
