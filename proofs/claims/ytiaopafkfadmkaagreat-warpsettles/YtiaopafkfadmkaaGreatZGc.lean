/- Joined: the texts that follow, each with its own sentence. -/
import Derived.Shelf.SlSortCmp.KitK
import Derived.Sort.WalkB2
import Derived.Sort.WalkB12
import Derived.Deep.LoopGhost
import Derived.BigRegion
import Derived.Test.YtiaopafkfadmkaaGreatZGb
import Derived.Test.YtiaopafkfadmkaaGreatZB
set_option linter.unusedVariables false
set_option maxRecDepth 100000
namespace Go.Proofs.YtiaopafkfadmkaaGreat.G
open Go.Proofs.YtiaopafkfadmkaaGreat.B
open Go.RowKit Go.Shelf Go.Lib Go.Sort
structure Lys (P : Program) : Prop where
 mixed : P.follows .mixedOrders = true
 st : P.funcs[165]? = some Tryz.f165
 sm : P.funcs[191]? = some Tryz.f191
 ro : P.funcs[210]? = some Tryz.f210
 sw : P.funcs[227]? = some Tryz.f227
 t0 : P.underlying 0 = some (TypeDesc.tuple #[])
 a0 : ∀ w, (isAgg 0).run P w = .ok false w
 z0 : ∀ w, (Go.sizeOf 0).run P w = .ok 1 w
 v0 : ∀ w, (zeroValue 0).run P w = .ok (Value.tuple #[]) w
 t1 : P.underlying 3 = some (TypeDesc.int IntKind.i64)
 a1 : ∀ w, (isAgg 3).run P w = .ok false w
 z1 : ∀ w, (Go.sizeOf 3).run P w = .ok 1 w
 v1 : ∀ w, (zeroValue 3).run P w = .ok (Value.int IntKind.i64 0) w
 t2 : P.underlying 4 = some (TypeDesc.bool)
 a2 : ∀ w, (isAgg 4).run P w = .ok false w
 z2 : ∀ w, (Go.sizeOf 4).run P w = .ok 1 w
 v2 : ∀ w, (zeroValue 4).run P w = .ok (Value.bool false) w
 t3 : P.underlying 168 = some (TypeDesc.slice 189)
 a3 : ∀ w, (isAgg 168).run P w = .ok false w
 z3 : ∀ w, (Go.sizeOf 168).run P w = .ok 1 w
 v3 : ∀ w, (zeroValue 168).run P w = .ok (Value.slice none 0 0) w
 t4 : P.underlying 192 = some (TypeDesc.func #[189, 189] #[3] false)
 a4 : ∀ w, (isAgg 192).run P w = .ok false w
 z4 : ∀ w, (Go.sizeOf 192).run P w = .ok 1 w
 v4 : ∀ w, (zeroValue 192).run P w = .ok (Value.nilFunc) w
 t5 : P.underlying 214 = some (TypeDesc.int IntKind.u64)
 a5 : ∀ w, (isAgg 214).run P w = .ok false w
 z5 : ∀ w, (Go.sizeOf 214).run P w = .ok 1 w
 v5 : ∀ w, (zeroValue 214).run P w = .ok (Value.int IntKind.u64 0) w
theorem lys : Lys Tryz.prog := {
 mixed := by kernel_rfl
 st := Tryz.func165
 sm := Tryz.func191
 ro := Tryz.func210
 sw := Tryz.func227
 t0 := Tryz.underlying0
 a0 := Tryz.isAgg0
 z0 := Tryz.sizeOf0
 v0 := Tryz.zeroValue0
 t1 := Tryz.underlying3
 a1 := Tryz.isAgg3
 z1 := Tryz.sizeOf3
 v1 := Tryz.zeroValue3
 t2 := Tryz.underlying4
 a2 := Tryz.isAgg4
 z2 := Tryz.sizeOf4
 v2 := Tryz.zeroValue4
 t3 := Tryz.underlying168
 a3 := Tryz.isAgg168
 z3 := Tryz.sizeOf168
 v3 := Tryz.zeroValue168
 t4 := Tryz.underlying192
 a4 := Tryz.isAgg192
 z4 := Tryz.sizeOf192
 v4 := Tryz.zeroValue192
 t5 := Tryz.underlying214
 a5 := Tryz.isAgg214
 z5 := Tryz.sizeOf214
 v5 := Tryz.zeroValue214 }
set_option maxHeartbeats 4000000 in
theorem swapRange_any {P : Program} (Ly : Lys P) (k : Nat) (aE : ∀ w, (isAgg 189).run P w = .ok true w) (zE : ∀ w, (Go.sizeOf 189).run P w = .ok k w) {α : Type} [Inhabited α] (enc : α → List Value) (g : Nat) (cb : Array Value) (blk off cap a b n : Nat) (d0 d : Array α) (w0 w : World)
  (R : RowK enc k w0 blk off d0) (hs : d0.size = d.size) (S : SWK enc k w0 blk off d w) (A X B Y C : List α) (hd : d.toList = A ++ (X ++ (B ++ (Y ++ C)))) (hA : A.length = a) (hX : X.length = n) (hY : Y.length = n) (hb : a + n + B.length = b) (hsz : d.size ≤ 1000) :
  Calls P 227 #[.slice (some ⟨blk, off, none⟩) d.size cap, .int .i64 a, .int .i64 b, .int .i64 n, .func (.func g) #[] cb] w fun e w' => e = .returned (.tuple #[]) ∧ ∃ d' : Array α, d'.toList = A ++ (Y ++ (B ++ (X ++ C))) ∧ d'.size = d.size ∧ SWK enc k w0 blk off d' w' := by
 have mixed := Ly.mixed; have t0 := Ly.t0; have a0 := Ly.a0; have z0 := Ly.z0; have v0 := Ly.v0; have t1 := Ly.t1; have a1 := Ly.a1; have z1 := Ly.z1; have v1 := Ly.v1; have t2 := Ly.t2; have a2 := Ly.a2; have z2 := Ly.z2; have v2 := Ly.v2; have t3 := Ly.t3; have a3 := Ly.a3; have z3 := Ly.z3; have v3 := Ly.v3; have t4 := Ly.t4; have a4 := Ly.a4; have z4 := Ly.z4; have v4 := Ly.v4; have t5 := Ly.t5; have a5 := Ly.a5; have z5 := Ly.z5; have v5 := Ly.v5
 have F := Ly.sw
 have hle : b + n ≤ d.size := by
  have := congrArg List.length hd
  simp at this
  omega
 have S0 : Aside (SWK enc k w0 blk off d w) := S
 have HD : Hid (d.toList = Stb.swr A X B Y C 0) := by show _ = _; rw [Stb.swr_zero]; exact hd
 have ST : Hid (∀ (dk : Array α) (i : Nat), i < n → dk.toList = Stb.swr A X B Y C i → (swp dk (a + i) (b + i)).toList = Stb.swr A X B Y C (i + 1)) := fun dk i hi h => Stb.swr_step hX hY hi hA hb h
 have EN : Hid (Stb.swr A X B Y C n = A ++ (Y ++ (B ++ (X ++ C)))) := Stb.swr_end A X B Y C hX hY
 have hn1 : n ≤ 1000 := by omega
 have ha1 : a ≤ 1000 := by omega
 have hb1 : b ≤ 1000 := by omega
 have han : a + n ≤ d.size := by omega
 clear S hd hX hY hb Ly
 go_enter F, Tryz.ntmps227
 go_wp2
 go_loopw [10] (fun s10 wr => ∃ (i : Nat) (dk : Array α), s10 = .int .i64 i ∧ i ≤ n ∧ dk.size = d.size ∧ Aside (SWK enc k w0 blk off dk wr) ∧ Hid (dk.toList = Stb.swr A X B Y C i)) (fun s10 _ => n - (intOf s10).toNat)
 case atStart => exact ⟨0, d, rfl, Nat.zero_le _, rfl, S0, HD⟩
 case round =>
  obtain ⟨i, dk, rfl, hi, hds, S1, HL⟩ := hrel
  by_cases hlt : i < n
  ·have hlt' : (i : Int) < (n : Int) := by omega
   obtain ⟨p, hp⟩ : ∃ p, p = a + i := ⟨_, rfl⟩
   obtain ⟨q, hq⟩ : ∃ q, q = b + i := ⟨_, rfl⟩
   have hp2 : (a : Int) + (i : Int) = (p : Int) := by omega
   have hq2 : (b : Int) + (i : Int) = (q : Int) := by omega
   have hps : p < dk.size := by omega
   have hqs : q < dk.size := by omega
   have ea : ((p : Int)).toNat = p := by omega
   have pa : (0 : Int) ≤ (p : Int) := by omega
   have ba : (p : Int) < (d.size : Int) := by omega
   have ra : IntKind.i64.wrap ((p : Int)) = (p : Int) := by rw [IntKind.wrap_i64]; omega
   have ec : ((q : Int)).toNat = q := by omega
   have pc : (0 : Int) ≤ (q : Int) := by omega
   have bc : (q : Int) < (d.size : Int) := by omega
   have rc : IntKind.i64.wrap ((q : Int)) = (q : Int) := by rw [IntKind.wrap_i64]; omega
   have HL2 : Hid ((swp dk p q).toList = Stb.swr A X B Y C (i + 1)) := by rw [hp, hq]; exact ST.out dk i hlt HL.out
   have hds2 : (swp dk p q).size = d.size := by rw [size_swp]; exact hds
   have S2 : Aside (SWK enc k w0 blk off (swp dk p q) ((wr.drew.setCells blk (off + p * k) (enc dk[q]!)).setCells blk (off + q * k) (enc dk[p]!))) := S1.out.swapped R p q hps hqs
   have la := S1.out.ld1 R (by omega) P p hps
   have lb := S1.out.ld1 R (by omega) P q hqs
   have sa := S1.out.st1 R (by omega) P p hps dk[q]!
   have sb := S1.out.st2 R (by omega) P p q hps hqs dk[q]! dk[p]!
   have na : (enc dk[p]!).length = k := R.hk _
   have nb : (enc dk[q]!).length = k := R.hk _
   generalize enc dk[p]! = cI at S2 la sb na
   generalize enc dk[q]! = cJ at S2 lb sa sb nb
   generalize swp dk p q = dk2 at S2 HL2 hds2
   clear S1 HL hp hq
   go_wp2_with fail
   go_big_region_o
   clear la lb sa sb
   generalize (wr.drew.setCells blk (off + p * k) cJ).setCells blk (off + q * k) cI = w2 at S2 ⊢
   go_wp2
   go_roundw
   case rel => exact ⟨i + 1, dk2, by go_num, by omega, hds2, S2, HL2⟩
   case measure => simp [intOf]; omega
  ·obtain rfl : i = n := by omega
   go_wp2
   go_end0
   exact ⟨rfl, dk, by rw [HL.out, EN.out], hds, S1.out⟩
end Go.Proofs.YtiaopafkfadmkaaGreat.G
namespace Go.Proofs.YtiaopafkfadmkaaGreat.B.Stb
def RoI {α : Type} (m : Nat) (T : List α) (i j : Nat) (D : List α) : Prop := ∃ A X Y C, D = A ++ (X ++ (Y ++ C)) ∧ A.length + i = m ∧ X.length = i ∧ Y.length = j ∧ A ++ (Y ++ (X ++ C)) = T
theorem RoI.big {α : Type} {m i j : Nat} {T D : List α} (h : RoI m T i j D) (hij : j < i) : ∃ A X B Y C, D = A ++ (X ++ (B ++ (Y ++ C))) ∧ A.length = m - i ∧ X.length = j ∧ Y.length = j ∧ m - i + j + B.length = m ∧ i ≤ m ∧ RoI m T (i - j) j (A ++ (Y ++ (B ++ (X ++ C)))) := by
 obtain ⟨A, X, Y, C, rfl, h1, h2, h3, h4⟩ := h
 have h5 := List.take_append_drop j X
 refine ⟨A, X.take j, X.drop j, Y, C, ?_, by omega, by simp; omega, h3, by simp; omega, by omega, A ++ Y, X.drop j, X.take j, C, ?_, by simp; omega, by simp; omega, by simp; omega, ?_⟩
 ·rw [← List.append_assoc (X.take j), h5]
 ·simp
 ·rw [← h4, ← List.append_assoc (X.take j), h5, List.append_assoc]
theorem RoI.small {α : Type} {m i j : Nat} {T D : List α} (h : RoI m T i j D) (hij : i < j) : ∃ A X B Y C, D = A ++ (X ++ (B ++ (Y ++ C))) ∧ A.length = m - i ∧ X.length = i ∧ Y.length = i ∧ m - i + i + B.length = m + j - i ∧ i ≤ m ∧ RoI m T i (j - i) (A ++ (Y ++ (B ++ (X ++ C)))) := by
 obtain ⟨A, X, Y, C, rfl, h1, h2, h3, h4⟩ := h
 have h5 := List.take_append_drop (j - i) Y
 refine ⟨A, X, Y.take (j - i), Y.drop (j - i), C, ?_, by omega, h2, by simp; omega, by simp; omega, by omega, A, Y.drop (j - i), Y.take (j - i), X ++ C, rfl, by omega, by simp; omega, by simp; omega, ?_⟩
 ·rw [← List.append_assoc (Y.take (j - i)), h5]
 ·rw [← h4, ← List.append_assoc (Y.take (j - i)), h5]
theorem RoI.same {α : Type} {m i : Nat} {T D : List α} (h : RoI m T i i D) : ∃ A X Y C, D = A ++ (X ++ ([] ++ (Y ++ C))) ∧ A.length = m - i ∧ X.length = i ∧ Y.length = i ∧ m - i + i + ([] : List α).length = m ∧ i ≤ m ∧ A ++ (Y ++ ([] ++ (X ++ C))) = T := by
 obtain ⟨A, X, Y, C, rfl, h1, h2, h3, h4⟩ := h
 exact ⟨A, X, Y, C, by simp, by omega, h2, h3, by simp; omega, by omega, by rw [← h4]; simp⟩
end Go.Proofs.YtiaopafkfadmkaaGreat.B.Stb
namespace Go.Proofs.YtiaopafkfadmkaaGreat.G
open Go.Proofs.YtiaopafkfadmkaaGreat.B
open Go.RowKit Go.Shelf Go.Lib Go.Sort
set_option maxHeartbeats 4000000 in
theorem rotate_any {P : Program} (Ly : Lys P) (k : Nat) (aE : ∀ w, (isAgg 189).run P w = .ok true w) (zE : ∀ w, (Go.sizeOf 189).run P w = .ok k w) {α : Type} [Inhabited α] (enc : α → List Value) (g : Nat) (cb : Array Value) (blk off cap a m b : Nat) (d0 d : Array α) (w0 w : World)
  (R : RowK enc k w0 blk off d0) (hs : d0.size = d.size) (S : SWK enc k w0 blk off d w) (A X Y C : List α) (hd : d.toList = A ++ (X ++ (Y ++ C))) (hA : A.length = a) (hm : a + X.length = m) (hb : m + Y.length = b) (h0 : 0 < X.length) (h1 : 0 < Y.length) (hsz : d.size ≤ 1000) :
  Calls P 210 #[.slice (some ⟨blk, off, none⟩) d.size cap, .int .i64 a, .int .i64 m, .int .i64 b, .func (.func g) #[] cb] w fun e w' => e = .returned (.tuple #[]) ∧ ∃ d' : Array α, d'.toList = A ++ (Y ++ (X ++ C)) ∧ d'.size = d.size ∧ SWK enc k w0 blk off d' w' := by
 have mixed := Ly.mixed; have t0 := Ly.t0; have a0 := Ly.a0; have z0 := Ly.z0; have v0 := Ly.v0; have t1 := Ly.t1; have a1 := Ly.a1; have z1 := Ly.z1; have v1 := Ly.v1; have t2 := Ly.t2; have a2 := Ly.a2; have z2 := Ly.z2; have v2 := Ly.v2; have t3 := Ly.t3; have a3 := Ly.a3; have z3 := Ly.z3; have v3 := Ly.v3; have t4 := Ly.t4; have a4 := Ly.a4; have z4 := Ly.z4; have v4 := Ly.v4; have t5 := Ly.t5; have a5 := Ly.a5; have z5 := Ly.z5; have v5 := Ly.v5
 have F := Ly.ro
 have e39 : ∀ args w, (callFunc 227 args).run P w = .ok (.enter 227 args) w := enters_of Ly.sw (by kernel_rfl) rfl
 have hle : b ≤ d.size := by
  have := congrArg List.length hd
  simp at this
  omega
 have S0 : Aside (SWK enc k w0 blk off d w) := S
 obtain ⟨T, hT⟩ : ∃ T, A ++ (Y ++ (X ++ C)) = T := ⟨_, rfl⟩
 have HD : Hid (Stb.RoI m T (m - a) (b - m) d.toList) := ⟨A, X, Y, C, hd, by omega, by omega, by omega, hT⟩
 have SW : Hid (∀ (dk : Array α) (wr : World) (x y n : Nat) (A X B Y C : List α), dk.size = d.size → SWK enc k w0 blk off dk wr → dk.toList = A ++ (X ++ (B ++ (Y ++ C))) → A.length = x → X.length = n → Y.length = n → x + n + B.length = y → Calls P 227 #[.slice (some ⟨blk, off, none⟩) d.size cap, .int .i64 x, .int .i64 y, .int .i64 n, .func (.func g) #[] cb] wr fun e w' => e = .returned (.tuple #[]) ∧ ∃ d' : Array α, d'.toList = A ++ (Y ++ (B ++ (X ++ C))) ∧ d'.size = d.size ∧ SWK enc k w0 blk off d' w') := fun dk wr x y n A X B Y C h1 h2 h3 h4 h5 h6 h7 => by
  have := swapRange_any Ly k aE zE enc g cb blk off cap x y n d0 dk w0 wr R (by omega) h2 A X B Y C h3 h4 h5 h6 h7 (by omega)
  rw [h1] at this
  exact this
 rw [hT]
 have ham : a < m := by omega
 have hmb : m < b := by omega
 clear S hd hm hb Ly hT h0 h1 hA R
 go_enter F, Tryz.ntmps210
 go_wp2
 go_loopw [10, 11] (fun s10 s11 wr => ∃ (i j : Nat) (dk : Array α), s10 = .int .i64 i ∧ s11 = .int .i64 j ∧ 0 < i ∧ 0 < j ∧ i ≤ m ∧ m + j ≤ b ∧ dk.size = d.size ∧ Aside (SWK enc k w0 blk off dk wr) ∧ Hid (Stb.RoI m T i j dk.toList)) (fun s10 s11 _ => (intOf s10).toNat + (intOf s11).toNat)
 case atStart => exact ⟨m - a, b - m, d, by congr 1; omega, by congr 1; omega, by omega, by omega, by omega, by omega, rfl, S0, HD⟩
 case round =>
  obtain ⟨i, j, dk, rfl, rfl, hi, hj, him, hjb, hds, S1, HL⟩ := hrel
  by_cases hne : i = j
  ·subst hne
   have hk1 : ((i : Int) != (i : Int)) = false := by simp
   obtain ⟨A', X', Y', C', q1, q2, q3, q4, q5, q6, q7⟩ := HL.out.same
   have C0 := SW.out dk wr (m - i) m i A' X' [] Y' C' hds S1.out q1 q2 q3 q4 q5
   rw [q7, show ((m - i : Nat) : Int) = (m : Int) - (i : Int) by omega] at C0
   clear q1 q2 q3 q4 q5 q7 HL S1
   go_wp2_with (go_at_fn 227; refine C0.mono ?_; rintro e w2 ⟨rfl, d2, h1, h2, h3⟩)
   go_end0
   exact ⟨rfl, d2, h1, h2, h3⟩
  ·have hk1 : ((i : Int) != (j : Int)) = true := by simp; omega
   by_cases hlt : j < i
   ·have hlt' : (j : Int) < (i : Int) := by omega
    obtain ⟨A', X', B', Y', C', q1, q2, q3, q4, q5, q6, q7⟩ := HL.out.big hlt
    have C0 := SW.out dk wr (m - i) m j A' X' B' Y' C' hds S1.out q1 q2 q3 q4 q5
    rw [show ((m - i : Nat) : Int) = (m : Int) - (i : Int) by omega] at C0
    obtain ⟨T2, hT2⟩ : ∃ T2, A' ++ (Y' ++ (B' ++ (X' ++ C'))) = T2 := ⟨_, rfl⟩
    rw [hT2] at C0 q7
    have Q7 : Hid (Stb.RoI m T (i - j) j T2) := q7
    clear q1 q2 q3 q4 q5 q7 HL S1 hT2
    go_wp2_with (go_at_fn 227; refine C0.mono ?_; rintro e w2 ⟨rfl, d2, h1, h2, h3⟩; have S2 : Aside (SWK enc k w0 blk off d2 w2) := h3; have H1 : Hid (d2.toList = T2) := h1; have H2 : Hid (d2.size = d.size) := h2; clear h1 h2 h3)
    go_roundw
    case rel => exact ⟨i - j, j, d2, by congr 1; omega, rfl, by omega, hj, by omega, by omega, H2.out, S2, by show Stb.RoI _ _ _ _ _; rw [H1.out]; exact Q7.out⟩
    case measure => simp [intOf]; omega
   ·have hlt' : ¬ (j : Int) < (i : Int) := by omega
    obtain ⟨A', X', B', Y', C', q1, q2, q3, q4, q5, q6, q7⟩ := HL.out.small (by omega)
    have C0 := SW.out dk wr (m - i) (m + j - i) i A' X' B' Y' C' hds S1.out q1 q2 q3 q4 q5
    rw [show ((m - i : Nat) : Int) = (m : Int) - (i : Int) by omega, show ((m + j - i : Nat) : Int) = (m : Int) + (j : Int) - (i : Int) by omega] at C0
    obtain ⟨T2, hT2⟩ : ∃ T2, A' ++ (Y' ++ (B' ++ (X' ++ C'))) = T2 := ⟨_, rfl⟩
    rw [hT2] at C0 q7
    have Q7 : Hid (Stb.RoI m T i (j - i) T2) := q7
    clear q1 q2 q3 q4 q5 q7 HL S1 hT2
    go_wp2_with (go_at_fn 227; refine C0.mono ?_; rintro e w2 ⟨rfl, d2, h1, h2, h3⟩; have S2 : Aside (SWK enc k w0 blk off d2 w2) := h3; have H1 : Hid (d2.toList = T2) := h1; have H2 : Hid (d2.size = d.size) := h2; clear h1 h2 h3)
    go_roundw
    case rel => exact ⟨i, j - i, d2, rfl, by congr 1; omega, hi, by omega, by omega, by omega, H2.out, S2, by show Stb.RoI _ _ _ _ _; rw [H1.out]; exact Q7.out⟩
    case measure => simp [intOf]; omega
end Go.Proofs.YtiaopafkfadmkaaGreat.G
namespace Go.Proofs.YtiaopafkfadmkaaGreat.B.Stb
def mvU {α : Type} (A Y C : List α) (x : α) (q : Nat) : List α := A ++ (Y.take q ++ x :: (Y.drop q ++ C))
theorem mvU_up {α : Type} [Inhabited α] {A Y C : List α} {x : α} {d : Array α} {a u : Nat} (hA : A.length = a) (h1 : a ≤ u) (h2 : u < a + Y.length) (h : d.toList = mvU A Y C x (u - a)) : (Go.Sort.swp d u (u + 1)).toList = mvU A Y C x (u + 1 - a) := by
 have := up_step (q := u - a) hA (by omega) h
 rw [show a + (u - a) = u by omega] at this
 rw [show u + 1 - a = u - a + 1 by omega]
 exact this
theorem mvU_down {α : Type} [Inhabited α] {A X C : List α} {y : α} {d : Array α} {a u : Nat} (hA : A.length = a) (h1 : a ≤ u) (h2 : u < a + X.length) (h : d.toList = mvU A X C y (u + 1 - a)) : (Go.Sort.swp d (u + 1) u).toList = mvU A X C y (u - a) := by
 rw [show u + 1 - a = u - a + 1 by omega] at h
 have := down_step (q := u - a) hA (by omega) h
 rw [show a + (u - a + 1) = u + 1 by omega, show a + (u - a) = u by omega] at this
 exact this
end Go.Proofs.YtiaopafkfadmkaaGreat.B.Stb
namespace Go.Proofs.YtiaopafkfadmkaaGreat.G
open Go.Proofs.YtiaopafkfadmkaaGreat.B
open Go.RowKit Go.Shelf Go.Lib Go.Sort
set_option maxHeartbeats 4000000 in
theorem symL {P : Program} (Ly : Lys P) (k : Nat) (aE : ∀ w, (isAgg 189).run P w = .ok true w) (zE : ∀ w, (Go.sizeOf 189).run P w = .ok k w) {α : Type} [Inhabited α] (enc : α → List Value) (cf : α → α → Int) (le : α → α → Bool) (hcf : ∀ x y, decide (cf x y < 0) = !le y x) (ht : Stb.Tot le) (g : Nat) (cb : Array Value)
  (eg : ∀ args w, (callFunc g args).run P w = .ok (.enter g args) w) (blk off cap : Nat) (d0 : Array α) (w0 : World) (hC : CmpLays P g cb enc k cf blk off d0.size w0) (R : RowK enc k w0 blk off d0) (a m b : Nat) (d : Array α) (w : World) (hs : d0.size = d.size) (S : SWK enc k w0 blk off d w) (A : List α) (x : α) (Y C : List α) (hd : d.toList = A ++ x :: (Y ++ C)) (hA : A.length = a) (hm : a + 1 = m) (hb : m + Y.length = b) (hY : Stb.Srt le Y) (hsz : d.size ≤ 1000) :
  Calls P 191 #[.slice (some ⟨blk, off, none⟩) d.size cap, .int .i64 a, .int .i64 m, .int .i64 b, .func (.func g) #[] cb] w fun e w' => e = .returned (.tuple #[]) ∧ ∃ d' : Array α, d'.toList = A ++ (List.merge [x] Y le ++ C) ∧ d'.size = d.size ∧ SWK enc k w0 blk off d' w' := by
 have mixed := Ly.mixed; have t0 := Ly.t0; have a0 := Ly.a0; have z0 := Ly.z0; have v0 := Ly.v0; have t1 := Ly.t1; have a1 := Ly.a1; have z1 := Ly.z1; have v1 := Ly.v1; have t2 := Ly.t2; have a2 := Ly.a2; have z2 := Ly.z2; have v2 := Ly.v2; have t3 := Ly.t3; have a3 := Ly.a3; have z3 := Ly.z3; have v3 := Ly.v3; have t4 := Ly.t4; have a4 := Ly.a4; have z4 := Ly.z4; have v4 := Ly.v4; have t5 := Ly.t5; have a5 := Ly.a5; have z5 := Ly.z5; have v5 := Ly.v5
 have F := Ly.sm
 have HC : Aside _ := hC
 have hle : b ≤ d.size := by
  have := congrArg List.length hd
  simp at this
  omega
 have S0 : Aside (SWK enc k w0 blk off d w) := S
 have ex : d[a]! = x := Stb.arr_get hd hA
 have EY : Hid (∀ h, m ≤ h → h < b → d[h]! = Y[h - m]!) := fun h h1 h2 => by
  have := Stb.arr_at (A := A ++ [x]) (B := Y) (C := C) (i := h - m) (by rw [hd]; simp) (a := m) (by simp; omega) (by omega)
  rw [show m + (h - m) = h by omega] at this
  exact this
 have HD : Hid (d.toList = Stb.mvU A Y C x 0) := by show _ = _; rw [hd]; simp [Stb.mvU]
 have UP : Hid (∀ (dk : Array α) (u : Nat), a ≤ u → u < a + Y.length → dk.toList = Stb.mvU A Y C x (u - a) → (swp dk u (u + 1)).toList = Stb.mvU A Y C x (u + 1 - a)) := fun dk u h1 h2 h3 => Stb.mvU_up hA h1 h2 h3
 have EN : Hid (∀ p, p ≤ Y.length → (p = 0 ∨ le x Y[p - 1]! = false) → (p = Y.length ∨ le x Y[p]! = true) → Stb.mvU A Y C x p = A ++ (List.merge [x] Y le ++ C)) := fun p h1 h2 h3 => by
  rw [Stb.merge_left ht hY x h1 h2 h3]
  simp [Stb.mvU]
 have hq1 : (m : Int) - (a : Int) = 1 := by omega
 have hma : a < m := by omega
 obtain ⟨ly, hly⟩ : ∃ ly, Y.length = ly := ⟨_, rfl⟩
 rw [hly] at hb UP EN
 have hmb : m ≤ b := by omega
 have HB : Hid (m + ly = b ∧ a + 1 = m) := ⟨hb, hm⟩
 clear S hd Ly hC hA hly hY hb hm
 go_enter F, Tryz.ntmps191
 go_wp2
 go_loopw [10, 11] (fun s10 s11 wr => ∃ i j : Nat, s10 = .int .i64 i ∧ s11 = .int .i64 j ∧ m ≤ i ∧ i ≤ j ∧ j ≤ b ∧ Aside (SWK enc k w0 blk off d wr) ∧ Hid ((i = m ∨ le x Y[i - m - 1]! = false) ∧ (j = b ∨ le x Y[j - m]! = true))) (fun s10 s11 _ => (intOf s11).toNat - (intOf s10).toNat)
 case atStart => exact ⟨m, b, rfl, rfl, Nat.le_refl _, hmb, Nat.le_refl _, S0, (⟨Or.inl rfl, Or.inl rfl⟩ : (m = m ∨ le x Y[m - m - 1]! = false) ∧ (b = b ∨ le x Y[b - m]! = true))⟩
 case round =>
  obtain ⟨i, j, rfl, rfl, hmi, hij, hjb, S1, HI⟩ := hrel
  by_cases hlt : i < j
  ·have hlt' : (i : Int) < (j : Int) := by omega
   obtain ⟨h, hh⟩ : ∃ h : Nat, h = (i + j) / 2 := ⟨_, rfl⟩
   have hh1 : i ≤ h := by omega
   have hh2 : h < j := by omega
   have hh4 : ((i : Int) + (j : Int)) / 2 = (h : Int) := by omega
   clear hh
   have ey := EY.out h (by omega) (by omega)
   cases hlv : le d[a]! d[h]!
   ·have HV : Hid (le x Y[h - m]! = false) := by rw [← ey, ← ex]; exact hlv
    clear ey
    have eI : ((h : Int)).toNat = h := by omega
    have pI : (0 : Int) ≤ (h : Int) := by omega
    have bI : (h : Int) < (d.size : Int) := by omega
    have rI : IntKind.i64.wrap ((h : Int)) = (h : Int) := by rw [IntKind.wrap_i64]; omega
    have eJ : ((a : Int)).toNat = a := by omega
    have pJ : (0 : Int) ≤ (a : Int) := by omega
    have bJ : (a : Int) < (d.size : Int) := by omega
    have rJ : IntKind.i64.wrap ((a : Int)) = (a : Int) := by rw [IntKind.wrap_i64]; omega
    obtain ⟨xx, hxx⟩ : ∃ x, x = d[h]! := ⟨_, rfl⟩
    obtain ⟨yy, hyy⟩ : ∃ x, x = d[a]! := ⟨_, rfl⟩
    have lI := S1.out.ld R (by omega) P h (by omega)
    have lJ := S1.out.ld R (by omega) P a (by omega)
    rw [← hxx] at lI
    rw [← hyy] at lJ
    have hcc := S1.out.cmp HC.out (by omega) xx yy
    have hdv : decide (cf xx yy < 0) = true := by rw [hcf, hxx, hyy, hlv]; rfl
    obtain ⟨z, hz⟩ : ∃ z, cf xx yy = z := ⟨_, rfl⟩
    rw [hz] at hcc hdv
    have hvv : z < 0 := of_decide_eq_true hdv
    clear hxx hyy hz
    go_wp2_with fail
    go_quiet_grown (first | (go_at_fn g; refine Calls.grown_of (hcc _ _)))
    have S2 : Aside (SWK enc k w0 blk off d (grow (wr.drewN nq) osq)) := S1.out.grown nq osq
    clear lI lJ hcc S1
    generalize grow (wr.drewN nq) osq = w2 at S2 ⊢
    clear nq osq
    go_wp2
    clear hdv hvv
    go_roundw
    case rel => exact ⟨h + 1, j, by go_num, rfl, by omega, by omega, hjb, S2, (⟨Or.inr (by rw [show h + 1 - m - 1 = h - m by omega]; exact HV.out), HI.out.2⟩ : (h + 1 = m ∨ le x Y[h + 1 - m - 1]! = false) ∧ (j = b ∨ le x Y[j - m]! = true))⟩
    case measure => simp [intOf]; omega
   ·have HV : Hid (le x Y[h - m]! = true) := by rw [← ey, ← ex]; exact hlv
    clear ey
    have eI : ((h : Int)).toNat = h := by omega
    have pI : (0 : Int) ≤ (h : Int) := by omega
    have bI : (h : Int) < (d.size : Int) := by omega
    have rI : IntKind.i64.wrap ((h : Int)) = (h : Int) := by rw [IntKind.wrap_i64]; omega
    have eJ : ((a : Int)).toNat = a := by omega
    have pJ : (0 : Int) ≤ (a : Int) := by omega
    have bJ : (a : Int) < (d.size : Int) := by omega
    have rJ : IntKind.i64.wrap ((a : Int)) = (a : Int) := by rw [IntKind.wrap_i64]; omega
    obtain ⟨xx, hxx⟩ : ∃ x, x = d[h]! := ⟨_, rfl⟩
    obtain ⟨yy, hyy⟩ : ∃ x, x = d[a]! := ⟨_, rfl⟩
    have lI := S1.out.ld R (by omega) P h (by omega)
    have lJ := S1.out.ld R (by omega) P a (by omega)
    rw [← hxx] at lI
    rw [← hyy] at lJ
    have hcc := S1.out.cmp HC.out (by omega) xx yy
    have hdv : decide (cf xx yy < 0) = false := by rw [hcf, hxx, hyy, hlv]; rfl
    obtain ⟨z, hz⟩ : ∃ z, cf xx yy = z := ⟨_, rfl⟩
    rw [hz] at hcc hdv
    have hvv : ¬ z < 0 := of_decide_eq_false hdv
    clear hxx hyy hz
    go_wp2_with fail
    go_quiet_grown (first | (go_at_fn g; refine Calls.grown_of (hcc _ _)))
    have S2 : Aside (SWK enc k w0 blk off d (grow (wr.drewN nq) osq)) := S1.out.grown nq osq
    clear lI lJ hcc S1
    generalize grow (wr.drewN nq) osq = w2 at S2 ⊢
    clear nq osq
    go_wp2
    clear hdv hvv
    go_roundw
    case rel => exact ⟨i, h, rfl, rfl, hmi, hh1, by omega, S2, (⟨HI.out.1, Or.inr HV.out⟩ : (i = m ∨ le x Y[i - m - 1]! = false) ∧ (h = b ∨ le x Y[h - m]! = true))⟩
    case measure => simp [intOf]; omega
  ·obtain rfl : i = j := by omega
   have hb := HB.out.1
   have hm := HB.out.2
   have EN2 : Hid (Stb.mvU A Y C x (i - 1 - a) = A ++ (List.merge [x] Y le ++ C)) := EN.out (i - 1 - a) (by omega) (by
    rcases HI.out.1 with g | g
    ·exact Or.inl (by omega)
    ·exact Or.inr (by rw [show i - 1 - a - 1 = i - m - 1 by omega]; exact g)) (by
    rcases HI.out.2 with g | g
    ·exact Or.inl (by omega)
    ·exact Or.inr (by rw [show i - 1 - a = i - m by omega]; exact g))
   clear HI EN hb hm
   go_wp2
   go_loopw [13] (fun s13 wr => ∃ (u : Nat) (dk : Array α), s13 = .int .i64 u ∧ a ≤ u ∧ u + 1 ≤ i ∧ dk.size = d.size ∧ Aside (SWK enc k w0 blk off dk wr) ∧ Hid (dk.toList = Stb.mvU A Y C x (u - a))) (fun s13 _ => i - (intOf s13).toNat)
   case atStart => exact ⟨a, d, rfl, Nat.le_refl _, by omega, rfl, S1, by show d.toList = _; rw [Nat.sub_self]; exact HD.out⟩
   case round =>
    clear S1
    obtain ⟨u, dk, rfl, hau, hui, hds, S1, HL⟩ := hrel
    by_cases hlt : u + 1 < i
    ·have hlt' : (u : Int) < (i : Int) - 1 := by omega
     obtain ⟨v, hv⟩ : ∃ v, v = u + 1 := ⟨_, rfl⟩
     have hv2 : (u : Int) + 1 = (v : Int) := by omega
     have hv3 : v ≤ d.size - 1 := by omega
     have HL2 : Hid ((swp dk u v).toList = Stb.mvU A Y C x (v - a)) := by rw [hv]; exact UP.out dk u hau (by have hb := HB.out; omega) HL.out
     have eI : ((u : Int)).toNat = u := by omega
     have pI : (0 : Int) ≤ (u : Int) := by omega
     have bI : (u : Int) < (d.size : Int) := by omega
     have rI : IntKind.i64.wrap ((u : Int)) = (u : Int) := by rw [IntKind.wrap_i64]; omega
     have eJ : ((v : Int)).toNat = v := by omega
     have pJ : (0 : Int) ≤ (v : Int) := by omega
     have bJ : (v : Int) < (d.size : Int) := by omega
     have rJ : IntKind.i64.wrap ((v : Int)) = (v : Int) := by rw [IntKind.wrap_i64]; omega
     have S2 : Aside (SWK enc k w0 blk off (swp dk u v) ((wr.drew.setCells blk (off + u * k) (enc dk[v]!)).setCells blk (off + v * k) (enc dk[u]!))) := S1.out.swapped R u v (by omega) (by omega)
     have la := S1.out.ld1 R (by omega) P u (by omega)
     have lb := S1.out.ld1 R (by omega) P v (by omega)
     have sa := S1.out.st1 R (by omega) P u (by omega) dk[v]!
     have sb := S1.out.st2 R (by omega) P u v (by omega) (by omega) dk[v]! dk[u]!
     have na : (enc dk[u]!).length = k := R.hk _
     have nb : (enc dk[v]!).length = k := R.hk _
     have hds2 : (swp dk u v).size = d.size := by rw [size_swp]; exact hds
     generalize enc dk[u]! = cI at S2 la sb na
     generalize enc dk[v]! = cJ at S2 lb sa sb nb
     generalize swp dk u v = dk2 at S2 HL2 hds2
     clear S1 HL hv
     go_wp2_with fail
     go_big_region_o
     clear la lb sa sb
     generalize (wr.drew.setCells blk (off + u * k) cJ).setCells blk (off + v * k) cI = w2 at S2 ⊢
     go_wp2
     go_roundw
     case rel => exact ⟨v, dk2, by first | rfl | go_num, by omega, by omega, hds2, S2, HL2⟩
     case measure => simp [intOf]; omega
    ·have hlt' : ¬ (u : Int) < (i : Int) - 1 := by omega
     obtain rfl : u = i - 1 := by omega
     go_wp2
     refine bodyPost_ret (results_none rfl _ _ _) rfl ?_
     exact ⟨rfl, dk, by rw [HL.out, EN2.out], hds, S1.out⟩
end Go.Proofs.YtiaopafkfadmkaaGreat.G
namespace Go.Proofs.YtiaopafkfadmkaaGreat.G
open Go.Proofs.YtiaopafkfadmkaaGreat.B
open Go.RowKit Go.Shelf Go.Lib Go.Sort
set_option maxHeartbeats 4000000 in
theorem symR {P : Program} (Ly : Lys P) (k : Nat) (aE : ∀ w, (isAgg 189).run P w = .ok true w) (zE : ∀ w, (Go.sizeOf 189).run P w = .ok k w) {α : Type} [Inhabited α] (enc : α → List Value) (cf : α → α → Int) (le : α → α → Bool) (hcf : ∀ x y, decide (cf x y < 0) = !le y x) (ht : Stb.Tot le) (g : Nat) (cb : Array Value)
  (eg : ∀ args w, (callFunc g args).run P w = .ok (.enter g args) w) (blk off cap : Nat) (d0 : Array α) (w0 : World) (hC : CmpLays P g cb enc k cf blk off d0.size w0) (R : RowK enc k w0 blk off d0) (a m b : Nat) (d : Array α) (w : World) (hs : d0.size = d.size) (S : SWK enc k w0 blk off d w) (A X : List α) (y : α) (C : List α) (hd : d.toList = A ++ (X ++ y :: C)) (hA : A.length = a) (hm : a + X.length = m) (h2 : 2 ≤ X.length) (hb : m + 1 = b) (hX : Stb.Srt le X) (hsz : d.size ≤ 1000) :
  Calls P 191 #[.slice (some ⟨blk, off, none⟩) d.size cap, .int .i64 a, .int .i64 m, .int .i64 b, .func (.func g) #[] cb] w fun e w' => e = .returned (.tuple #[]) ∧ ∃ d' : Array α, d'.toList = A ++ (List.merge X [y] le ++ C) ∧ d'.size = d.size ∧ SWK enc k w0 blk off d' w' := by
 have mixed := Ly.mixed; have t0 := Ly.t0; have a0 := Ly.a0; have z0 := Ly.z0; have v0 := Ly.v0; have t1 := Ly.t1; have a1 := Ly.a1; have z1 := Ly.z1; have v1 := Ly.v1; have t2 := Ly.t2; have a2 := Ly.a2; have z2 := Ly.z2; have v2 := Ly.v2; have t3 := Ly.t3; have a3 := Ly.a3; have z3 := Ly.z3; have v3 := Ly.v3; have t4 := Ly.t4; have a4 := Ly.a4; have z4 := Ly.z4; have v4 := Ly.v4; have t5 := Ly.t5; have a5 := Ly.a5; have z5 := Ly.z5; have v5 := Ly.v5
 have F := Ly.sm
 have HC : Aside _ := hC
 have hle : b ≤ d.size := by
  have := congrArg List.length hd
  simp at this
  omega
 have S0 : Aside (SWK enc k w0 blk off d w) := S
 have ey : d[m]! = y := Stb.arr_get (A := A ++ X) (R := C) (by rw [hd]; simp) (by simp; omega)
 have EX : Hid (∀ h, a ≤ h → h < m → d[h]! = X[h - a]!) := fun h h1 h2 => by
  have := Stb.arr_at (A := A) (B := X) (C := y :: C) (i := h - a) hd (a := a) hA (by omega)
  rw [show a + (h - a) = h by omega] at this
  exact this
 have HD : Hid (d.toList = Stb.mvU A X C y (m - a)) := by
  show _ = _
  rw [hd, show m - a = X.length by omega]
  simp [Stb.mvU]
 have DN : Hid (∀ (dk : Array α) (u : Nat), a ≤ u → u < m → dk.toList = Stb.mvU A X C y (u + 1 - a) → (swp dk (u + 1) u).toList = Stb.mvU A X C y (u - a)) := fun dk u h1 h2 h3 => Stb.mvU_down hA h1 (by omega) h3
 have EN : Hid (∀ p, p ≤ m - a → (p = 0 ∨ le X[p - 1]! y = true) → (p = m - a ∨ le X[p]! y = false) → Stb.mvU A X C y p = A ++ (List.merge X [y] le ++ C)) := fun p h1 h2 h3 => by
  rw [show m - a = X.length by omega] at h1 h3
  rw [Stb.merge_right ht hX y h1 h2 h3]
  simp [Stb.mvU]
 have hq1 : ((m : Int) - (a : Int) == 1) = false := by simp; omega
 have hq2 : (b : Int) - (m : Int) = 1 := by omega
 have hma : a < m := by omega
 have hmb : m < b := by omega
 clear S hd Ly hC hA hX hb hm h2
 go_enter F, Tryz.ntmps191
 go_wp2
 go_loopw [14, 15] (fun s14 s15 wr => ∃ i j : Nat, s14 = .int .i64 i ∧ s15 = .int .i64 j ∧ a ≤ i ∧ i ≤ j ∧ j ≤ m ∧ Aside (SWK enc k w0 blk off d wr) ∧ Hid ((i = a ∨ le X[i - a - 1]! y = true) ∧ (j = m ∨ le X[j - a]! y = false))) (fun s14 s15 _ => (intOf s15).toNat - (intOf s14).toNat)
 case atStart => exact ⟨a, m, rfl, rfl, Nat.le_refl _, by omega, Nat.le_refl _, S0, (⟨Or.inl rfl, Or.inl rfl⟩ : (a = a ∨ le X[a - a - 1]! y = true) ∧ (m = m ∨ le X[m - a]! y = false))⟩
 case round =>
  obtain ⟨i, j, rfl, rfl, hmi, hij, hjb, S1, HI⟩ := hrel
  by_cases hlt : i < j
  ·have hlt' : (i : Int) < (j : Int) := by omega
   obtain ⟨h, hh⟩ : ∃ h : Nat, h = (i + j) / 2 := ⟨_, rfl⟩
   have hh1 : i ≤ h := by omega
   have hh2 : h < j := by omega
   have hh4 : ((i : Int) + (j : Int)) / 2 = (h : Int) := by omega
   clear hh
   have exh := EX.out h (by omega) (by omega)
   cases hlv : le d[h]! d[m]!
   ·have HV : Hid (le X[h - a]! y = false) := by rw [← exh, ← ey]; exact hlv
    clear exh
    have eI : ((m : Int)).toNat = m := by omega
    have pI : (0 : Int) ≤ (m : Int) := by omega
    have bI : (m : Int) < (d.size : Int) := by omega
    have rI : IntKind.i64.wrap ((m : Int)) = (m : Int) := by rw [IntKind.wrap_i64]; omega
    have eJ : ((h : Int)).toNat = h := by omega
    have pJ : (0 : Int) ≤ (h : Int) := by omega
    have bJ : (h : Int) < (d.size : Int) := by omega
    have rJ : IntKind.i64.wrap ((h : Int)) = (h : Int) := by rw [IntKind.wrap_i64]; omega
    obtain ⟨xx, hxx⟩ : ∃ x, x = d[m]! := ⟨_, rfl⟩
    obtain ⟨yy, hyy⟩ : ∃ x, x = d[h]! := ⟨_, rfl⟩
    have lI := S1.out.ld R (by omega) P m (by omega)
    have lJ := S1.out.ld R (by omega) P h (by omega)
    rw [← hxx] at lI
    rw [← hyy] at lJ
    have hcc := S1.out.cmp HC.out (by omega) xx yy
    have hdv : decide (cf xx yy < 0) = true := by rw [hcf, hxx, hyy, hlv]; rfl
    obtain ⟨z, hz⟩ : ∃ z, cf xx yy = z := ⟨_, rfl⟩
    rw [hz] at hcc hdv
    have hvv : z < 0 := of_decide_eq_true hdv
    clear hxx hyy hz
    go_wp2_with fail
    go_quiet_grown (first | (go_at_fn g; refine Calls.grown_of (hcc _ _)))
    have S2 : Aside (SWK enc k w0 blk off d (grow (wr.drewN nq) osq)) := S1.out.grown nq osq
    clear lI lJ hcc S1
    generalize grow (wr.drewN nq) osq = w2 at S2 ⊢
    clear nq osq
    go_wp2
    clear hdv hvv
    go_roundw
    case rel => exact ⟨i, h, rfl, rfl, hmi, hh1, by omega, S2, (⟨HI.out.1, Or.inr HV.out⟩ : (i = a ∨ le X[i - a - 1]! y = true) ∧ (h = m ∨ le X[h - a]! y = false))⟩
    case measure => simp [intOf]; omega
   ·have HV : Hid (le X[h - a]! y = true) := by rw [← exh, ← ey]; exact hlv
    clear exh
    have eI : ((m : Int)).toNat = m := by omega
    have pI : (0 : Int) ≤ (m : Int) := by omega
    have bI : (m : Int) < (d.size : Int) := by omega
    have rI : IntKind.i64.wrap ((m : Int)) = (m : Int) := by rw [IntKind.wrap_i64]; omega
    have eJ : ((h : Int)).toNat = h := by omega
    have pJ : (0 : Int) ≤ (h : Int) := by omega
    have bJ : (h : Int) < (d.size : Int) := by omega
    have rJ : IntKind.i64.wrap ((h : Int)) = (h : Int) := by rw [IntKind.wrap_i64]; omega
    obtain ⟨xx, hxx⟩ : ∃ x, x = d[m]! := ⟨_, rfl⟩
    obtain ⟨yy, hyy⟩ : ∃ x, x = d[h]! := ⟨_, rfl⟩
    have lI := S1.out.ld R (by omega) P m (by omega)
    have lJ := S1.out.ld R (by omega) P h (by omega)
    rw [← hxx] at lI
    rw [← hyy] at lJ
    have hcc := S1.out.cmp HC.out (by omega) xx yy
    have hdv : decide (cf xx yy < 0) = false := by rw [hcf, hxx, hyy, hlv]; rfl
    obtain ⟨z, hz⟩ : ∃ z, cf xx yy = z := ⟨_, rfl⟩
    rw [hz] at hcc hdv
    have hvv : ¬ z < 0 := of_decide_eq_false hdv
    clear hxx hyy hz
    go_wp2_with fail
    go_quiet_grown (first | (go_at_fn g; refine Calls.grown_of (hcc _ _)))
    have S2 : Aside (SWK enc k w0 blk off d (grow (wr.drewN nq) osq)) := S1.out.grown nq osq
    clear lI lJ hcc S1
    generalize grow (wr.drewN nq) osq = w2 at S2 ⊢
    clear nq osq
    go_wp2
    clear hdv hvv
    go_roundw
    case rel => exact ⟨h + 1, j, by go_num, rfl, by omega, by omega, hjb, S2, (⟨Or.inr (by rw [show h + 1 - a - 1 = h - a by omega]; exact HV.out), HI.out.2⟩ : (h + 1 = a ∨ le X[h + 1 - a - 1]! y = true) ∧ (j = m ∨ le X[j - a]! y = false))⟩
    case measure => simp [intOf]; omega
  ·obtain rfl : i = j := by omega
   have EN2 : Hid (Stb.mvU A X C y (i - a) = A ++ (List.merge X [y] le ++ C)) := EN.out (i - a) (by omega) (by
    rcases HI.out.1 with g | g
    ·exact Or.inl (by omega)
    ·exact Or.inr g) (by
    rcases HI.out.2 with g | g
    ·exact Or.inl (by omega)
    ·exact Or.inr g)
   clear HI EN
   go_wp2
   go_loopw [17] (fun s17 wr => ∃ (u : Nat) (dk : Array α), s17 = .int .i64 u ∧ i ≤ u ∧ u ≤ m ∧ dk.size = d.size ∧ Aside (SWK enc k w0 blk off dk wr) ∧ Hid (dk.toList = Stb.mvU A X C y (u - a))) (fun s17 _ => (intOf s17).toNat)
   case atStart => exact ⟨m, d, rfl, by omega, Nat.le_refl _, rfl, S1, HD⟩
   case round =>
    clear S1
    obtain ⟨u, dk, rfl, hau, hui, hds, S1, HL⟩ := hrel
    by_cases hlt : i < u
    ·have hlt' : (i : Int) < (u : Int) := by omega
     obtain ⟨v, hv⟩ : ∃ v, u = v + 1 := ⟨u - 1, by omega⟩
     have hv2 : (u : Int) - 1 = (v : Int) := by omega
     have HL2 : Hid ((swp dk u v).toList = Stb.mvU A X C y (v - a)) := by
      have h1 := HL.out
      rw [hv] at h1 ⊢
      exact DN.out dk v (by omega) (by omega) h1
     have hv4 : v < u := by omega
     have hv5 : u ≤ v + 1 := by omega
     clear hv
     have eI : ((u : Int)).toNat = u := by omega
     have pI : (0 : Int) ≤ (u : Int) := by omega
     have bI : (u : Int) < (d.size : Int) := by omega
     have rI : IntKind.i64.wrap ((u : Int)) = (u : Int) := by rw [IntKind.wrap_i64]; omega
     have eJ : ((v : Int)).toNat = v := by omega
     have pJ : (0 : Int) ≤ (v : Int) := by omega
     have bJ : (v : Int) < (d.size : Int) := by omega
     have rJ : IntKind.i64.wrap ((v : Int)) = (v : Int) := by rw [IntKind.wrap_i64]; omega
     have S2 : Aside (SWK enc k w0 blk off (swp dk u v) ((wr.drew.setCells blk (off + u * k) (enc dk[v]!)).setCells blk (off + v * k) (enc dk[u]!))) := S1.out.swapped R u v (by omega) (by omega)
     have la := S1.out.ld1 R (by omega) P u (by omega)
     have lb := S1.out.ld1 R (by omega) P v (by omega)
     have sa := S1.out.st1 R (by omega) P u (by omega) dk[v]!
     have sb := S1.out.st2 R (by omega) P u v (by omega) (by omega) dk[v]! dk[u]!
     have na : (enc dk[u]!).length = k := R.hk _
     have nb : (enc dk[v]!).length = k := R.hk _
     have hds2 : (swp dk u v).size = d.size := by rw [size_swp]; exact hds
     generalize enc dk[u]! = cI at S2 la sb na
     generalize enc dk[v]! = cJ at S2 lb sa sb nb
     generalize swp dk u v = dk2 at S2 HL2 hds2
     clear S1 HL
     go_wp2_with fail
     go_big_region_o
     clear la lb sa sb
     generalize (wr.drew.setCells blk (off + u * k) cJ).setCells blk (off + v * k) cI = w2 at S2 ⊢
     go_wp2
     go_roundw
     case rel => exact ⟨v, dk2, by first | rfl | go_num, by omega, by omega, hds2, S2, HL2⟩
     case measure => simp [intOf]; omega
    ·have hlt' : ¬ (i : Int) < (u : Int) := by omega
     obtain rfl : u = i := by omega
     go_wp2
     refine bodyPost_ret (results_none rfl _ _ _) rfl ?_
     exact ⟨rfl, dk, by rw [HL.out, EN2.out], hds, S1.out⟩
end Go.Proofs.YtiaopafkfadmkaaGreat.G
