/- Proved: what is asked of a program for its stable sort: its bodies and its types; contracts of two parts that change places. -/
import Derived.Shelf.SlSortCmp.KitK
import Derived.Sort.WalkB2
import Derived.Sort.WalkB12
import Derived.Deep.LoopGhost
import Derived.BigRegion
import Derived.Test.YtpkemgpnpadkfaaSta
import Derived.Test.YtpkemgpnpadkfaaBas
namespace Go.Proofs.Ytpkemgpnpadkfaa
open Go.RowKit Go.Shelf Go.Lib Go.Sort
set_option linter.unusedVariables false

/-- A program that has these bodies, and these types. -/
structure Lys (P : Program) : Prop where
  mixed : P.follows .mixedOrders = true
  st : P.funcs[34]? = some Try.f34
  sm : P.funcs[37]? = some Try.f37
  ro : P.funcs[38]? = some Try.f38
  sw : P.funcs[39]? = some Try.f39
  t0 : P.underlying 0 = some (TypeDesc.tuple #[])
  a0 : ∀ w, (isAgg 0).run P w = .ok false w
  z0 : ∀ w, (Go.sizeOf 0).run P w = .ok 1 w
  v0 : ∀ w, (zeroValue 0).run P w = .ok (Value.tuple #[]) w
  t1 : P.underlying 3 = some (TypeDesc.int IntKind.i64)
  a1 : ∀ w, (isAgg 3).run P w = .ok false w
  z1 : ∀ w, (Go.sizeOf 3).run P w = .ok 1 w
  v1 : ∀ w, (zeroValue 3).run P w = .ok (Value.int IntKind.i64 0) w
  t2 : P.underlying 4 = some (TypeDesc.bool)
  a2 : ∀ w, (isAgg 4).run P w = .ok false w
  z2 : ∀ w, (Go.sizeOf 4).run P w = .ok 1 w
  v2 : ∀ w, (zeroValue 4).run P w = .ok (Value.bool false) w
  t3 : P.underlying 52 = some (TypeDesc.slice 56)
  a3 : ∀ w, (isAgg 52).run P w = .ok false w
  z3 : ∀ w, (Go.sizeOf 52).run P w = .ok 1 w
  v3 : ∀ w, (zeroValue 52).run P w = .ok (Value.slice none 0 0) w
  t4 : P.underlying 63 = some (TypeDesc.func #[56, 56] #[3] false)
  a4 : ∀ w, (isAgg 63).run P w = .ok false w
  z4 : ∀ w, (Go.sizeOf 63).run P w = .ok 1 w
  v4 : ∀ w, (zeroValue 63).run P w = .ok (Value.nilFunc) w
  t5 : P.underlying 71 = some (TypeDesc.int IntKind.u64)
  a5 : ∀ w, (isAgg 71).run P w = .ok false w
  z5 : ∀ w, (Go.sizeOf 71).run P w = .ok 1 w
  v5 : ∀ w, (zeroValue 71).run P w = .ok (Value.int IntKind.u64 0) w
theorem lys : Lys Try.prog := {
  mixed := by kernel_rfl
  st := Try.func34
  sm := Try.func37
  ro := Try.func38
  sw := Try.func39
  t0 := Try.underlying0
  a0 := Try.isAgg0
  z0 := Try.sizeOf0
  v0 := Try.zeroValue0
  t1 := Try.underlying3
  a1 := Try.isAgg3
  z1 := Try.sizeOf3
  v1 := Try.zeroValue3
  t2 := Try.underlying4
  a2 := Try.isAgg4
  z2 := Try.sizeOf4
  v2 := Try.zeroValue4
  t3 := Try.underlying52
  a3 := Try.isAgg52
  z3 := Try.sizeOf52
  v3 := Try.zeroValue52
  t4 := Try.underlying63
  a4 := Try.isAgg63
  z4 := Try.sizeOf63
  v4 := Try.zeroValue63
  t5 := Try.underlying71
  a5 := Try.isAgg71
  z5 := Try.sizeOf71
  v5 := Try.zeroValue71 }
set_option maxHeartbeats 4000000 in
set_option maxRecDepth 1000000 in
theorem swapRange_any {P : Program} (Ly : Lys P) (k : Nat) (aE : ∀ w, (isAgg 56).run P w = .ok true w) (zE : ∀ w, (Go.sizeOf 56).run P w = .ok k w) {α : Type} [Inhabited α] (enc : α → List Value) (g : Nat) (cb : Array Value) (blk off cap a b n : Nat) (d0 d : Array α) (w0 w : World)
    (R : RowK enc k w0 blk off d0) (hs : d0.size = d.size) (S : SWK enc k w0 blk off d w) (A X B Y C : List α) (hd : d.toList = A ++ (X ++ (B ++ (Y ++ C)))) (hA : A.length = a) (hX : X.length = n) (hY : Y.length = n) (hb : a + n + B.length = b) (hsz : d.size ≤ 1000) :
    Calls P 39 #[.slice (some ⟨blk, off, none⟩) d.size cap, .int .i64 a, .int .i64 b, .int .i64 n, .func (.func g) #[] cb] w fun e w' => e = .returned (.tuple #[]) ∧ ∃ d' : Array α, d'.toList = A ++ (Y ++ (B ++ (X ++ C))) ∧ d'.size = d.size ∧ SWK enc k w0 blk off d' w' := by
  have mixed := Ly.mixed; have t0 := Ly.t0; have a0 := Ly.a0; have z0 := Ly.z0; have v0 := Ly.v0; have t1 := Ly.t1; have a1 := Ly.a1; have z1 := Ly.z1; have v1 := Ly.v1; have t2 := Ly.t2; have a2 := Ly.a2; have z2 := Ly.z2; have v2 := Ly.v2; have t3 := Ly.t3; have a3 := Ly.a3; have z3 := Ly.z3; have v3 := Ly.v3; have t4 := Ly.t4; have a4 := Ly.a4; have z4 := Ly.z4; have v4 := Ly.v4; have t5 := Ly.t5; have a5 := Ly.a5; have z5 := Ly.z5; have v5 := Ly.v5
  have F := Ly.sw
  have hle : b + n ≤ d.size := by
    have := congrArg List.length hd
    simp at this
    omega
  have S0 : Aside (SWK enc k w0 blk off d w) := S
  have HD : Hid (d.toList = Stb.swr A X B Y C 0) := by show _ = _; rw [Stb.swr_zero]; exact hd
  have ST : Hid (∀ (dk : Array α) (i : Nat), i < n → dk.toList = Stb.swr A X B Y C i → (swp dk (a + i) (b + i)).toList = Stb.swr A X B Y C (i + 1)) := fun dk i hi h => Stb.swr_step hX hY hi hA hb h
  have EN : Hid (Stb.swr A X B Y C n = A ++ (Y ++ (B ++ (X ++ C)))) := Stb.swr_end A X B Y C hX hY
  have hn1 : n ≤ 1000 := by omega
  have ha1 : a ≤ 1000 := by omega
  have hb1 : b ≤ 1000 := by omega
  have han : a + n ≤ d.size := by omega
  clear S hd hX hY hb Ly
  go_enter F, Try.ntmps39
  go_wp2
  go_loopw [10] (fun s10 wr => ∃ (i : Nat) (dk : Array α), s10 = .int .i64 i ∧ i ≤ n ∧ dk.size = d.size ∧ Aside (SWK enc k w0 blk off dk wr) ∧ Hid (dk.toList = Stb.swr A X B Y C i)) (fun s10 _ => n - (intOf s10).toNat)
  case atStart => exact ⟨0, d, rfl, Nat.zero_le _, rfl, S0, HD⟩
  case round =>
    obtain ⟨i, dk, rfl, hi, hds, S1, HL⟩ := hrel
    by_cases hlt : i < n
    · have hlt' : (i : Int) < (n : Int) := by omega
      obtain ⟨p, hp⟩ : ∃ p, p = a + i := ⟨_, rfl⟩
      obtain ⟨q, hq⟩ : ∃ q, q = b + i := ⟨_, rfl⟩
      have hp2 : (a : Int) + (i : Int) = (p : Int) := by omega
      have hq2 : (b : Int) + (i : Int) = (q : Int) := by omega
      have hps : p < dk.size := by omega
      have hqs : q < dk.size := by omega
      have ea : ((p : Int)).toNat = p := by omega
      have pa : (0 : Int) ≤ (p : Int) := by omega
      have ba : (p : Int) < (d.size : Int) := by omega
      have ra : IntKind.i64.wrap ((p : Int)) = (p : Int) := by rw [IntKind.wrap_i64]; omega
      have ec : ((q : Int)).toNat = q := by omega
      have pc : (0 : Int) ≤ (q : Int) := by omega
      have bc : (q : Int) < (d.size : Int) := by omega
      have rc : IntKind.i64.wrap ((q : Int)) = (q : Int) := by rw [IntKind.wrap_i64]; omega
      have HL2 : Hid ((swp dk p q).toList = Stb.swr A X B Y C (i + 1)) := by rw [hp, hq]; exact ST.out dk i hlt HL.out
      have hds2 : (swp dk p q).size = d.size := by rw [size_swp]; exact hds
      have S2 : Aside (SWK enc k w0 blk off (swp dk p q) ((wr.drew.setCells blk (off + p * k) (enc dk[q]!)).setCells blk (off + q * k) (enc dk[p]!))) := S1.out.swapped R p q hps hqs
      have la := S1.out.ld1 R (by omega) P p hps
      have lb := S1.out.ld1 R (by omega) P q hqs
      have sa := S1.out.st1 R (by omega) P p hps dk[q]!
      have sb := S1.out.st2 R (by omega) P p q hps hqs dk[q]! dk[p]!
      have na : (enc dk[p]!).length = k := R.hk _
      have nb : (enc dk[q]!).length = k := R.hk _
      generalize enc dk[p]! = cI at S2 la sb na
      generalize enc dk[q]! = cJ at S2 lb sa sb nb
      generalize swp dk p q = dk2 at S2 HL2 hds2
      clear S1 HL hp hq
      go_wp2_with fail
      go_big_region_o
      clear la lb sa sb
      generalize (wr.drew.setCells blk (off + p * k) cJ).setCells blk (off + q * k) cI = w2 at S2 ⊢
      go_wp2
      go_roundw
      case rel => exact ⟨i + 1, dk2, by go_num, by omega, hds2, S2, HL2⟩
      case measure => simp [intOf]; omega
    · obtain rfl : i = n := by omega
      go_wp2
      go_end0
      exact ⟨rfl, dk, by rw [HL.out, EN.out], hds, S1.out⟩
end Go.Proofs.Ytpkemgpnpadkfaa
