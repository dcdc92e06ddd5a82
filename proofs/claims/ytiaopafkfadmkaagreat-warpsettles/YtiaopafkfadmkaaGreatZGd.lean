/- Joined: the texts that follow, each with its own sentence. -/
import Derived.Test.YtiaopafkfadmkaaGreatZGc
set_option linter.unusedVariables false
set_option maxRecDepth 100000
namespace Go.Proofs.YtiaopafkfadmkaaGreat.B.Stb
theorem sym_parts {α : Type} [Inhabited α] {le : α → α → Bool} (ht : Tot le) {X Y A C : List α} (hX : Srt le X) (hY : Srt le Y) {d : Array α} (hd : d.toList = A ++ (X ++ (Y ++ C))) {a m b nn pp lo hi s e : Nat} (hA : A.length = a) (hm : a + X.length = m) (hb : m + Y.length = b)
  (h1 : a ≤ lo) (h2 : lo ≤ s) (h3 : s ≤ hi) (h4 : hi ≤ m) (h5 : hi + m ≤ nn) (h6 : nn ≤ lo + b) (h7 : lo = a ∨ nn = lo + b) (h8 : hi = m ∨ nn = hi + m) (hp : pp + 1 = nn) (he : e + s = nn)
  (k1 : s = lo ∨ le d[s - 1]! d[pp - (s - 1)]! = true) (k2 : s = hi ∨ le d[s]! d[pp - s]! = false) :
  List.merge X Y le = List.merge (X.take (s - a)) (Y.take (e - m)) le ++ List.merge (X.drop (s - a)) (Y.drop (e - m)) le := by
 have ex : ∀ c, a ≤ c → c < m → d[c]! = X[c - a]! := fun c g1 g2 => by
  have := arr_at (A := A) (B := X) (C := Y ++ C) (i := c - a) hd hA (by omega)
  rw [show a + (c - a) = c by omega] at this
  exact this
 have ey : ∀ c, m ≤ c → c < b → d[c]! = Y[c - m]! := fun c g1 g2 => by
  have := arr_at (A := A ++ X) (B := Y) (C := C) (i := c - m) (by rw [hd]; simp) (a := m) (by simp; omega) (by omega)
  rw [show m + (c - m) = c by omega] at this
  exact this
 refine merge_parts ht hX hY (by omega) (by omega) ?_ ?_
 ·by_cases g : s = lo
  ·rcases h7 with h7 | h7
   ·exact Or.inl (by omega)
   ·exact Or.inr (Or.inl (by omega))
  ·by_cases g2 : e = b
   ·exact Or.inr (Or.inl (by omega))
   ·rcases k1 with k1 | k1
    ·exact absurd k1 g
    ·refine Or.inr (Or.inr ?_)
     rw [ex (s - 1) (by omega) (by omega), show pp - (s - 1) = e by omega, ey e (by omega) (by omega), show s - 1 - a = s - a - 1 by omega] at k1
     exact k1
 ·by_cases g : s = hi
  ·rcases h8 with h8 | h8
   ·exact Or.inl (by omega)
   ·exact Or.inr (Or.inl (by omega))
  ·rcases k2 with k2 | k2
   ·exact absurd k2 g
   ·refine Or.inr (Or.inr ?_)
    rw [ex s (by omega) (by omega), show pp - s = e - 1 by omega, ey (e - 1) (by omega) (by omega), show e - 1 - m = e - m - 1 by omega] at k2
    exact k2
end Go.Proofs.YtiaopafkfadmkaaGreat.B.Stb
namespace Go.Proofs.YtiaopafkfadmkaaGreat.G
open Go.Proofs.YtiaopafkfadmkaaGreat.B
open Go.RowKit Go.Shelf Go.Lib Go.Sort
set_option maxHeartbeats 4000000 in
theorem symG {P : Program} (Ly : Lys P) (k : Nat) (aE : ∀ w, (isAgg 189).run P w = .ok true w) (zE : ∀ w, (Go.sizeOf 189).run P w = .ok k w) {α : Type} [Inhabited α] (enc : α → List Value) (cf : α → α → Int) (le : α → α → Bool) (hcf : ∀ x y, decide (cf x y < 0) = !le y x) (ht : Stb.Tot le) (g : Nat) (cb : Array Value)
  (eg : ∀ args w, (callFunc g args).run P w = .ok (.enter g args) w) (blk off cap : Nat) (d0 : Array α) (w0 : World) (hC : CmpLays P g cb enc k cf blk off d0.size w0) (R : RowK enc k w0 blk off d0) (a m b : Nat) (d : Array α) (w : World) (hs : d0.size = d.size) (S : SWK enc k w0 blk off d w) (A X Y C : List α) (hd : d.toList = A ++ (X ++ (Y ++ C))) (hA : A.length = a) (hm : a + X.length = m) (hb : m + Y.length = b) (hx2 : 2 ≤ X.length) (hy2 : 2 ≤ Y.length) (hX : Stb.Srt le X) (hY : Stb.Srt le Y) (hsz : d.size ≤ 1000)
  (IH : ∀ (a2 m2 b2 : Nat) (dk : Array α) (w1 : World) (A2 X2 Y2 C2 : List α), dk.size = d.size → SWK enc k w0 blk off dk w1 → dk.toList = A2 ++ (X2 ++ (Y2 ++ C2)) → A2.length = a2 → a2 + X2.length = m2 → m2 + Y2.length = b2 → 0 < X2.length → 0 < Y2.length → Stb.Srt le X2 → Stb.Srt le Y2 → b2 - a2 < b - a → Calls P 191 #[.slice (some ⟨blk, off, none⟩) d.size cap, .int .i64 a2, .int .i64 m2, .int .i64 b2, .func (.func g) #[] cb] w1 fun e w2 => e = .returned (.tuple #[]) ∧ ∃ d2 : Array α, d2.toList = A2 ++ (List.merge X2 Y2 le ++ C2) ∧ d2.size = d.size ∧ SWK enc k w0 blk off d2 w2) :
  Calls P 191 #[.slice (some ⟨blk, off, none⟩) d.size cap, .int .i64 a, .int .i64 m, .int .i64 b, .func (.func g) #[] cb] w fun e w2 => e = .returned (.tuple #[]) ∧ ∃ d2 : Array α, d2.toList = A ++ (List.merge X Y le ++ C) ∧ d2.size = d.size ∧ SWK enc k w0 blk off d2 w2 := by
 have mixed := Ly.mixed; have t0 := Ly.t0; have a0 := Ly.a0; have z0 := Ly.z0; have v0 := Ly.v0; have t1 := Ly.t1; have a1 := Ly.a1; have z1 := Ly.z1; have v1 := Ly.v1; have t2 := Ly.t2; have a2 := Ly.a2; have z2 := Ly.z2; have v2 := Ly.v2; have t3 := Ly.t3; have a3 := Ly.a3; have z3 := Ly.z3; have v3 := Ly.v3; have t4 := Ly.t4; have a4 := Ly.a4; have z4 := Ly.z4; have v4 := Ly.v4; have t5 := Ly.t5; have a5 := Ly.a5; have z5 := Ly.z5; have v5 := Ly.v5
 have F := Ly.sm
 have e37 : ∀ args w, (callFunc 191 args).run P w = .ok (.enter 191 args) w := enters_of Ly.sm (by kernel_rfl) rfl
 have e38 : ∀ args w, (callFunc 210 args).run P w = .ok (.enter 210 args) w := enters_of Ly.ro (by kernel_rfl) rfl
 have HC : Aside _ := hC
 have hle : b ≤ d.size := by
  have := congrArg List.length hd
  simp at this
  omega
 have S0 : Aside (SWK enc k w0 blk off d w) := S
 obtain ⟨mid, hmid⟩ : ∃ mid : Nat, mid = (a + b) / 2 := ⟨_, rfl⟩
 obtain ⟨nn, hnn⟩ : ∃ nn : Nat, nn = mid + m := ⟨_, rfl⟩
 obtain ⟨pp, hpp⟩ : ∃ pp : Nat, pp + 1 = nn := ⟨nn - 1, by omega⟩
 have hz1 : ((a : Int) + (b : Int)) / 2 = (mid : Int) := by omega
 have hz2 : (mid : Int) + (m : Int) = (nn : Int) := by omega
 have hz3 : (nn : Int) - 1 = (pp : Int) := by omega
 have hz4 : mid ≤ 1000 := by omega
 have hz5 : nn ≤ 2000 := by omega
 have hz6 : pp ≤ 2000 := by omega
 have hq1 : ((m : Int) - (a : Int) == 1) = false := by simp; omega
 have hq2 : ((b : Int) - (m : Int) == 1) = false := by simp; omega
 have ha1 : a ≤ 1000 := by omega
 have hb1 : b ≤ 1000 := by omega
 have hm1 : m ≤ 1000 := by omega
 obtain ⟨T, hT⟩ : ∃ T, A ++ (List.merge X Y le ++ C) = T := ⟨_, rfl⟩
 -- what is done behind the search
 have AF : Hid (∀ lo hi s e : Nat, a ≤ lo → lo ≤ s → s ≤ hi → hi ≤ m → hi + m ≤ nn → nn ≤ lo + b → (lo = a ∨ nn = lo + b) → (hi = m ∨ nn = hi + m) → e + s = nn → (s = lo ∨ le d[s - 1]! d[pp - (s - 1)]! = true) → (s = hi ∨ le d[s]! d[pp - s]! = false) →
   ∃ D1 D2 : List α, (s < m → m < e → ∀ w1, SWK enc k w0 blk off d w1 → Calls P 210 #[.slice (some ⟨blk, off, none⟩) d.size cap, .int .i64 s, .int .i64 m, .int .i64 e, .func (.func g) #[] cb] w1 fun e w2 => e = .returned (.tuple #[]) ∧ ∃ d2 : Array α, d2.toList = D1 ∧ d2.size = d.size ∧ SWK enc k w0 blk off d2 w2) ∧ (¬ (s < m ∧ m < e) → d.toList = D1) ∧ (a < s → m < e → ∀ dk w1, dk.size = d.size → SWK enc k w0 blk off dk w1 → dk.toList = D1 → Calls P 191 #[.slice (some ⟨blk, off, none⟩) d.size cap, .int .i64 a, .int .i64 s, .int .i64 mid, .func (.func g) #[] cb] w1 fun e w2 => e = .returned (.tuple #[]) ∧ ∃ d2 : Array α, d2.toList = D2 ∧ d2.size = d.size ∧ SWK enc k w0 blk off d2 w2) ∧ (¬ (a < s ∧ m < e) → D1 = D2) ∧ (s < m → e < b → ∀ dk w1, dk.size = d.size → SWK enc k w0 blk off dk w1 → dk.toList = D2 → Calls P 191 #[.slice (some ⟨blk, off, none⟩) d.size cap, .int .i64 mid, .int .i64 e, .int .i64 b, .func (.func g) #[] cb] w1 fun e w2 => e = .returned (.tuple #[]) ∧ ∃ d2 : Array α, d2.toList = T ∧ d2.size = d.size ∧ SWK enc k w0 blk off d2 w2) ∧ (¬ (s < m ∧ e < b) → D2 = T)) := fun lo hi s e h1 h2 h3 h4 h5 h6 h7 h8 he k1 k2 => by
  have hM := Stb.sym_parts ht hX hY hd hA hm hb h1 h2 h3 h4 h5 h6 h7 h8 hpp he k1 k2
  have eX := List.take_append_drop (s - a) X
  have eY := List.take_append_drop (e - m) Y
  have l1 : (X.take (s - a)).length = s - a := by simp; omega
  have l2 : (X.drop (s - a)).length = m - s := by simp; omega
  have l3 : (Y.take (e - m)).length = e - m := by simp; omega
  have l4 : (Y.drop (e - m)).length = b - e := by simp; omega
  have s1 : Stb.Srt le (X.take (s - a)) := hX.take _
  have s2 : Stb.Srt le (X.drop (s - a)) := hX.drop _
  have s3 : Stb.Srt le (Y.take (e - m)) := hY.take _
  have s4 : Stb.Srt le (Y.drop (e - m)) := hY.drop _
  generalize X.take (s - a) = X1 at *
  generalize X.drop (s - a) = X2 at *
  generalize Y.take (e - m) = Y1 at *
  generalize Y.drop (e - m) = Y2 at *
  have hd2 : d.toList = A ++ (X1 ++ (X2 ++ (Y1 ++ (Y2 ++ C)))) := by rw [hd, ← eX, ← eY]; simp
  have nil : ∀ l : List α, l.length = 0 → l = [] := fun l h => List.length_eq_zero_iff.1 h
  refine ⟨A ++ (X1 ++ (Y1 ++ (X2 ++ (Y2 ++ C)))), A ++ (List.merge X1 Y1 le ++ (X2 ++ (Y2 ++ C))), fun g1 g2 w1 hw => ?_, fun g => ?_, fun g1 g2 dk w1 hk hw hl => ?_, fun g => ?_, fun g1 g2 dk w1 hk hw hl => ?_, fun g => ?_⟩
  ·have := rotate_any Ly k aE zE enc g cb blk off cap s m e d0 d w0 w1 R hs hw (A ++ X1) X2 Y1 (Y2 ++ C) (by rw [hd2]; simp) (by simp; omega) (by omega) (by omega) (by omega) (by omega) hsz
   simpa using this
  ·rw [hd2]
   by_cases g1 : s < m
   ·rw [nil Y1 (by omega)]; simp
   ·rw [nil X2 (by omega)]; simp
  ·have := IH a s mid dk w1 A X1 Y1 (X2 ++ (Y2 ++ C)) hk hw hl hA (by omega) (by omega) (by omega) (by omega) s1 s3 (by omega)
   exact this
  ·by_cases g1 : m < e
   ·rw [nil X1 (by omega)]; simp
   ·rw [nil Y1 (by omega)]; simp
  ·have := IH mid e b dk w1 (A ++ List.merge X1 Y1 le) X2 Y2 C hk hw (by rw [hl]; simp) (by rw [List.length_append, List.length_merge]; omega) (by omega) (by omega) (by omega) (by omega) s2 s4 (by omega)
   rw [← hT, hM]
   simpa using this
  ·rw [← hT, hM]
   by_cases g1 : s < m
   ·rw [nil Y2 (by omega)]; simp
   ·rw [nil X2 (by omega)]; simp
 rw [hT]
 clear IH S hd hC hX hY hA hT
 have HM : Hid (mid = (a + b) / 2 ∧ nn = mid + m ∧ pp + 1 = nn ∧ a + X.length = m ∧ m + Y.length = b ∧ 2 ≤ X.length ∧ 2 ≤ Y.length) := ⟨hmid, hnn, hpp, hm, hb, hx2, hy2⟩
 have hz7 : a + 2 ≤ m := by omega
 have hz8 : m + 2 ≤ b := by omega
 by_cases hmm : mid < m
 ·have hmm' : (mid : Int) < (m : Int) := by omega
  obtain ⟨lo, hlo⟩ : ∃ lo : Nat, lo + b = nn := ⟨nn - b, by omega⟩
  have hz9 : (nn : Int) - (b : Int) = (lo : Int) := by omega
  have g1 : a ≤ lo := by omega
  have g2 : lo ≤ mid := by omega
  have G : Hid (mid ≤ m ∧ mid + m ≤ nn ∧ nn ≤ lo + b ∧ (lo = a ∨ nn = lo + b) ∧ (mid = m ∨ nn = mid + m)) := ⟨by omega, by omega, by omega, Or.inr (by omega), Or.inr (by omega)⟩
  clear hmid hnn hpp hm hb hx2 hy2 Ly hlo
  go_enter F, Tryz.ntmps191
  go_wp2
  go_loopw [20, 21] (fun s20 s21 wr => ∃ i j : Nat, s20 = .int .i64 i ∧ s21 = .int .i64 j ∧ lo ≤ i ∧ i ≤ j ∧ j ≤ mid ∧ Aside (SWK enc k w0 blk off d wr) ∧ Hid ((i = lo ∨ le d[i - 1]! d[pp - (i - 1)]! = true) ∧ (j = mid ∨ le d[j]! d[pp - j]! = false))) (fun s20 s21 _ => (intOf s21).toNat - (intOf s20).toNat)
  case atStart => exact ⟨lo, mid, rfl, rfl, Nat.le_refl _, g2, Nat.le_refl _, S0, (⟨Or.inl rfl, Or.inl rfl⟩ : (lo = lo ∨ le d[lo - 1]! d[pp - (lo - 1)]! = true) ∧ (mid = mid ∨ le d[mid]! d[pp - mid]! = false))⟩
  case round =>
   obtain ⟨i, j, rfl, rfl, hmi, hij, hjb, S1, HI⟩ := hrel
   by_cases hlt : i < j
   ·have hlt' : (i : Int) < (j : Int) := by omega
    obtain ⟨c, hcc0⟩ : ∃ c : Nat, c = (i + j) / 2 := ⟨_, rfl⟩
    have hh1 : i ≤ c := by omega
    have hh2 : c < j := by omega
    have hh4 : ((i : Int) + (j : Int)) / 2 = (c : Int) := by omega
    obtain ⟨q, hq⟩ : ∃ q : Nat, q = pp - c := ⟨_, rfl⟩
    have hq3 : (pp : Int) - (c : Int) = (q : Int) := by have := G.out; have := HM.out; omega
    have hq4 : q < d.size := by have := G.out; have := HM.out; omega
    have hcd : c < d.size := by have := G.out; omega
    clear hcc0
    cases hlv : le d[c]! d[q]!
    ·have HV : Hid (le d[c]! d[pp - c]! = false) := by rw [← hq]; exact hlv
     clear hq
     have eI : ((q : Int)).toNat = q := by omega
     have pI : (0 : Int) ≤ (q : Int) := by omega
     have bI : (q : Int) < (d.size : Int) := by omega
     have rI : IntKind.i64.wrap ((q : Int)) = (q : Int) := by rw [IntKind.wrap_i64]; omega
     have eJ : ((c : Int)).toNat = c := by omega
     have pJ : (0 : Int) ≤ (c : Int) := by omega
     have bJ : (c : Int) < (d.size : Int) := by omega
     have rJ : IntKind.i64.wrap ((c : Int)) = (c : Int) := by rw [IntKind.wrap_i64]; omega
     obtain ⟨xx, hxx⟩ : ∃ x, x = d[q]! := ⟨_, rfl⟩
     obtain ⟨yy, hyy⟩ : ∃ x, x = d[c]! := ⟨_, rfl⟩
     have lI := S1.out.ld R (by omega) P q (by omega)
     have lJ := S1.out.ld R (by omega) P c (by omega)
     rw [← hxx] at lI
     rw [← hyy] at lJ
     have hcc := S1.out.cmp HC.out (by omega) xx yy
     have hdv : decide (cf xx yy < 0) = true := by rw [hcf, hxx, hyy, hlv]; rfl
     obtain ⟨z, hz⟩ : ∃ z, cf xx yy = z := ⟨_, rfl⟩
     rw [hz] at hcc hdv
     have hvv : z < 0 := of_decide_eq_true hdv
     clear hxx hyy hz
     go_wp2_with fail
     go_quiet_grown (first | (go_at_fn g; refine Calls.grown_of (hcc _ _)))
     have S2 : Aside (SWK enc k w0 blk off d (grow (wr.drewN nq) osq)) := S1.out.grown nq osq
     clear lI lJ hcc S1
     generalize grow (wr.drewN nq) osq = w2 at S2 ⊢
     clear nq osq
     go_wp2
     clear hdv hvv
     go_roundw
     case rel => exact ⟨i, c, rfl, rfl, hmi, hh1, by omega, S2, (⟨HI.out.1, Or.inr HV.out⟩ : (i = lo ∨ le d[i - 1]! d[pp - (i - 1)]! = true) ∧ (c = mid ∨ le d[c]! d[pp - c]! = false))⟩
     case measure => simp [intOf]; omega
    ·have HV : Hid (le d[c]! d[pp - c]! = true) := by rw [← hq]; exact hlv
     clear hq
     have eI : ((q : Int)).toNat = q := by omega
     have pI : (0 : Int) ≤ (q : Int) := by omega
     have bI : (q : Int) < (d.size : Int) := by omega
     have rI : IntKind.i64.wrap ((q : Int)) = (q : Int) := by rw [IntKind.wrap_i64]; omega
     have eJ : ((c : Int)).toNat = c := by omega
     have pJ : (0 : Int) ≤ (c : Int) := by omega
     have bJ : (c : Int) < (d.size : Int) := by omega
     have rJ : IntKind.i64.wrap ((c : Int)) = (c : Int) := by rw [IntKind.wrap_i64]; omega
     obtain ⟨xx, hxx⟩ : ∃ x, x = d[q]! := ⟨_, rfl⟩
     obtain ⟨yy, hyy⟩ : ∃ x, x = d[c]! := ⟨_, rfl⟩
     have lI := S1.out.ld R (by omega) P q (by omega)
     have lJ := S1.out.ld R (by omega) P c (by omega)
     rw [← hxx] at lI
     rw [← hyy] at lJ
     have hcc := S1.out.cmp HC.out (by omega) xx yy
     have hdv : decide (cf xx yy < 0) = false := by rw [hcf, hxx, hyy, hlv]; rfl
     obtain ⟨z, hz⟩ : ∃ z, cf xx yy = z := ⟨_, rfl⟩
     rw [hz] at hcc hdv
     have hvv : ¬ z < 0 := of_decide_eq_false hdv
     clear hxx hyy hz
     go_wp2_with fail
     go_quiet_grown (first | (go_at_fn g; refine Calls.grown_of (hcc _ _)))
     have S2 : Aside (SWK enc k w0 blk off d (grow (wr.drewN nq) osq)) := S1.out.grown nq osq
     clear lI lJ hcc S1
     generalize grow (wr.drewN nq) osq = w2 at S2 ⊢
     clear nq osq
     go_wp2
     clear hdv hvv
     go_roundw
     case rel => exact ⟨c + 1, j, by go_num, rfl, by omega, by omega, hjb, S2, (⟨Or.inr (by rw [Nat.add_sub_cancel]; exact HV.out), HI.out.2⟩ : (c + 1 = lo ∨ le d[c + 1 - 1]! d[pp - (c + 1 - 1)]! = true) ∧ (j = mid ∨ le d[j]! d[pp - j]! = false))⟩
     case measure => simp [intOf]; omega
   ·obtain rfl : i = j := by omega
    have hlt' : ¬ (i : Int) < (i : Int) := by omega
    obtain ⟨e, he⟩ : ∃ e : Nat, e + i = nn := ⟨nn - i, by have := G.out; omega⟩
    have he2 : (nn : Int) - (i : Int) = (e : Int) := by omega
    obtain ⟨D1, D2, A1, N1, A2, N2, A3, N3⟩ := AF.out lo mid i e g1 hmi hjb G.out.1 G.out.2.1 G.out.2.2.1 G.out.2.2.2.1 G.out.2.2.2.2 he HI.out.1 HI.out.2
    have B1 : Aside _ := A1
    have B2 : Aside _ := A2
    have B3 : Aside _ := A3
    have M1 : Hid (¬ (i < m ∧ m < e) → d.toList = D1) := N1
    have M2 : Hid (¬ (a < i ∧ m < e) → D1 = D2) := N2
    have M3 : Hid (¬ (i < m ∧ e < b) → D2 = T) := N3
    have hp1 : i < m ↔ mid < e := by have := HM.out; omega
    have hp2 : m < e ↔ i < mid := by have := HM.out; omega
    have he3 : e ≤ 2000 := by omega
    have HP : Hid ((i < m ↔ mid < e) ∧ (m < e ↔ i < mid)) := ⟨hp1, hp2⟩
    clear A1 A2 A3 N1 N2 N3 AF HI he hp1 hp2
    by_cases p0 : i < m
    ·by_cases p1 : m < e
     ·by_cases p2 : a < i
      ·by_cases p3 : e < b
       ·have c1 : (i : Int) < (m : Int) := by have := HP.out; omega
        have c2 : (m : Int) < (e : Int) := by have := HP.out; omega
        have c3 : (i : Int) < (mid : Int) := by have := HP.out; omega
        have c4 : (a : Int) < (i : Int) := by have := HP.out; omega
        have c5 : (mid : Int) < (e : Int) := by have := HP.out; omega
        have c6 : (e : Int) < (b : Int) := by have := HP.out; omega
        go_wp2_with (first
         | (go_at_fn 191; refine (B3.out (by omega) (by omega) _ _ (Hid.out Z2) (Aside.out S3) (Hid.out L2)).mono ?_; rintro e1 wc ⟨rfl, dc, q1, q2, q3⟩; have L3 : Hid (dc.toList = T) := q1; have Z3 : Hid (dc.size = d.size) := q2; have S4 : Aside (SWK enc k w0 blk off dc wc) := q3; clear q1 q2 q3)
         | (go_at_fn 191; refine (B2.out (by omega) (by omega) _ _ (Hid.out Z1) (Aside.out S2) (Hid.out L1)).mono ?_; rintro e1 wb ⟨rfl, db, q1, q2, q3⟩; have L2 : Hid (db.toList = D2) := q1; have Z2 : Hid (db.size = d.size) := q2; have S3 : Aside (SWK enc k w0 blk off db wb) := q3; clear q1 q2 q3)
         | (go_at_fn 210; refine (B1.out (by omega) (by omega) _ (Aside.out S1)).mono ?_; rintro e1 wa ⟨rfl, da, q1, q2, q3⟩; have L1 : Hid (da.toList = D1) := q1; have Z1 : Hid (da.size = d.size) := q2; have S2 : Aside (SWK enc k w0 blk off da wa) := q3; clear q1 q2 q3))
        all_goals go_end0
        all_goals exact ⟨rfl, dc, (Hid.out L3), (Hid.out Z3), Aside.out S4⟩
       ·have c1 : (i : Int) < (m : Int) := by have := HP.out; omega
        have c2 : (m : Int) < (e : Int) := by have := HP.out; omega
        have c3 : (i : Int) < (mid : Int) := by have := HP.out; omega
        have c4 : (a : Int) < (i : Int) := by have := HP.out; omega
        have c5 : (mid : Int) < (e : Int) := by have := HP.out; omega
        have c6 : ¬ (e : Int) < (b : Int) := by have := HP.out; omega
        have E3 : Hid (D2 = T) := M3.out (by omega)
        go_wp2_with (first
         | (go_at_fn 191; refine (B2.out (by omega) (by omega) _ _ (Hid.out Z1) (Aside.out S2) (Hid.out L1)).mono ?_; rintro e1 wb ⟨rfl, db, q1, q2, q3⟩; have L2 : Hid (db.toList = D2) := q1; have Z2 : Hid (db.size = d.size) := q2; have S3 : Aside (SWK enc k w0 blk off db wb) := q3; clear q1 q2 q3)
         | (go_at_fn 210; refine (B1.out (by omega) (by omega) _ (Aside.out S1)).mono ?_; rintro e1 wa ⟨rfl, da, q1, q2, q3⟩; have L1 : Hid (da.toList = D1) := q1; have Z1 : Hid (da.size = d.size) := q2; have S2 : Aside (SWK enc k w0 blk off da wa) := q3; clear q1 q2 q3))
        all_goals go_end0
        all_goals exact ⟨rfl, db, ((Hid.out L2).trans (Hid.out E3)), (Hid.out Z2), Aside.out S3⟩
      ·by_cases p3 : e < b
       ·have c1 : (i : Int) < (m : Int) := by have := HP.out; omega
        have c2 : (m : Int) < (e : Int) := by have := HP.out; omega
        have c3 : (i : Int) < (mid : Int) := by have := HP.out; omega
        have c4 : ¬ (a : Int) < (i : Int) := by have := HP.out; omega
        have c5 : (mid : Int) < (e : Int) := by have := HP.out; omega
        have c6 : (e : Int) < (b : Int) := by have := HP.out; omega
        have E2 : Hid (D1 = D2) := M2.out (by omega)
        go_wp2_with (first
         | (go_at_fn 191; refine (B3.out (by omega) (by omega) _ _ (Hid.out Z1) (Aside.out S2) ((Hid.out L1).trans (Hid.out E2))).mono ?_; rintro e1 wc ⟨rfl, dc, q1, q2, q3⟩; have L3 : Hid (dc.toList = T) := q1; have Z3 : Hid (dc.size = d.size) := q2; have S4 : Aside (SWK enc k w0 blk off dc wc) := q3; clear q1 q2 q3)
         | (go_at_fn 210; refine (B1.out (by omega) (by omega) _ (Aside.out S1)).mono ?_; rintro e1 wa ⟨rfl, da, q1, q2, q3⟩; have L1 : Hid (da.toList = D1) := q1; have Z1 : Hid (da.size = d.size) := q2; have S2 : Aside (SWK enc k w0 blk off da wa) := q3; clear q1 q2 q3))
        all_goals go_end0
        all_goals exact ⟨rfl, dc, (Hid.out L3), (Hid.out Z3), Aside.out S4⟩
       ·have c1 : (i : Int) < (m : Int) := by have := HP.out; omega
        have c2 : (m : Int) < (e : Int) := by have := HP.out; omega
        have c3 : (i : Int) < (mid : Int) := by have := HP.out; omega
        have c4 : ¬ (a : Int) < (i : Int) := by have := HP.out; omega
        have c5 : (mid : Int) < (e : Int) := by have := HP.out; omega
        have c6 : ¬ (e : Int) < (b : Int) := by have := HP.out; omega
        have E2 : Hid (D1 = D2) := M2.out (by omega)
        have E3 : Hid (D2 = T) := M3.out (by omega)
        go_wp2_with (first
         | (go_at_fn 210; refine (B1.out (by omega) (by omega) _ (Aside.out S1)).mono ?_; rintro e1 wa ⟨rfl, da, q1, q2, q3⟩; have L1 : Hid (da.toList = D1) := q1; have Z1 : Hid (da.size = d.size) := q2; have S2 : Aside (SWK enc k w0 blk off da wa) := q3; clear q1 q2 q3))
        all_goals go_end0
        all_goals exact ⟨rfl, da, (((Hid.out L1).trans (Hid.out E2)).trans (Hid.out E3)), (Hid.out Z1), Aside.out S2⟩
     ·by_cases p2 : a < i
      ·by_cases p3 : e < b
       ·have c1 : (i : Int) < (m : Int) := by have := HP.out; omega
        have c2 : ¬ (m : Int) < (e : Int) := by have := HP.out; omega
        have c3 : ¬ (i : Int) < (mid : Int) := by have := HP.out; omega
        have c4 : (a : Int) < (i : Int) := by have := HP.out; omega
        have c5 : (mid : Int) < (e : Int) := by have := HP.out; omega
        have c6 : (e : Int) < (b : Int) := by have := HP.out; omega
        have L1 : Hid (d.toList = D1) := M1.out (by omega)
        have E2 : Hid (D1 = D2) := M2.out (by omega)
        go_wp2_with (first
         | (go_at_fn 191; refine (B3.out (by omega) (by omega) _ _ (rfl : d.size = d.size) (Aside.out S1) ((Hid.out L1).trans (Hid.out E2))).mono ?_; rintro e1 wc ⟨rfl, dc, q1, q2, q3⟩; have L3 : Hid (dc.toList = T) := q1; have Z3 : Hid (dc.size = d.size) := q2; have S4 : Aside (SWK enc k w0 blk off dc wc) := q3; clear q1 q2 q3))
        all_goals go_end0
        all_goals exact ⟨rfl, dc, (Hid.out L3), (Hid.out Z3), Aside.out S4⟩
       ·have c1 : (i : Int) < (m : Int) := by have := HP.out; omega
        have c2 : ¬ (m : Int) < (e : Int) := by have := HP.out; omega
        have c3 : ¬ (i : Int) < (mid : Int) := by have := HP.out; omega
        have c4 : (a : Int) < (i : Int) := by have := HP.out; omega
        have c5 : (mid : Int) < (e : Int) := by have := HP.out; omega
        have c6 : ¬ (e : Int) < (b : Int) := by have := HP.out; omega
        have L1 : Hid (d.toList = D1) := M1.out (by omega)
        have E2 : Hid (D1 = D2) := M2.out (by omega)
        have E3 : Hid (D2 = T) := M3.out (by omega)
        go_wp2
        all_goals go_end0
        all_goals exact ⟨rfl, d, (((Hid.out L1).trans (Hid.out E2)).trans (Hid.out E3)), (rfl : d.size = d.size), Aside.out S1⟩
      ·by_cases p3 : e < b
       ·have c1 : (i : Int) < (m : Int) := by have := HP.out; omega
        have c2 : ¬ (m : Int) < (e : Int) := by have := HP.out; omega
        have c3 : ¬ (i : Int) < (mid : Int) := by have := HP.out; omega
        have c4 : ¬ (a : Int) < (i : Int) := by have := HP.out; omega
        have c5 : (mid : Int) < (e : Int) := by have := HP.out; omega
        have c6 : (e : Int) < (b : Int) := by have := HP.out; omega
        have L1 : Hid (d.toList = D1) := M1.out (by omega)
        have E2 : Hid (D1 = D2) := M2.out (by omega)
        go_wp2_with (first
         | (go_at_fn 191; refine (B3.out (by omega) (by omega) _ _ (rfl : d.size = d.size) (Aside.out S1) ((Hid.out L1).trans (Hid.out E2))).mono ?_; rintro e1 wc ⟨rfl, dc, q1, q2, q3⟩; have L3 : Hid (dc.toList = T) := q1; have Z3 : Hid (dc.size = d.size) := q2; have S4 : Aside (SWK enc k w0 blk off dc wc) := q3; clear q1 q2 q3))
        all_goals go_end0
        all_goals exact ⟨rfl, dc, (Hid.out L3), (Hid.out Z3), Aside.out S4⟩
       ·have c1 : (i : Int) < (m : Int) := by have := HP.out; omega
        have c2 : ¬ (m : Int) < (e : Int) := by have := HP.out; omega
        have c3 : ¬ (i : Int) < (mid : Int) := by have := HP.out; omega
        have c4 : ¬ (a : Int) < (i : Int) := by have := HP.out; omega
        have c5 : (mid : Int) < (e : Int) := by have := HP.out; omega
        have c6 : ¬ (e : Int) < (b : Int) := by have := HP.out; omega
        have L1 : Hid (d.toList = D1) := M1.out (by omega)
        have E2 : Hid (D1 = D2) := M2.out (by omega)
        have E3 : Hid (D2 = T) := M3.out (by omega)
        go_wp2
        all_goals go_end0
        all_goals exact ⟨rfl, d, (((Hid.out L1).trans (Hid.out E2)).trans (Hid.out E3)), (rfl : d.size = d.size), Aside.out S1⟩
    ·by_cases p1 : m < e
     ·by_cases p2 : a < i
      ·by_cases p3 : e < b
       ·have c1 : ¬ (i : Int) < (m : Int) := by have := HP.out; omega
        have c2 : (m : Int) < (e : Int) := by have := HP.out; omega
        have c3 : (i : Int) < (mid : Int) := by have := HP.out; omega
        have c4 : (a : Int) < (i : Int) := by have := HP.out; omega
        have c5 : ¬ (mid : Int) < (e : Int) := by have := HP.out; omega
        have c6 : (e : Int) < (b : Int) := by have := HP.out; omega
        have L1 : Hid (d.toList = D1) := M1.out (by omega)
        have E3 : Hid (D2 = T) := M3.out (by omega)
        go_wp2_with (first
         | (go_at_fn 191; refine (B2.out (by omega) (by omega) _ _ (rfl : d.size = d.size) (Aside.out S1) (Hid.out L1)).mono ?_; rintro e1 wb ⟨rfl, db, q1, q2, q3⟩; have L2 : Hid (db.toList = D2) := q1; have Z2 : Hid (db.size = d.size) := q2; have S3 : Aside (SWK enc k w0 blk off db wb) := q3; clear q1 q2 q3))
        all_goals go_end0
        all_goals exact ⟨rfl, db, ((Hid.out L2).trans (Hid.out E3)), (Hid.out Z2), Aside.out S3⟩
       ·have c1 : ¬ (i : Int) < (m : Int) := by have := HP.out; omega
        have c2 : (m : Int) < (e : Int) := by have := HP.out; omega
        have c3 : (i : Int) < (mid : Int) := by have := HP.out; omega
        have c4 : (a : Int) < (i : Int) := by have := HP.out; omega
        have c5 : ¬ (mid : Int) < (e : Int) := by have := HP.out; omega
        have c6 : ¬ (e : Int) < (b : Int) := by have := HP.out; omega
        have L1 : Hid (d.toList = D1) := M1.out (by omega)
        have E3 : Hid (D2 = T) := M3.out (by omega)
        go_wp2_with (first
         | (go_at_fn 191; refine (B2.out (by omega) (by omega) _ _ (rfl : d.size = d.size) (Aside.out S1) (Hid.out L1)).mono ?_; rintro e1 wb ⟨rfl, db, q1, q2, q3⟩; have L2 : Hid (db.toList = D2) := q1; have Z2 : Hid (db.size = d.size) := q2; have S3 : Aside (SWK enc k w0 blk off db wb) := q3; clear q1 q2 q3))
        all_goals go_end0
        all_goals exact ⟨rfl, db, ((Hid.out L2).trans (Hid.out E3)), (Hid.out Z2), Aside.out S3⟩
      ·by_cases p3 : e < b
       ·have c1 : ¬ (i : Int) < (m : Int) := by have := HP.out; omega
        have c2 : (m : Int) < (e : Int) := by have := HP.out; omega
        have c3 : (i : Int) < (mid : Int) := by have := HP.out; omega
        have c4 : ¬ (a : Int) < (i : Int) := by have := HP.out; omega
        have c5 : ¬ (mid : Int) < (e : Int) := by have := HP.out; omega
        have c6 : (e : Int) < (b : Int) := by have := HP.out; omega
        have L1 : Hid (d.toList = D1) := M1.out (by omega)
        have E2 : Hid (D1 = D2) := M2.out (by omega)
        have E3 : Hid (D2 = T) := M3.out (by omega)
        go_wp2
        all_goals go_end0
        all_goals exact ⟨rfl, d, (((Hid.out L1).trans (Hid.out E2)).trans (Hid.out E3)), (rfl : d.size = d.size), Aside.out S1⟩
       ·have c1 : ¬ (i : Int) < (m : Int) := by have := HP.out; omega
        have c2 : (m : Int) < (e : Int) := by have := HP.out; omega
        have c3 : (i : Int) < (mid : Int) := by have := HP.out; omega
        have c4 : ¬ (a : Int) < (i : Int) := by have := HP.out; omega
        have c5 : ¬ (mid : Int) < (e : Int) := by have := HP.out; omega
        have c6 : ¬ (e : Int) < (b : Int) := by have := HP.out; omega
        have L1 : Hid (d.toList = D1) := M1.out (by omega)
        have E2 : Hid (D1 = D2) := M2.out (by omega)
        have E3 : Hid (D2 = T) := M3.out (by omega)
        go_wp2
        all_goals go_end0
        all_goals exact ⟨rfl, d, (((Hid.out L1).trans (Hid.out E2)).trans (Hid.out E3)), (rfl : d.size = d.size), Aside.out S1⟩
     ·by_cases p2 : a < i
      ·by_cases p3 : e < b
       ·have c1 : ¬ (i : Int) < (m : Int) := by have := HP.out; omega
        have c2 : ¬ (m : Int) < (e : Int) := by have := HP.out; omega
        have c3 : ¬ (i : Int) < (mid : Int) := by have := HP.out; omega
        have c4 : (a : Int) < (i : Int) := by have := HP.out; omega
        have c5 : ¬ (mid : Int) < (e : Int) := by have := HP.out; omega
        have c6 : (e : Int) < (b : Int) := by have := HP.out; omega
        have L1 : Hid (d.toList = D1) := M1.out (by omega)
        have E2 : Hid (D1 = D2) := M2.out (by omega)
        have E3 : Hid (D2 = T) := M3.out (by omega)
        go_wp2
        all_goals go_end0
        all_goals exact ⟨rfl, d, (((Hid.out L1).trans (Hid.out E2)).trans (Hid.out E3)), (rfl : d.size = d.size), Aside.out S1⟩
       ·have c1 : ¬ (i : Int) < (m : Int) := by have := HP.out; omega
        have c2 : ¬ (m : Int) < (e : Int) := by have := HP.out; omega
        have c3 : ¬ (i : Int) < (mid : Int) := by have := HP.out; omega
        have c4 : (a : Int) < (i : Int) := by have := HP.out; omega
        have c5 : ¬ (mid : Int) < (e : Int) := by have := HP.out; omega
        have c6 : ¬ (e : Int) < (b : Int) := by have := HP.out; omega
        have L1 : Hid (d.toList = D1) := M1.out (by omega)
        have E2 : Hid (D1 = D2) := M2.out (by omega)
        have E3 : Hid (D2 = T) := M3.out (by omega)
        go_wp2
        all_goals go_end0
        all_goals exact ⟨rfl, d, (((Hid.out L1).trans (Hid.out E2)).trans (Hid.out E3)), (rfl : d.size = d.size), Aside.out S1⟩
      ·by_cases p3 : e < b
       ·have c1 : ¬ (i : Int) < (m : Int) := by have := HP.out; omega
        have c2 : ¬ (m : Int) < (e : Int) := by have := HP.out; omega
        have c3 : ¬ (i : Int) < (mid : Int) := by have := HP.out; omega
        have c4 : ¬ (a : Int) < (i : Int) := by have := HP.out; omega
        have c5 : ¬ (mid : Int) < (e : Int) := by have := HP.out; omega
        have c6 : (e : Int) < (b : Int) := by have := HP.out; omega
        have L1 : Hid (d.toList = D1) := M1.out (by omega)
        have E2 : Hid (D1 = D2) := M2.out (by omega)
        have E3 : Hid (D2 = T) := M3.out (by omega)
        go_wp2
        all_goals go_end0
        all_goals exact ⟨rfl, d, (((Hid.out L1).trans (Hid.out E2)).trans (Hid.out E3)), (rfl : d.size = d.size), Aside.out S1⟩
       ·have c1 : ¬ (i : Int) < (m : Int) := by have := HP.out; omega
        have c2 : ¬ (m : Int) < (e : Int) := by have := HP.out; omega
        have c3 : ¬ (i : Int) < (mid : Int) := by have := HP.out; omega
        have c4 : ¬ (a : Int) < (i : Int) := by have := HP.out; omega
        have c5 : ¬ (mid : Int) < (e : Int) := by have := HP.out; omega
        have c6 : ¬ (e : Int) < (b : Int) := by have := HP.out; omega
        have L1 : Hid (d.toList = D1) := M1.out (by omega)
        have E2 : Hid (D1 = D2) := M2.out (by omega)
        have E3 : Hid (D2 = T) := M3.out (by omega)
        go_wp2
        all_goals go_end0
        all_goals exact ⟨rfl, d, (((Hid.out L1).trans (Hid.out E2)).trans (Hid.out E3)), (rfl : d.size = d.size), Aside.out S1⟩
 ·have hmm' : ¬ (mid : Int) < (m : Int) := by omega
  have g1 : a ≤ a := Nat.le_refl _
  have g2 : a ≤ m := by omega
  have G : Hid (m ≤ m ∧ m + m ≤ nn ∧ nn ≤ a + b ∧ (a = a ∨ nn = a + b) ∧ (m = m ∨ nn = m + m)) := ⟨Nat.le_refl _, by omega, by omega, Or.inl rfl, Or.inl rfl⟩
  clear hmid hnn hpp hm hb hx2 hy2 Ly
  go_enter F, Tryz.ntmps191
  go_wp2
  go_loopw [20, 21] (fun s20 s21 wr => ∃ i j : Nat, s20 = .int .i64 i ∧ s21 = .int .i64 j ∧ a ≤ i ∧ i ≤ j ∧ j ≤ m ∧ Aside (SWK enc k w0 blk off d wr) ∧ Hid ((i = a ∨ le d[i - 1]! d[pp - (i - 1)]! = true) ∧ (j = m ∨ le d[j]! d[pp - j]! = false))) (fun s20 s21 _ => (intOf s21).toNat - (intOf s20).toNat)
  case atStart => exact ⟨a, m, rfl, rfl, Nat.le_refl _, g2, Nat.le_refl _, S0, (⟨Or.inl rfl, Or.inl rfl⟩ : (a = a ∨ le d[a - 1]! d[pp - (a - 1)]! = true) ∧ (m = m ∨ le d[m]! d[pp - m]! = false))⟩
  case round =>
   obtain ⟨i, j, rfl, rfl, hmi, hij, hjb, S1, HI⟩ := hrel
   by_cases hlt : i < j
   ·have hlt' : (i : Int) < (j : Int) := by omega
    obtain ⟨c, hcc0⟩ : ∃ c : Nat, c = (i + j) / 2 := ⟨_, rfl⟩
    have hh1 : i ≤ c := by omega
    have hh2 : c < j := by omega
    have hh4 : ((i : Int) + (j : Int)) / 2 = (c : Int) := by omega
    obtain ⟨q, hq⟩ : ∃ q : Nat, q = pp - c := ⟨_, rfl⟩
    have hq3 : (pp : Int) - (c : Int) = (q : Int) := by have := G.out; have := HM.out; omega
    have hq4 : q < d.size := by have := G.out; have := HM.out; omega
    have hcd : c < d.size := by have := G.out; omega
    clear hcc0
    cases hlv : le d[c]! d[q]!
    ·have HV : Hid (le d[c]! d[pp - c]! = false) := by rw [← hq]; exact hlv
     clear hq
     have eI : ((q : Int)).toNat = q := by omega
     have pI : (0 : Int) ≤ (q : Int) := by omega
     have bI : (q : Int) < (d.size : Int) := by omega
     have rI : IntKind.i64.wrap ((q : Int)) = (q : Int) := by rw [IntKind.wrap_i64]; omega
     have eJ : ((c : Int)).toNat = c := by omega
     have pJ : (0 : Int) ≤ (c : Int) := by omega
     have bJ : (c : Int) < (d.size : Int) := by omega
     have rJ : IntKind.i64.wrap ((c : Int)) = (c : Int) := by rw [IntKind.wrap_i64]; omega
     obtain ⟨xx, hxx⟩ : ∃ x, x = d[q]! := ⟨_, rfl⟩
     obtain ⟨yy, hyy⟩ : ∃ x, x = d[c]! := ⟨_, rfl⟩
     have lI := S1.out.ld R (by omega) P q (by omega)
     have lJ := S1.out.ld R (by omega) P c (by omega)
     rw [← hxx] at lI
     rw [← hyy] at lJ
     have hcc := S1.out.cmp HC.out (by omega) xx yy
     have hdv : decide (cf xx yy < 0) = true := by rw [hcf, hxx, hyy, hlv]; rfl
     obtain ⟨z, hz⟩ : ∃ z, cf xx yy = z := ⟨_, rfl⟩
     rw [hz] at hcc hdv
     have hvv : z < 0 := of_decide_eq_true hdv
     clear hxx hyy hz
     go_wp2_with fail
     go_quiet_grown (first | (go_at_fn g; refine Calls.grown_of (hcc _ _)))
     have S2 : Aside (SWK enc k w0 blk off d (grow (wr.drewN nq) osq)) := S1.out.grown nq osq
     clear lI lJ hcc S1
     generalize grow (wr.drewN nq) osq = w2 at S2 ⊢
     clear nq osq
     go_wp2
     clear hdv hvv
     go_roundw
     case rel => exact ⟨i, c, rfl, rfl, hmi, hh1, by omega, S2, (⟨HI.out.1, Or.inr HV.out⟩ : (i = a ∨ le d[i - 1]! d[pp - (i - 1)]! = true) ∧ (c = m ∨ le d[c]! d[pp - c]! = false))⟩
     case measure => simp [intOf]; omega
    ·have HV : Hid (le d[c]! d[pp - c]! = true) := by rw [← hq]; exact hlv
     clear hq
     have eI : ((q : Int)).toNat = q := by omega
     have pI : (0 : Int) ≤ (q : Int) := by omega
     have bI : (q : Int) < (d.size : Int) := by omega
     have rI : IntKind.i64.wrap ((q : Int)) = (q : Int) := by rw [IntKind.wrap_i64]; omega
     have eJ : ((c : Int)).toNat = c := by omega
     have pJ : (0 : Int) ≤ (c : Int) := by omega
     have bJ : (c : Int) < (d.size : Int) := by omega
     have rJ : IntKind.i64.wrap ((c : Int)) = (c : Int) := by rw [IntKind.wrap_i64]; omega
     obtain ⟨xx, hxx⟩ : ∃ x, x = d[q]! := ⟨_, rfl⟩
     obtain ⟨yy, hyy⟩ : ∃ x, x = d[c]! := ⟨_, rfl⟩
     have lI := S1.out.ld R (by omega) P q (by omega)
     have lJ := S1.out.ld R (by omega) P c (by omega)
     rw [← hxx] at lI
     rw [← hyy] at lJ
     have hcc := S1.out.cmp HC.out (by omega) xx yy
     have hdv : decide (cf xx yy < 0) = false := by rw [hcf, hxx, hyy, hlv]; rfl
     obtain ⟨z, hz⟩ : ∃ z, cf xx yy = z := ⟨_, rfl⟩
     rw [hz] at hcc hdv
     have hvv : ¬ z < 0 := of_decide_eq_false hdv
     clear hxx hyy hz
     go_wp2_with fail
     go_quiet_grown (first | (go_at_fn g; refine Calls.grown_of (hcc _ _)))
     have S2 : Aside (SWK enc k w0 blk off d (grow (wr.drewN nq) osq)) := S1.out.grown nq osq
     clear lI lJ hcc S1
     generalize grow (wr.drewN nq) osq = w2 at S2 ⊢
     clear nq osq
     go_wp2
     clear hdv hvv
     go_roundw
     case rel => exact ⟨c + 1, j, by go_num, rfl, by omega, by omega, hjb, S2, (⟨Or.inr (by rw [Nat.add_sub_cancel]; exact HV.out), HI.out.2⟩ : (c + 1 = a ∨ le d[c + 1 - 1]! d[pp - (c + 1 - 1)]! = true) ∧ (j = m ∨ le d[j]! d[pp - j]! = false))⟩
     case measure => simp [intOf]; omega
   ·obtain rfl : i = j := by omega
    have hlt' : ¬ (i : Int) < (i : Int) := by omega
    obtain ⟨e, he⟩ : ∃ e : Nat, e + i = nn := ⟨nn - i, by have := G.out; omega⟩
    have he2 : (nn : Int) - (i : Int) = (e : Int) := by omega
    obtain ⟨D1, D2, A1, N1, A2, N2, A3, N3⟩ := AF.out a m i e g1 hmi hjb G.out.1 G.out.2.1 G.out.2.2.1 (Or.inl rfl) (Or.inl rfl) he HI.out.1 HI.out.2
    have B1 : Aside _ := A1
    have B2 : Aside _ := A2
    have B3 : Aside _ := A3
    have M1 : Hid (¬ (i < m ∧ m < e) → d.toList = D1) := N1
    have M2 : Hid (¬ (a < i ∧ m < e) → D1 = D2) := N2
    have M3 : Hid (¬ (i < m ∧ e < b) → D2 = T) := N3
    have hp1 : i < m ↔ mid < e := by have := HM.out; omega
    have hp2 : m < e ↔ i < mid := by have := HM.out; omega
    have he3 : e ≤ 2000 := by omega
    have HP : Hid ((i < m ↔ mid < e) ∧ (m < e ↔ i < mid)) := ⟨hp1, hp2⟩
    clear A1 A2 A3 N1 N2 N3 AF HI he hp1 hp2
    by_cases p0 : i < m
    ·by_cases p1 : m < e
     ·by_cases p2 : a < i
      ·by_cases p3 : e < b
       ·have c1 : (i : Int) < (m : Int) := by have := HP.out; omega
        have c2 : (m : Int) < (e : Int) := by have := HP.out; omega
        have c3 : (i : Int) < (mid : Int) := by have := HP.out; omega
        have c4 : (a : Int) < (i : Int) := by have := HP.out; omega
        have c5 : (mid : Int) < (e : Int) := by have := HP.out; omega
        have c6 : (e : Int) < (b : Int) := by have := HP.out; omega
        go_wp2_with (first
         | (go_at_fn 191; refine (B3.out (by omega) (by omega) _ _ (Hid.out Z2) (Aside.out S3) (Hid.out L2)).mono ?_; rintro e1 wc ⟨rfl, dc, q1, q2, q3⟩; have L3 : Hid (dc.toList = T) := q1; have Z3 : Hid (dc.size = d.size) := q2; have S4 : Aside (SWK enc k w0 blk off dc wc) := q3; clear q1 q2 q3)
         | (go_at_fn 191; refine (B2.out (by omega) (by omega) _ _ (Hid.out Z1) (Aside.out S2) (Hid.out L1)).mono ?_; rintro e1 wb ⟨rfl, db, q1, q2, q3⟩; have L2 : Hid (db.toList = D2) := q1; have Z2 : Hid (db.size = d.size) := q2; have S3 : Aside (SWK enc k w0 blk off db wb) := q3; clear q1 q2 q3)
         | (go_at_fn 210; refine (B1.out (by omega) (by omega) _ (Aside.out S1)).mono ?_; rintro e1 wa ⟨rfl, da, q1, q2, q3⟩; have L1 : Hid (da.toList = D1) := q1; have Z1 : Hid (da.size = d.size) := q2; have S2 : Aside (SWK enc k w0 blk off da wa) := q3; clear q1 q2 q3))
        all_goals go_end0
        all_goals exact ⟨rfl, dc, (Hid.out L3), (Hid.out Z3), Aside.out S4⟩
       ·have c1 : (i : Int) < (m : Int) := by have := HP.out; omega
        have c2 : (m : Int) < (e : Int) := by have := HP.out; omega
        have c3 : (i : Int) < (mid : Int) := by have := HP.out; omega
        have c4 : (a : Int) < (i : Int) := by have := HP.out; omega
        have c5 : (mid : Int) < (e : Int) := by have := HP.out; omega
        have c6 : ¬ (e : Int) < (b : Int) := by have := HP.out; omega
        have E3 : Hid (D2 = T) := M3.out (by omega)
        go_wp2_with (first
         | (go_at_fn 191; refine (B2.out (by omega) (by omega) _ _ (Hid.out Z1) (Aside.out S2) (Hid.out L1)).mono ?_; rintro e1 wb ⟨rfl, db, q1, q2, q3⟩; have L2 : Hid (db.toList = D2) := q1; have Z2 : Hid (db.size = d.size) := q2; have S3 : Aside (SWK enc k w0 blk off db wb) := q3; clear q1 q2 q3)
         | (go_at_fn 210; refine (B1.out (by omega) (by omega) _ (Aside.out S1)).mono ?_; rintro e1 wa ⟨rfl, da, q1, q2, q3⟩; have L1 : Hid (da.toList = D1) := q1; have Z1 : Hid (da.size = d.size) := q2; have S2 : Aside (SWK enc k w0 blk off da wa) := q3; clear q1 q2 q3))
        all_goals go_end0
        all_goals exact ⟨rfl, db, ((Hid.out L2).trans (Hid.out E3)), (Hid.out Z2), Aside.out S3⟩
      ·by_cases p3 : e < b
       ·have c1 : (i : Int) < (m : Int) := by have := HP.out; omega
        have c2 : (m : Int) < (e : Int) := by have := HP.out; omega
        have c3 : (i : Int) < (mid : Int) := by have := HP.out; omega
        have c4 : ¬ (a : Int) < (i : Int) := by have := HP.out; omega
        have c5 : (mid : Int) < (e : Int) := by have := HP.out; omega
        have c6 : (e : Int) < (b : Int) := by have := HP.out; omega
        have E2 : Hid (D1 = D2) := M2.out (by omega)
        go_wp2_with (first
         | (go_at_fn 191; refine (B3.out (by omega) (by omega) _ _ (Hid.out Z1) (Aside.out S2) ((Hid.out L1).trans (Hid.out E2))).mono ?_; rintro e1 wc ⟨rfl, dc, q1, q2, q3⟩; have L3 : Hid (dc.toList = T) := q1; have Z3 : Hid (dc.size = d.size) := q2; have S4 : Aside (SWK enc k w0 blk off dc wc) := q3; clear q1 q2 q3)
         | (go_at_fn 210; refine (B1.out (by omega) (by omega) _ (Aside.out S1)).mono ?_; rintro e1 wa ⟨rfl, da, q1, q2, q3⟩; have L1 : Hid (da.toList = D1) := q1; have Z1 : Hid (da.size = d.size) := q2; have S2 : Aside (SWK enc k w0 blk off da wa) := q3; clear q1 q2 q3))
        all_goals go_end0
        all_goals exact ⟨rfl, dc, (Hid.out L3), (Hid.out Z3), Aside.out S4⟩
       ·have c1 : (i : Int) < (m : Int) := by have := HP.out; omega
        have c2 : (m : Int) < (e : Int) := by have := HP.out; omega
        have c3 : (i : Int) < (mid : Int) := by have := HP.out; omega
        have c4 : ¬ (a : Int) < (i : Int) := by have := HP.out; omega
        have c5 : (mid : Int) < (e : Int) := by have := HP.out; omega
        have c6 : ¬ (e : Int) < (b : Int) := by have := HP.out; omega
        have E2 : Hid (D1 = D2) := M2.out (by omega)
        have E3 : Hid (D2 = T) := M3.out (by omega)
        go_wp2_with (first
         | (go_at_fn 210; refine (B1.out (by omega) (by omega) _ (Aside.out S1)).mono ?_; rintro e1 wa ⟨rfl, da, q1, q2, q3⟩; have L1 : Hid (da.toList = D1) := q1; have Z1 : Hid (da.size = d.size) := q2; have S2 : Aside (SWK enc k w0 blk off da wa) := q3; clear q1 q2 q3))
        all_goals go_end0
        all_goals exact ⟨rfl, da, (((Hid.out L1).trans (Hid.out E2)).trans (Hid.out E3)), (Hid.out Z1), Aside.out S2⟩
     ·by_cases p2 : a < i
      ·by_cases p3 : e < b
       ·have c1 : (i : Int) < (m : Int) := by have := HP.out; omega
        have c2 : ¬ (m : Int) < (e : Int) := by have := HP.out; omega
        have c3 : ¬ (i : Int) < (mid : Int) := by have := HP.out; omega
        have c4 : (a : Int) < (i : Int) := by have := HP.out; omega
        have c5 : (mid : Int) < (e : Int) := by have := HP.out; omega
        have c6 : (e : Int) < (b : Int) := by have := HP.out; omega
        have L1 : Hid (d.toList = D1) := M1.out (by omega)
        have E2 : Hid (D1 = D2) := M2.out (by omega)
        go_wp2_with (first
         | (go_at_fn 191; refine (B3.out (by omega) (by omega) _ _ (rfl : d.size = d.size) (Aside.out S1) ((Hid.out L1).trans (Hid.out E2))).mono ?_; rintro e1 wc ⟨rfl, dc, q1, q2, q3⟩; have L3 : Hid (dc.toList = T) := q1; have Z3 : Hid (dc.size = d.size) := q2; have S4 : Aside (SWK enc k w0 blk off dc wc) := q3; clear q1 q2 q3))
        all_goals go_end0
        all_goals exact ⟨rfl, dc, (Hid.out L3), (Hid.out Z3), Aside.out S4⟩
       ·have c1 : (i : Int) < (m : Int) := by have := HP.out; omega
        have c2 : ¬ (m : Int) < (e : Int) := by have := HP.out; omega
        have c3 : ¬ (i : Int) < (mid : Int) := by have := HP.out; omega
        have c4 : (a : Int) < (i : Int) := by have := HP.out; omega
        have c5 : (mid : Int) < (e : Int) := by have := HP.out; omega
        have c6 : ¬ (e : Int) < (b : Int) := by have := HP.out; omega
        have L1 : Hid (d.toList = D1) := M1.out (by omega)
        have E2 : Hid (D1 = D2) := M2.out (by omega)
        have E3 : Hid (D2 = T) := M3.out (by omega)
        go_wp2
        all_goals go_end0
        all_goals exact ⟨rfl, d, (((Hid.out L1).trans (Hid.out E2)).trans (Hid.out E3)), (rfl : d.size = d.size), Aside.out S1⟩
      ·by_cases p3 : e < b
       ·have c1 : (i : Int) < (m : Int) := by have := HP.out; omega
        have c2 : ¬ (m : Int) < (e : Int) := by have := HP.out; omega
        have c3 : ¬ (i : Int) < (mid : Int) := by have := HP.out; omega
        have c4 : ¬ (a : Int) < (i : Int) := by have := HP.out; omega
        have c5 : (mid : Int) < (e : Int) := by have := HP.out; omega
        have c6 : (e : Int) < (b : Int) := by have := HP.out; omega
        have L1 : Hid (d.toList = D1) := M1.out (by omega)
        have E2 : Hid (D1 = D2) := M2.out (by omega)
        go_wp2_with (first
         | (go_at_fn 191; refine (B3.out (by omega) (by omega) _ _ (rfl : d.size = d.size) (Aside.out S1) ((Hid.out L1).trans (Hid.out E2))).mono ?_; rintro e1 wc ⟨rfl, dc, q1, q2, q3⟩; have L3 : Hid (dc.toList = T) := q1; have Z3 : Hid (dc.size = d.size) := q2; have S4 : Aside (SWK enc k w0 blk off dc wc) := q3; clear q1 q2 q3))
        all_goals go_end0
        all_goals exact ⟨rfl, dc, (Hid.out L3), (Hid.out Z3), Aside.out S4⟩
       ·have c1 : (i : Int) < (m : Int) := by have := HP.out; omega
        have c2 : ¬ (m : Int) < (e : Int) := by have := HP.out; omega
        have c3 : ¬ (i : Int) < (mid : Int) := by have := HP.out; omega
        have c4 : ¬ (a : Int) < (i : Int) := by have := HP.out; omega
        have c5 : (mid : Int) < (e : Int) := by have := HP.out; omega
        have c6 : ¬ (e : Int) < (b : Int) := by have := HP.out; omega
        have L1 : Hid (d.toList = D1) := M1.out (by omega)
        have E2 : Hid (D1 = D2) := M2.out (by omega)
        have E3 : Hid (D2 = T) := M3.out (by omega)
        go_wp2
        all_goals go_end0
        all_goals exact ⟨rfl, d, (((Hid.out L1).trans (Hid.out E2)).trans (Hid.out E3)), (rfl : d.size = d.size), Aside.out S1⟩
    ·by_cases p1 : m < e
     ·by_cases p2 : a < i
      ·by_cases p3 : e < b
       ·have c1 : ¬ (i : Int) < (m : Int) := by have := HP.out; omega
        have c2 : (m : Int) < (e : Int) := by have := HP.out; omega
        have c3 : (i : Int) < (mid : Int) := by have := HP.out; omega
        have c4 : (a : Int) < (i : Int) := by have := HP.out; omega
        have c5 : ¬ (mid : Int) < (e : Int) := by have := HP.out; omega
        have c6 : (e : Int) < (b : Int) := by have := HP.out; omega
        have L1 : Hid (d.toList = D1) := M1.out (by omega)
        have E3 : Hid (D2 = T) := M3.out (by omega)
        go_wp2_with (first
         | (go_at_fn 191; refine (B2.out (by omega) (by omega) _ _ (rfl : d.size = d.size) (Aside.out S1) (Hid.out L1)).mono ?_; rintro e1 wb ⟨rfl, db, q1, q2, q3⟩; have L2 : Hid (db.toList = D2) := q1; have Z2 : Hid (db.size = d.size) := q2; have S3 : Aside (SWK enc k w0 blk off db wb) := q3; clear q1 q2 q3))
        all_goals go_end0
        all_goals exact ⟨rfl, db, ((Hid.out L2).trans (Hid.out E3)), (Hid.out Z2), Aside.out S3⟩
       ·have c1 : ¬ (i : Int) < (m : Int) := by have := HP.out; omega
        have c2 : (m : Int) < (e : Int) := by have := HP.out; omega
        have c3 : (i : Int) < (mid : Int) := by have := HP.out; omega
        have c4 : (a : Int) < (i : Int) := by have := HP.out; omega
        have c5 : ¬ (mid : Int) < (e : Int) := by have := HP.out; omega
        have c6 : ¬ (e : Int) < (b : Int) := by have := HP.out; omega
        have L1 : Hid (d.toList = D1) := M1.out (by omega)
        have E3 : Hid (D2 = T) := M3.out (by omega)
        go_wp2_with (first
         | (go_at_fn 191; refine (B2.out (by omega) (by omega) _ _ (rfl : d.size = d.size) (Aside.out S1) (Hid.out L1)).mono ?_; rintro e1 wb ⟨rfl, db, q1, q2, q3⟩; have L2 : Hid (db.toList = D2) := q1; have Z2 : Hid (db.size = d.size) := q2; have S3 : Aside (SWK enc k w0 blk off db wb) := q3; clear q1 q2 q3))
        all_goals go_end0
        all_goals exact ⟨rfl, db, ((Hid.out L2).trans (Hid.out E3)), (Hid.out Z2), Aside.out S3⟩
      ·by_cases p3 : e < b
       ·have c1 : ¬ (i : Int) < (m : Int) := by have := HP.out; omega
        have c2 : (m : Int) < (e : Int) := by have := HP.out; omega
        have c3 : (i : Int) < (mid : Int) := by have := HP.out; omega
        have c4 : ¬ (a : Int) < (i : Int) := by have := HP.out; omega
        have c5 : ¬ (mid : Int) < (e : Int) := by have := HP.out; omega
        have c6 : (e : Int) < (b : Int) := by have := HP.out; omega
        have L1 : Hid (d.toList = D1) := M1.out (by omega)
        have E2 : Hid (D1 = D2) := M2.out (by omega)
        have E3 : Hid (D2 = T) := M3.out (by omega)
        go_wp2
        all_goals go_end0
        all_goals exact ⟨rfl, d, (((Hid.out L1).trans (Hid.out E2)).trans (Hid.out E3)), (rfl : d.size = d.size), Aside.out S1⟩
       ·have c1 : ¬ (i : Int) < (m : Int) := by have := HP.out; omega
        have c2 : (m : Int) < (e : Int) := by have := HP.out; omega
        have c3 : (i : Int) < (mid : Int) := by have := HP.out; omega
        have c4 : ¬ (a : Int) < (i : Int) := by have := HP.out; omega
        have c5 : ¬ (mid : Int) < (e : Int) := by have := HP.out; omega
        have c6 : ¬ (e : Int) < (b : Int) := by have := HP.out; omega
        have L1 : Hid (d.toList = D1) := M1.out (by omega)
        have E2 : Hid (D1 = D2) := M2.out (by omega)
        have E3 : Hid (D2 = T) := M3.out (by omega)
        go_wp2
        all_goals go_end0
        all_goals exact ⟨rfl, d, (((Hid.out L1).trans (Hid.out E2)).trans (Hid.out E3)), (rfl : d.size = d.size), Aside.out S1⟩
     ·by_cases p2 : a < i
      ·by_cases p3 : e < b
       ·have c1 : ¬ (i : Int) < (m : Int) := by have := HP.out; omega
        have c2 : ¬ (m : Int) < (e : Int) := by have := HP.out; omega
        have c3 : ¬ (i : Int) < (mid : Int) := by have := HP.out; omega
        have c4 : (a : Int) < (i : Int) := by have := HP.out; omega
        have c5 : ¬ (mid : Int) < (e : Int) := by have := HP.out; omega
        have c6 : (e : Int) < (b : Int) := by have := HP.out; omega
        have L1 : Hid (d.toList = D1) := M1.out (by omega)
        have E2 : Hid (D1 = D2) := M2.out (by omega)
        have E3 : Hid (D2 = T) := M3.out (by omega)
        go_wp2
        all_goals go_end0
        all_goals exact ⟨rfl, d, (((Hid.out L1).trans (Hid.out E2)).trans (Hid.out E3)), (rfl : d.size = d.size), Aside.out S1⟩
       ·have c1 : ¬ (i : Int) < (m : Int) := by have := HP.out; omega
        have c2 : ¬ (m : Int) < (e : Int) := by have := HP.out; omega
        have c3 : ¬ (i : Int) < (mid : Int) := by have := HP.out; omega
        have c4 : (a : Int) < (i : Int) := by have := HP.out; omega
        have c5 : ¬ (mid : Int) < (e : Int) := by have := HP.out; omega
        have c6 : ¬ (e : Int) < (b : Int) := by have := HP.out; omega
        have L1 : Hid (d.toList = D1) := M1.out (by omega)
        have E2 : Hid (D1 = D2) := M2.out (by omega)
        have E3 : Hid (D2 = T) := M3.out (by omega)
        go_wp2
        all_goals go_end0
        all_goals exact ⟨rfl, d, (((Hid.out L1).trans (Hid.out E2)).trans (Hid.out E3)), (rfl : d.size = d.size), Aside.out S1⟩
      ·by_cases p3 : e < b
       ·have c1 : ¬ (i : Int) < (m : Int) := by have := HP.out; omega
        have c2 : ¬ (m : Int) < (e : Int) := by have := HP.out; omega
        have c3 : ¬ (i : Int) < (mid : Int) := by have := HP.out; omega
        have c4 : ¬ (a : Int) < (i : Int) := by have := HP.out; omega
        have c5 : ¬ (mid : Int) < (e : Int) := by have := HP.out; omega
        have c6 : (e : Int) < (b : Int) := by have := HP.out; omega
        have L1 : Hid (d.toList = D1) := M1.out (by omega)
        have E2 : Hid (D1 = D2) := M2.out (by omega)
        have E3 : Hid (D2 = T) := M3.out (by omega)
        go_wp2
        all_goals go_end0
        all_goals exact ⟨rfl, d, (((Hid.out L1).trans (Hid.out E2)).trans (Hid.out E3)), (rfl : d.size = d.size), Aside.out S1⟩
       ·have c1 : ¬ (i : Int) < (m : Int) := by have := HP.out; omega
        have c2 : ¬ (m : Int) < (e : Int) := by have := HP.out; omega
        have c3 : ¬ (i : Int) < (mid : Int) := by have := HP.out; omega
        have c4 : ¬ (a : Int) < (i : Int) := by have := HP.out; omega
        have c5 : ¬ (mid : Int) < (e : Int) := by have := HP.out; omega
        have c6 : ¬ (e : Int) < (b : Int) := by have := HP.out; omega
        have L1 : Hid (d.toList = D1) := M1.out (by omega)
        have E2 : Hid (D1 = D2) := M2.out (by omega)
        have E3 : Hid (D2 = T) := M3.out (by omega)
        go_wp2
        all_goals go_end0
        all_goals exact ⟨rfl, d, (((Hid.out L1).trans (Hid.out E2)).trans (Hid.out E3)), (rfl : d.size = d.size), Aside.out S1⟩
end Go.Proofs.YtiaopafkfadmkaaGreat.G
