/- Proved: the contract of symMerge where one stands on the right. -/
import Derived.Test.YtpkemgpnpadkfaaSml
namespace Go.Proofs.Ytpkemgpnpadkfaa
open Go.RowKit Go.Shelf Go.Lib Go.Sort
set_option linter.unusedVariables false
set_option maxHeartbeats 4000000 in
set_option maxRecDepth 1000000 in
theorem symR {P : Program} (Ly : Lys P) (k : Nat) (aE : ∀ w, (isAgg 56).run P w = .ok true w) (zE : ∀ w, (Go.sizeOf 56).run P w = .ok k w) {α : Type} [Inhabited α] (enc : α → List Value) (cf : α → α → Int) (le : α → α → Bool) (hcf : ∀ x y, decide (cf x y < 0) = !le y x) (ht : Stb.Tot le) (g : Nat) (cb : Array Value)
    (eg : ∀ args w, (callFunc g args).run P w = .ok (.enter g args) w) (blk off cap : Nat) (d0 : Array α) (w0 : World) (hC : CmpLays P g cb enc k cf blk off d0.size w0) (R : RowK enc k w0 blk off d0) (a m b : Nat) (d : Array α) (w : World) (hs : d0.size = d.size) (S : SWK enc k w0 blk off d w) (A X : List α) (y : α) (C : List α) (hd : d.toList = A ++ (X ++ y :: C)) (hA : A.length = a) (hm : a + X.length = m) (h2 : 2 ≤ X.length) (hb : m + 1 = b) (hX : Stb.Srt le X) (hsz : d.size ≤ 1000) :
    Calls P 37 #[.slice (some ⟨blk, off, none⟩) d.size cap, .int .i64 a, .int .i64 m, .int .i64 b, .func (.func g) #[] cb] w fun e w' => e = .returned (.tuple #[]) ∧ ∃ d' : Array α, d'.toList = A ++ (List.merge X [y] le ++ C) ∧ d'.size = d.size ∧ SWK enc k w0 blk off d' w' := by
  have mixed := Ly.mixed; have t0 := Ly.t0; have a0 := Ly.a0; have z0 := Ly.z0; have v0 := Ly.v0; have t1 := Ly.t1; have a1 := Ly.a1; have z1 := Ly.z1; have v1 := Ly.v1; have t2 := Ly.t2; have a2 := Ly.a2; have z2 := Ly.z2; have v2 := Ly.v2; have t3 := Ly.t3; have a3 := Ly.a3; have z3 := Ly.z3; have v3 := Ly.v3; have t4 := Ly.t4; have a4 := Ly.a4; have z4 := Ly.z4; have v4 := Ly.v4; have t5 := Ly.t5; have a5 := Ly.a5; have z5 := Ly.z5; have v5 := Ly.v5
  have F := Ly.sm
  have HC : Aside _ := hC
  have hle : b ≤ d.size := by
    have := congrArg List.length hd
    simp at this
    omega
  have S0 : Aside (SWK enc k w0 blk off d w) := S
  have ey : d[m]! = y := Stb.arr_get (A := A ++ X) (R := C) (by rw [hd]; simp) (by simp; omega)
  have EX : Hid (∀ h, a ≤ h → h < m → d[h]! = X[h - a]!) := fun h h1 h2 => by
    have := Stb.arr_at (A := A) (B := X) (C := y :: C) (i := h - a) hd (a := a) hA (by omega)
    rw [show a + (h - a) = h by omega] at this
    exact this
  have HD : Hid (d.toList = Stb.mvU A X C y (m - a)) := by
    show _ = _
    rw [hd, show m - a = X.length by omega]
    simp [Stb.mvU]
  have DN : Hid (∀ (dk : Array α) (u : Nat), a ≤ u → u < m → dk.toList = Stb.mvU A X C y (u + 1 - a) → (swp dk (u + 1) u).toList = Stb.mvU A X C y (u - a)) := fun dk u h1 h2 h3 => Stb.mvU_down hA h1 (by omega) h3
  have EN : Hid (∀ p, p ≤ m - a → (p = 0 ∨ le X[p - 1]! y = true) → (p = m - a ∨ le X[p]! y = false) → Stb.mvU A X C y p = A ++ (List.merge X [y] le ++ C)) := fun p h1 h2 h3 => by
    rw [show m - a = X.length by omega] at h1 h3
    rw [Stb.merge_right ht hX y h1 h2 h3]
    simp [Stb.mvU]
  have hq1 : ((m : Int) - (a : Int) == 1) = false := by simp; omega
  have hq2 : (b : Int) - (m : Int) = 1 := by omega
  have hma : a < m := by omega
  have hmb : m < b := by omega
  clear S hd Ly hC hA hX hb hm h2
  go_enter F, Try.ntmps37
  go_wp2
  go_loopw [14, 15] (fun s14 s15 wr => ∃ i j : Nat, s14 = .int .i64 i ∧ s15 = .int .i64 j ∧ a ≤ i ∧ i ≤ j ∧ j ≤ m ∧ Aside (SWK enc k w0 blk off d wr) ∧ Hid ((i = a ∨ le X[i - a - 1]! y = true) ∧ (j = m ∨ le X[j - a]! y = false))) (fun s14 s15 _ => (intOf s15).toNat - (intOf s14).toNat)
  case atStart => exact ⟨a, m, rfl, rfl, Nat.le_refl _, by omega, Nat.le_refl _, S0, (⟨Or.inl rfl, Or.inl rfl⟩ : (a = a ∨ le X[a - a - 1]! y = true) ∧ (m = m ∨ le X[m - a]! y = false))⟩
  case round =>
    obtain ⟨i, j, rfl, rfl, hmi, hij, hjb, S1, HI⟩ := hrel
    by_cases hlt : i < j
    · have hlt' : (i : Int) < (j : Int) := by omega
      obtain ⟨h, hh⟩ : ∃ h : Nat, h = (i + j) / 2 := ⟨_, rfl⟩
      have hh1 : i ≤ h := by omega
      have hh2 : h < j := by omega
      have hh4 : ((i : Int) + (j : Int)) / 2 = (h : Int) := by omega
      clear hh
      have exh := EX.out h (by omega) (by omega)
      cases hlv : le d[h]! d[m]!
      · have HV : Hid (le X[h - a]! y = false) := by rw [← exh, ← ey]; exact hlv
        clear exh
        have eI : ((m : Int)).toNat = m := by omega
        have pI : (0 : Int) ≤ (m : Int) := by omega
        have bI : (m : Int) < (d.size : Int) := by omega
        have rI : IntKind.i64.wrap ((m : Int)) = (m : Int) := by rw [IntKind.wrap_i64]; omega
        have eJ : ((h : Int)).toNat = h := by omega
        have pJ : (0 : Int) ≤ (h : Int) := by omega
        have bJ : (h : Int) < (d.size : Int) := by omega
        have rJ : IntKind.i64.wrap ((h : Int)) = (h : Int) := by rw [IntKind.wrap_i64]; omega
        obtain ⟨xx, hxx⟩ : ∃ x, x = d[m]! := ⟨_, rfl⟩
        obtain ⟨yy, hyy⟩ : ∃ x, x = d[h]! := ⟨_, rfl⟩
        have lI := S1.out.ld R (by omega) P m (by omega)
        have lJ := S1.out.ld R (by omega) P h (by omega)
        rw [← hxx] at lI
        rw [← hyy] at lJ
        have hcc := S1.out.cmp HC.out (by omega) xx yy
        have hdv : decide (cf xx yy < 0) = true := by rw [hcf, hxx, hyy, hlv]; rfl
        obtain ⟨z, hz⟩ : ∃ z, cf xx yy = z := ⟨_, rfl⟩
        rw [hz] at hcc hdv
        have hvv : z < 0 := of_decide_eq_true hdv
        clear hxx hyy hz
        go_wp2_with fail
        go_quiet_grown (first | (go_at_fn g; refine Calls.grown_of (hcc _ _)))
        have S2 : Aside (SWK enc k w0 blk off d (grow (wr.drewN nq) osq)) := S1.out.grown nq osq
        clear lI lJ hcc S1
        generalize grow (wr.drewN nq) osq = w2 at S2 ⊢
        clear nq osq
        go_wp2
        clear hdv hvv
        go_roundw
        case rel => exact ⟨i, h, rfl, rfl, hmi, hh1, by omega, S2, (⟨HI.out.1, Or.inr HV.out⟩ : (i = a ∨ le X[i - a - 1]! y = true) ∧ (h = m ∨ le X[h - a]! y = false))⟩
        case measure => simp [intOf]; omega
      · have HV : Hid (le X[h - a]! y = true) := by rw [← exh, ← ey]; exact hlv
        clear exh
        have eI : ((m : Int)).toNat = m := by omega
        have pI : (0 : Int) ≤ (m : Int) := by omega
        have bI : (m : Int) < (d.size : Int) := by omega
        have rI : IntKind.i64.wrap ((m : Int)) = (m : Int) := by rw [IntKind.wrap_i64]; omega
        have eJ : ((h : Int)).toNat = h := by omega
        have pJ : (0 : Int) ≤ (h : Int) := by omega
        have bJ : (h : Int) < (d.size : Int) := by omega
        have rJ : IntKind.i64.wrap ((h : Int)) = (h : Int) := by rw [IntKind.wrap_i64]; omega
        obtain ⟨xx, hxx⟩ : ∃ x, x = d[m]! := ⟨_, rfl⟩
        obtain ⟨yy, hyy⟩ : ∃ x, x = d[h]! := ⟨_, rfl⟩
        have lI := S1.out.ld R (by omega) P m (by omega)
        have lJ := S1.out.ld R (by omega) P h (by omega)
        rw [← hxx] at lI
        rw [← hyy] at lJ
        have hcc := S1.out.cmp HC.out (by omega) xx yy
        have hdv : decide (cf xx yy < 0) = false := by rw [hcf, hxx, hyy, hlv]; rfl
        obtain ⟨z, hz⟩ : ∃ z, cf xx yy = z := ⟨_, rfl⟩
        rw [hz] at hcc hdv
        have hvv : ¬ z < 0 := of_decide_eq_false hdv
        clear hxx hyy hz
        go_wp2_with fail
        go_quiet_grown (first | (go_at_fn g; refine Calls.grown_of (hcc _ _)))
        have S2 : Aside (SWK enc k w0 blk off d (grow (wr.drewN nq) osq)) := S1.out.grown nq osq
        clear lI lJ hcc S1
        generalize grow (wr.drewN nq) osq = w2 at S2 ⊢
        clear nq osq
        go_wp2
        clear hdv hvv
        go_roundw
        case rel => exact ⟨h + 1, j, by go_num, rfl, by omega, by omega, hjb, S2, (⟨Or.inr (by rw [show h + 1 - a - 1 = h - a by omega]; exact HV.out), HI.out.2⟩ : (h + 1 = a ∨ le X[h + 1 - a - 1]! y = true) ∧ (j = m ∨ le X[j - a]! y = false))⟩
        case measure => simp [intOf]; omega
    · obtain rfl : i = j := by omega
      have EN2 : Hid (Stb.mvU A X C y (i - a) = A ++ (List.merge X [y] le ++ C)) := EN.out (i - a) (by omega) (by
        rcases HI.out.1 with g | g
        · exact Or.inl (by omega)
        · exact Or.inr g) (by
        rcases HI.out.2 with g | g
        · exact Or.inl (by omega)
        · exact Or.inr g)
      clear HI EN
      go_wp2
      go_loopw [17] (fun s17 wr => ∃ (u : Nat) (dk : Array α), s17 = .int .i64 u ∧ i ≤ u ∧ u ≤ m ∧ dk.size = d.size ∧ Aside (SWK enc k w0 blk off dk wr) ∧ Hid (dk.toList = Stb.mvU A X C y (u - a))) (fun s17 _ => (intOf s17).toNat)
      case atStart => exact ⟨m, d, rfl, by omega, Nat.le_refl _, rfl, S1, HD⟩
      case round =>
        clear S1
        obtain ⟨u, dk, rfl, hau, hui, hds, S1, HL⟩ := hrel
        by_cases hlt : i < u
        · have hlt' : (i : Int) < (u : Int) := by omega
          obtain ⟨v, hv⟩ : ∃ v, u = v + 1 := ⟨u - 1, by omega⟩
          have hv2 : (u : Int) - 1 = (v : Int) := by omega
          have HL2 : Hid ((swp dk u v).toList = Stb.mvU A X C y (v - a)) := by
            have h1 := HL.out
            rw [hv] at h1 ⊢
            exact DN.out dk v (by omega) (by omega) h1
          have hv4 : v < u := by omega
          have hv5 : u ≤ v + 1 := by omega
          clear hv
          have eI : ((u : Int)).toNat = u := by omega
          have pI : (0 : Int) ≤ (u : Int) := by omega
          have bI : (u : Int) < (d.size : Int) := by omega
          have rI : IntKind.i64.wrap ((u : Int)) = (u : Int) := by rw [IntKind.wrap_i64]; omega
          have eJ : ((v : Int)).toNat = v := by omega
          have pJ : (0 : Int) ≤ (v : Int) := by omega
          have bJ : (v : Int) < (d.size : Int) := by omega
          have rJ : IntKind.i64.wrap ((v : Int)) = (v : Int) := by rw [IntKind.wrap_i64]; omega
          have S2 : Aside (SWK enc k w0 blk off (swp dk u v) ((wr.drew.setCells blk (off + u * k) (enc dk[v]!)).setCells blk (off + v * k) (enc dk[u]!))) := S1.out.swapped R u v (by omega) (by omega)
          have la := S1.out.ld1 R (by omega) P u (by omega)
          have lb := S1.out.ld1 R (by omega) P v (by omega)
          have sa := S1.out.st1 R (by omega) P u (by omega) dk[v]!
          have sb := S1.out.st2 R (by omega) P u v (by omega) (by omega) dk[v]! dk[u]!
          have na : (enc dk[u]!).length = k := R.hk _
          have nb : (enc dk[v]!).length = k := R.hk _
          have hds2 : (swp dk u v).size = d.size := by rw [size_swp]; exact hds
          generalize enc dk[u]! = cI at S2 la sb na
          generalize enc dk[v]! = cJ at S2 lb sa sb nb
          generalize swp dk u v = dk2 at S2 HL2 hds2
          clear S1 HL
          go_wp2_with fail
          go_big_region_o
          clear la lb sa sb
          generalize (wr.drew.setCells blk (off + u * k) cJ).setCells blk (off + v * k) cI = w2 at S2 ⊢
          go_wp2
          go_roundw
          case rel => exact ⟨v, dk2, by first | rfl | go_num, by omega, by omega, hds2, S2, HL2⟩
          case measure => simp [intOf]; omega
        · have hlt' : ¬ (i : Int) < (u : Int) := by omega
          obtain rfl : u = i := by omega
          go_wp2
          refine bodyPost_ret (results_none rfl _ _ _) rfl ?_
          exact ⟨rfl, dk, by rw [HL.out, EN2.out], hds, S1.out⟩
end Go.Proofs.Ytpkemgpnpadkfaa
