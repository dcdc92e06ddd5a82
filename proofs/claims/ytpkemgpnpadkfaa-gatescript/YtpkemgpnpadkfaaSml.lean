/- Proved: the contract of symMerge where one stands on the left. -/
import Derived.Test.YtpkemgpnpadkfaaSro
namespace Go.Proofs.Ytpkemgpnpadkfaa.Stb
def mvU {α : Type} (A Y C : List α) (x : α) (q : Nat) : List α := A ++ (Y.take q ++ x :: (Y.drop q ++ C))
theorem mvU_up {α : Type} [Inhabited α] {A Y C : List α} {x : α} {d : Array α} {a u : Nat} (hA : A.length = a) (h1 : a ≤ u) (h2 : u < a + Y.length) (h : d.toList = mvU A Y C x (u - a)) : (Go.Sort.swp d u (u + 1)).toList = mvU A Y C x (u + 1 - a) := by
  have := up_step (q := u - a) hA (by omega) h
  rw [show a + (u - a) = u by omega] at this
  rw [show u + 1 - a = u - a + 1 by omega]
  exact this
theorem mvU_down {α : Type} [Inhabited α] {A X C : List α} {y : α} {d : Array α} {a u : Nat} (hA : A.length = a) (h1 : a ≤ u) (h2 : u < a + X.length) (h : d.toList = mvU A X C y (u + 1 - a)) : (Go.Sort.swp d (u + 1) u).toList = mvU A X C y (u - a) := by
  rw [show u + 1 - a = u - a + 1 by omega] at h
  have := down_step (q := u - a) hA (by omega) h
  rw [show a + (u - a + 1) = u + 1 by omega, show a + (u - a) = u by omega] at this
  exact this
end Go.Proofs.Ytpkemgpnpadkfaa.Stb
namespace Go.Proofs.Ytpkemgpnpadkfaa
open Go.RowKit Go.Shelf Go.Lib Go.Sort
set_option linter.unusedVariables false
set_option maxHeartbeats 4000000 in
set_option maxRecDepth 1000000 in
theorem symL {P : Program} (Ly : Lys P) (k : Nat) (aE : ∀ w, (isAgg 56).run P w = .ok true w) (zE : ∀ w, (Go.sizeOf 56).run P w = .ok k w) {α : Type} [Inhabited α] (enc : α → List Value) (cf : α → α → Int) (le : α → α → Bool) (hcf : ∀ x y, decide (cf x y < 0) = !le y x) (ht : Stb.Tot le) (g : Nat) (cb : Array Value)
    (eg : ∀ args w, (callFunc g args).run P w = .ok (.enter g args) w) (blk off cap : Nat) (d0 : Array α) (w0 : World) (hC : CmpLays P g cb enc k cf blk off d0.size w0) (R : RowK enc k w0 blk off d0) (a m b : Nat) (d : Array α) (w : World) (hs : d0.size = d.size) (S : SWK enc k w0 blk off d w) (A : List α) (x : α) (Y C : List α) (hd : d.toList = A ++ x :: (Y ++ C)) (hA : A.length = a) (hm : a + 1 = m) (hb : m + Y.length = b) (hY : Stb.Srt le Y) (hsz : d.size ≤ 1000) :
    Calls P 37 #[.slice (some ⟨blk, off, none⟩) d.size cap, .int .i64 a, .int .i64 m, .int .i64 b, .func (.func g) #[] cb] w fun e w' => e = .returned (.tuple #[]) ∧ ∃ d' : Array α, d'.toList = A ++ (List.merge [x] Y le ++ C) ∧ d'.size = d.size ∧ SWK enc k w0 blk off d' w' := by
  have mixed := Ly.mixed; have t0 := Ly.t0; have a0 := Ly.a0; have z0 := Ly.z0; have v0 := Ly.v0; have t1 := Ly.t1; have a1 := Ly.a1; have z1 := Ly.z1; have v1 := Ly.v1; have t2 := Ly.t2; have a2 := Ly.a2; have z2 := Ly.z2; have v2 := Ly.v2; have t3 := Ly.t3; have a3 := Ly.a3; have z3 := Ly.z3; have v3 := Ly.v3; have t4 := Ly.t4; have a4 := Ly.a4; have z4 := Ly.z4; have v4 := Ly.v4; have t5 := Ly.t5; have a5 := Ly.a5; have z5 := Ly.z5; have v5 := Ly.v5
  have F := Ly.sm
  have HC : Aside _ := hC
  have hle : b ≤ d.size := by
    have := congrArg List.length hd
    simp at this
    omega
  have S0 : Aside (SWK enc k w0 blk off d w) := S
  have ex : d[a]! = x := Stb.arr_get hd hA
  have EY : Hid (∀ h, m ≤ h → h < b → d[h]! = Y[h - m]!) := fun h h1 h2 => by
    have := Stb.arr_at (A := A ++ [x]) (B := Y) (C := C) (i := h - m) (by rw [hd]; simp) (a := m) (by simp; omega) (by omega)
    rw [show m + (h - m) = h by omega] at this
    exact this
  have HD : Hid (d.toList = Stb.mvU A Y C x 0) := by show _ = _; rw [hd]; simp [Stb.mvU]
  have UP : Hid (∀ (dk : Array α) (u : Nat), a ≤ u → u < a + Y.length → dk.toList = Stb.mvU A Y C x (u - a) → (swp dk u (u + 1)).toList = Stb.mvU A Y C x (u + 1 - a)) := fun dk u h1 h2 h3 => Stb.mvU_up hA h1 h2 h3
  have EN : Hid (∀ p, p ≤ Y.length → (p = 0 ∨ le x Y[p - 1]! = false) → (p = Y.length ∨ le x Y[p]! = true) → Stb.mvU A Y C x p = A ++ (List.merge [x] Y le ++ C)) := fun p h1 h2 h3 => by
    rw [Stb.merge_left ht hY x h1 h2 h3]
    simp [Stb.mvU]
  have hq1 : (m : Int) - (a : Int) = 1 := by omega
  have hma : a < m := by omega
  obtain ⟨ly, hly⟩ : ∃ ly, Y.length = ly := ⟨_, rfl⟩
  rw [hly] at hb UP EN
  have hmb : m ≤ b := by omega
  have HB : Hid (m + ly = b ∧ a + 1 = m) := ⟨hb, hm⟩
  clear S hd Ly hC hA hly hY hb hm
  go_enter F, Try.ntmps37
  go_wp2
  go_loopw [10, 11] (fun s10 s11 wr => ∃ i j : Nat, s10 = .int .i64 i ∧ s11 = .int .i64 j ∧ m ≤ i ∧ i ≤ j ∧ j ≤ b ∧ Aside (SWK enc k w0 blk off d wr) ∧ Hid ((i = m ∨ le x Y[i - m - 1]! = false) ∧ (j = b ∨ le x Y[j - m]! = true))) (fun s10 s11 _ => (intOf s11).toNat - (intOf s10).toNat)
  case atStart => exact ⟨m, b, rfl, rfl, Nat.le_refl _, hmb, Nat.le_refl _, S0, (⟨Or.inl rfl, Or.inl rfl⟩ : (m = m ∨ le x Y[m - m - 1]! = false) ∧ (b = b ∨ le x Y[b - m]! = true))⟩
  case round =>
    obtain ⟨i, j, rfl, rfl, hmi, hij, hjb, S1, HI⟩ := hrel
    by_cases hlt : i < j
    · have hlt' : (i : Int) < (j : Int) := by omega
      obtain ⟨h, hh⟩ : ∃ h : Nat, h = (i + j) / 2 := ⟨_, rfl⟩
      have hh1 : i ≤ h := by omega
      have hh2 : h < j := by omega
      have hh4 : ((i : Int) + (j : Int)) / 2 = (h : Int) := by omega
      clear hh
      have ey := EY.out h (by omega) (by omega)
      cases hlv : le d[a]! d[h]!
      · have HV : Hid (le x Y[h - m]! = false) := by rw [← ey, ← ex]; exact hlv
        clear ey
        have eI : ((h : Int)).toNat = h := by omega
        have pI : (0 : Int) ≤ (h : Int) := by omega
        have bI : (h : Int) < (d.size : Int) := by omega
        have rI : IntKind.i64.wrap ((h : Int)) = (h : Int) := by rw [IntKind.wrap_i64]; omega
        have eJ : ((a : Int)).toNat = a := by omega
        have pJ : (0 : Int) ≤ (a : Int) := by omega
        have bJ : (a : Int) < (d.size : Int) := by omega
        have rJ : IntKind.i64.wrap ((a : Int)) = (a : Int) := by rw [IntKind.wrap_i64]; omega
        obtain ⟨xx, hxx⟩ : ∃ x, x = d[h]! := ⟨_, rfl⟩
        obtain ⟨yy, hyy⟩ : ∃ x, x = d[a]! := ⟨_, rfl⟩
        have lI := S1.out.ld R (by omega) P h (by omega)
        have lJ := S1.out.ld R (by omega) P a (by omega)
        rw [← hxx] at lI
        rw [← hyy] at lJ
        have hcc := S1.out.cmp HC.out (by omega) xx yy
        have hdv : decide (cf xx yy < 0) = true := by rw [hcf, hxx, hyy, hlv]; rfl
        obtain ⟨z, hz⟩ : ∃ z, cf xx yy = z := ⟨_, rfl⟩
        rw [hz] at hcc hdv
        have hvv : z < 0 := of_decide_eq_true hdv
        clear hxx hyy hz
        go_wp2_with fail
        go_quiet_grown (first | (go_at_fn g; refine Calls.grown_of (hcc _ _)))
        have S2 : Aside (SWK enc k w0 blk off d (grow (wr.drewN nq) osq)) := S1.out.grown nq osq
        clear lI lJ hcc S1
        generalize grow (wr.drewN nq) osq = w2 at S2 ⊢
        clear nq osq
        go_wp2
        clear hdv hvv
        go_roundw
        case rel => exact ⟨h + 1, j, by go_num, rfl, by omega, by omega, hjb, S2, (⟨Or.inr (by rw [show h + 1 - m - 1 = h - m by omega]; exact HV.out), HI.out.2⟩ : (h + 1 = m ∨ le x Y[h + 1 - m - 1]! = false) ∧ (j = b ∨ le x Y[j - m]! = true))⟩
        case measure => simp [intOf]; omega
      · have HV : Hid (le x Y[h - m]! = true) := by rw [← ey, ← ex]; exact hlv
        clear ey
        have eI : ((h : Int)).toNat = h := by omega
        have pI : (0 : Int) ≤ (h : Int) := by omega
        have bI : (h : Int) < (d.size : Int) := by omega
        have rI : IntKind.i64.wrap ((h : Int)) = (h : Int) := by rw [IntKind.wrap_i64]; omega
        have eJ : ((a : Int)).toNat = a := by omega
        have pJ : (0 : Int) ≤ (a : Int) := by omega
        have bJ : (a : Int) < (d.size : Int) := by omega
        have rJ : IntKind.i64.wrap ((a : Int)) = (a : Int) := by rw [IntKind.wrap_i64]; omega
        obtain ⟨xx, hxx⟩ : ∃ x, x = d[h]! := ⟨_, rfl⟩
        obtain ⟨yy, hyy⟩ : ∃ x, x = d[a]! := ⟨_, rfl⟩
        have lI := S1.out.ld R (by omega) P h (by omega)
        have lJ := S1.out.ld R (by omega) P a (by omega)
        rw [← hxx] at lI
        rw [← hyy] at lJ
        have hcc := S1.out.cmp HC.out (by omega) xx yy
        have hdv : decide (cf xx yy < 0) = false := by rw [hcf, hxx, hyy, hlv]; rfl
        obtain ⟨z, hz⟩ : ∃ z, cf xx yy = z := ⟨_, rfl⟩
        rw [hz] at hcc hdv
        have hvv : ¬ z < 0 := of_decide_eq_false hdv
        clear hxx hyy hz
        go_wp2_with fail
        go_quiet_grown (first | (go_at_fn g; refine Calls.grown_of (hcc _ _)))
        have S2 : Aside (SWK enc k w0 blk off d (grow (wr.drewN nq) osq)) := S1.out.grown nq osq
        clear lI lJ hcc S1
        generalize grow (wr.drewN nq) osq = w2 at S2 ⊢
        clear nq osq
        go_wp2
        clear hdv hvv
        go_roundw
        case rel => exact ⟨i, h, rfl, rfl, hmi, hh1, by omega, S2, (⟨HI.out.1, Or.inr HV.out⟩ : (i = m ∨ le x Y[i - m - 1]! = false) ∧ (h = b ∨ le x Y[h - m]! = true))⟩
        case measure => simp [intOf]; omega
    · obtain rfl : i = j := by omega
      have hb := HB.out.1
      have hm := HB.out.2
      have EN2 : Hid (Stb.mvU A Y C x (i - 1 - a) = A ++ (List.merge [x] Y le ++ C)) := EN.out (i - 1 - a) (by omega) (by
        rcases HI.out.1 with g | g
        · exact Or.inl (by omega)
        · exact Or.inr (by rw [show i - 1 - a - 1 = i - m - 1 by omega]; exact g)) (by
        rcases HI.out.2 with g | g
        · exact Or.inl (by omega)
        · exact Or.inr (by rw [show i - 1 - a = i - m by omega]; exact g))
      clear HI EN hb hm
      go_wp2
      go_loopw [13] (fun s13 wr => ∃ (u : Nat) (dk : Array α), s13 = .int .i64 u ∧ a ≤ u ∧ u + 1 ≤ i ∧ dk.size = d.size ∧ Aside (SWK enc k w0 blk off dk wr) ∧ Hid (dk.toList = Stb.mvU A Y C x (u - a))) (fun s13 _ => i - (intOf s13).toNat)
      case atStart => exact ⟨a, d, rfl, Nat.le_refl _, by omega, rfl, S1, by show d.toList = _; rw [Nat.sub_self]; exact HD.out⟩
      case round =>
        clear S1
        obtain ⟨u, dk, rfl, hau, hui, hds, S1, HL⟩ := hrel
        by_cases hlt : u + 1 < i
        · have hlt' : (u : Int) < (i : Int) - 1 := by omega
          obtain ⟨v, hv⟩ : ∃ v, v = u + 1 := ⟨_, rfl⟩
          have hv2 : (u : Int) + 1 = (v : Int) := by omega
          have hv3 : v ≤ d.size - 1 := by omega
          have HL2 : Hid ((swp dk u v).toList = Stb.mvU A Y C x (v - a)) := by rw [hv]; exact UP.out dk u hau (by have hb := HB.out; omega) HL.out
          have eI : ((u : Int)).toNat = u := by omega
          have pI : (0 : Int) ≤ (u : Int) := by omega
          have bI : (u : Int) < (d.size : Int) := by omega
          have rI : IntKind.i64.wrap ((u : Int)) = (u : Int) := by rw [IntKind.wrap_i64]; omega
          have eJ : ((v : Int)).toNat = v := by omega
          have pJ : (0 : Int) ≤ (v : Int) := by omega
          have bJ : (v : Int) < (d.size : Int) := by omega
          have rJ : IntKind.i64.wrap ((v : Int)) = (v : Int) := by rw [IntKind.wrap_i64]; omega
          have S2 : Aside (SWK enc k w0 blk off (swp dk u v) ((wr.drew.setCells blk (off + u * k) (enc dk[v]!)).setCells blk (off + v * k) (enc dk[u]!))) := S1.out.swapped R u v (by omega) (by omega)
          have la := S1.out.ld1 R (by omega) P u (by omega)
          have lb := S1.out.ld1 R (by omega) P v (by omega)
          have sa := S1.out.st1 R (by omega) P u (by omega) dk[v]!
          have sb := S1.out.st2 R (by omega) P u v (by omega) (by omega) dk[v]! dk[u]!
          have na : (enc dk[u]!).length = k := R.hk _
          have nb : (enc dk[v]!).length = k := R.hk _
          have hds2 : (swp dk u v).size = d.size := by rw [size_swp]; exact hds
          generalize enc dk[u]! = cI at S2 la sb na
          generalize enc dk[v]! = cJ at S2 lb sa sb nb
          generalize swp dk u v = dk2 at S2 HL2 hds2
          clear S1 HL hv
          go_wp2_with fail
          go_big_region_o
          clear la lb sa sb
          generalize (wr.drew.setCells blk (off + u * k) cJ).setCells blk (off + v * k) cI = w2 at S2 ⊢
          go_wp2
          go_roundw
          case rel => exact ⟨v, dk2, by first | rfl | go_num, by omega, by omega, hds2, S2, HL2⟩
          case measure => simp [intOf]; omega
        · have hlt' : ¬ (u : Int) < (i : Int) - 1 := by omega
          obtain rfl : u = i - 1 := by omega
          go_wp2
          refine bodyPost_ret (results_none rfl _ _ _) rfl ?_
          exact ⟨rfl, dk, by rw [HL.out, EN2.out], hds, S1.out⟩
end Go.Proofs.Ytpkemgpnpadkfaa
