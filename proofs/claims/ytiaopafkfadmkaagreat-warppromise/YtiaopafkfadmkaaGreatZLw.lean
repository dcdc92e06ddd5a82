/- Joined: the texts that follow, each with its own sentence. -/
import Derived.Test.YtiaopafkfadmkaaGreatZLp
import Derived.Test.YtiaopafkfadmkaaGreatZVo
/- Proved: the walk of WarpPromise. -/
namespace Go.Proofs.YtiaopafkfadmkaaGreat.V
open Go.RowKit Go.Shelf Go.Sort
set_option linter.unusedVariables false
set_option maxRecDepth 100000

set_option maxHeartbeats 8000000 in
theorem promise_walk (w : World) (sa : Option Addr) (sc : Nat) (z : List Oq) (hn : z.length ≤ maxLen) (hz : RdQ w sa z) :
    Calls Tryz.prog 6 #[.slice sa z.length sc] w fun e w' => e = .returned (.bool true) ∧ Below w.heap.size w w' := by
  have mixed : Tryz.prog.follows .mixedOrders = true := by kernel_rfl
  have SH := shown_any w
  unfold maxLen at hn
  obtain ⟨zl, hzl⟩ : ∃ zl, z.length = zl := ⟨_, rfl⟩
  rw [hzl] at hn ⊢
  by_cases hlong : 100 < zl
  · have hl' : decide ((100 : Int) < (zl : Int)) = true := decide_eq_true (by omega)
    clear hz
    go_enter Tryz.func6, Tryz.ntmps6
    go_wp2_with (go_at_call 10; refine SH.mono ?_; rintro e w1 ⟨rfl, hb⟩; have HB : Hid (Below w.heap.size w w1) := hb; clear hb SH)
    go_ret
    exact ⟨rfl, HB.out⟩
  have hl' : decide ((100 : Int) < (zl : Int)) = false := decide_eq_false (by omega)
  have hz100 : zl ≤ 100 := by omega
  have HZ : Hid (∀ i, i < zl → ∃ k fr ti ik T b c d e g co xb off, sa = some ⟨xb, off, none⟩ ∧ wfI fr ∧ Q.mwf ((T, b, c), d, e, g) ∧ ∀ W, Below w.heap.size w W →
    W.cell? ⟨xb, off + i * 11, none⟩ = some (.int .i64 k) ∧ W.cell? ⟨xb, off + i * 11 + 1, none⟩ = some (.int .i64 fr) ∧ W.cell? ⟨xb, off + i * 11 + 2, none⟩ = some (.int .i64 ti) ∧ W.cell? ⟨xb, off + i * 11 + 3, none⟩ = some (.int .i64 ik) ∧ W.cell? ⟨xb, off + i * 11 + 4, none⟩ = some (.int .i64 T) ∧ W.cell? ⟨xb, off + i * 11 + 5, none⟩ = some (.int .i64 b) ∧ W.cell? ⟨xb, off + i * 11 + 6, none⟩ = some (.int .i64 c) ∧ W.cell? ⟨xb, off + i * 11 + 7, none⟩ = some (.int .i64 d) ∧ W.cell? ⟨xb, off + i * 11 + 8, none⟩ = some (.int .i64 e) ∧ W.cell? ⟨xb, off + i * 11 + 9, none⟩ = some (.int .i64 g) ∧ W.cell? ⟨xb, off + i * 11 + 10, none⟩ = some (.int .i64 co)) := fun i hi => rdQ_cells hz (by rw [hzl]; exact hi)
  have HBO : Hid (∀ W, Below w.heap.size w W → Calls Tryz.prog 35 #[] W fun e w' => ∃ n, e = .returned (wv (boD n)) ∧ Ww w' (boD n) ∧ Below w.heap.size w w') := fun W hW => (bold_any W).mono fun e w' ⟨h1, h2, h3⟩ => ⟨_, h1, h2, hW.trans (h3.mono hW.size)⟩
  have HN : Hid (∀ n W, Ww W (boD n) → Calls Tryz.prog 11 #[.agg #[.slice (boD n).pa (boD n).ps.length (boD n).pc, .slice (boD n).fa (boD n).fs.length (boD n).fc, .int .i64 (boD n).en], .int .i64 0] W fun en w' => ∃ Z, en = .returned (.tuple #[.pointer (some ⟨Z.nb, 0, none⟩), .int .i64 0]) ∧ Ps W n 0 Z 0 2 0 w') := fun n W h => (bo_new W n h).mono fun en w' ⟨Z, T, he, hp⟩ => ⟨Z, he, Ps.start hp⟩
  have HSH : Hid (∀ W, Calls Tryz.prog 10 #[] W fun e w' => e = .returned (.bool true) ∧ Below W.heap.size W w') := fun W => shown_any W
  clear hz hlong SH hzl
  go_enter Tryz.func6, Tryz.ntmps6
  go_wp2_with (first
    | (go_at_call 10; refine (Hid.out HSH _).mono ?_; rintro e w1 ⟨rfl, hb⟩; have HB : Hid (Below w.heap.size w w1) := hb; clear hb)
    | (go_at_call 35; refine (Hid.out HBO _ (Hid.out HB)).mono ?_; rintro e w2 ⟨n, rfl, hw, hb⟩; have HW2 : Hid (Ww w2 (boD n)) := hw; have HB2 : Hid (Below w.heap.size w w2) := hb; clear hw hb HBO)
    | (go_at_call 11; refine (Hid.out HN _ _ (Hid.out HW2)).mono ?_; rintro e w3 ⟨Z, rfl, h2⟩; have HE : Hid (Ps w2 n 0 Z 0 2 0 w3) := h2; clear h2 HN))
  have HPRO : Hid (∀ i fl P L W, Ps w2 n i Z fl P L W → Calls Tryz.prog 29 #[.pointer (some ⟨Z.nb, 0, none⟩)] W fun e w' => e = .returned (.int .i64 P) ∧ Ps w2 n i Z fl P L w') := fun i fl P L W h => h.promise
  have HLOG : Hid (∀ i fl P L W, i ≤ 200 → Ps w2 n i Z fl P L W → Calls Tryz.prog 33 #[.pointer (some ⟨Z.nb, 0, none⟩)] W fun e w' => ∃ a c, e = .returned (.slice a L c) ∧ Ps w2 n i Z fl P L w') := fun i fl P L W hi h => (h.log hi).mono fun e w' ⟨a, c, he, _, g⟩ => ⟨a, c, he, g⟩
  have HBL : Hid (∀ {i fl P L W}, Ps w2 n i Z fl P L W → Below w.heap.size w W) := fun h => HB2.out.trans (h.bel.mono HB2.out.size)
  go_loopw [5, 6, 7] (fun s5 s6 s7 wr => ∃ (i l L : Nat) (p P fl : Int), s5 = .int .i64 p ∧ s6 = .int .i64 l ∧ s7 = .int .i64 i ∧ i ≤ zl ∧ p ≤ P ∧ l ≤ L ∧ Hid (Ps w2 n i Z fl P L wr)) (fun _ _ s7 _ => zl - (intOf s7).toNat)
  case atStart => exact ⟨0, 0, 0, 0, 2, 0, rfl, rfl, rfl, Nat.zero_le _, by omega, Nat.le_refl _, HE.out⟩
  case round =>
    clear HE
    obtain ⟨i, l, L, p, P, fl, rfl, rfl, rfl, hi, hpP, hlL, HT⟩ := hrel
    by_cases hlt : i < zl
    · have hlt' : (i : Int) < (zl : Int) := by omega
      have hi200 : i + 1 ≤ 200 := by omega
      have hi201 : i ≤ 200 := by omega
      obtain ⟨k, fr, ti, ik, t, b, c, d, e, g, co, xb, off, rfl, hwf, hmw, hcs⟩ := HZ.out i hlt
      obtain ⟨c0, c1, c2, c3, c4, c5, c6, c7, c8, c9, c10⟩ := hcs _ (HBL.out HT.out)
      clear hcs
      obtain ⟨W1, hW1⟩ : ∃ W1, wr.alloc (.cells #[.int .i64 k, .int .i64 fr, .int .i64 ti, .int .i64 ik, .int .i64 t, .int .i64 b, .int .i64 c, .int .i64 d, .int .i64 e, .int .i64 g, .int .i64 co] 43) = W1 := ⟨_, rfl⟩
      obtain ⟨A, hA⟩ : ∃ A, wr.heap.size = A := ⟨_, rfl⟩
      have hb1 : Below wr.heap.size wr W1 := by rw [← hW1]; exact al _ _
      have bx1 : W1.heap[A]? = some (.cells #[.int .i64 k, .int .i64 fr, .int .i64 ti, .int .i64 ik, .int .i64 t, .int .i64 b, .int .i64 c, .int .i64 d, .int .i64 e, .int .i64 g, .int .i64 co] 43 (0, 0)) := by rw [← hW1, ← hA]; exact (MapKept.heap_alloc _ _).1
      have hsz : wr.heap.size < W1.heap.size := by rw [hA]; exact (Array.getElem?_eq_some_iff.1 bx1).1
      have u0 : W1.cell? ⟨A, 0, none⟩ = some (.int .i64 k) := cellN bx1 0
      have u1 : W1.cell? ⟨A, 1, none⟩ = some (.int .i64 fr) := cellN bx1 1
      have u2 : W1.cell? ⟨A, 2, none⟩ = some (.int .i64 ti) := cellN bx1 2
      have u3 : W1.cell? ⟨A, 3, none⟩ = some (.int .i64 ik) := cellN bx1 3
      have u4 : W1.cell? ⟨A, 4, none⟩ = some (.int .i64 t) := cellN bx1 4
      have u5 : W1.cell? ⟨A, 5, none⟩ = some (.int .i64 b) := cellN bx1 5
      have u6 : W1.cell? ⟨A, 6, none⟩ = some (.int .i64 c) := cellN bx1 6
      have u7 : W1.cell? ⟨A, 7, none⟩ = some (.int .i64 d) := cellN bx1 7
      have u8 : W1.cell? ⟨A, 8, none⟩ = some (.int .i64 e) := cellN bx1 8
      have u9 : W1.cell? ⟨A, 9, none⟩ = some (.int .i64 g) := cellN bx1 9
      have u10 : W1.cell? ⟨A, 10, none⟩ = some (.int .i64 co) := cellN bx1 10
      have HT1 : Hid (Pa w2 n i Z fl P L A W1) := by rw [← hA]; exact HT.out.at hb1 hsz
      clear hb1 bx1 hsz HT
      by_cases k0 : k = 0
      · have dk0 : (k == 0) = true := by simpa using k0
        clear k0
        have HH := HT1.out.hear fr ik co t b c d e g hwf hmw
        have HU : Hid (W1.cell? ⟨A, 3, none⟩ = some (.int .i64 ik) ∧ W1.cell? ⟨A, 4, none⟩ = some (.int .i64 t)) := ⟨u3, u4⟩
        go_wp2_with (go_at_call 13; refine HH.mono ?_; rintro en w5 ⟨u, E, fl2, P2, L2, rfl, q1, q2, q3, h5, q6⟩; have HE4 : Hid (Pa w2 n (i + 1) Z fl2 P2 L2 A w5) := h5; have HQ1 : Hid (E = 0 → ik ≠ 2 → ¬ t < fl2) := q1; have HQ6 : Hid (∀ o, w5.cell? ⟨A, o, none⟩ = W1.cell? ⟨A, o, none⟩) := q6; clear h5 q1 q6 HH HT1)
        have v3 : w5.cell? ⟨A, 3, none⟩ = some (.int .i64 ik) := (HQ6.out 3).trans HU.out.1
        have v4 : w5.cell? ⟨A, 4, none⟩ = some (.int .i64 t) := (HQ6.out 4).trans HU.out.2
        have HFL : ∀ q, Calls Tryz.prog 23 #[.pointer (some ⟨Z.nb, 0, none⟩)] (w5.drewN q) fun e w' => e = .returned (.int .i64 fl2) ∧ w' = w5.drewN q := fun q => (HE4.out.on (below_drewN _ _ _)).floor.mono fun e w' h => ⟨h.1, h.2.symm⟩
        clear u0 u1 u2 u3 u4 u5 u6 u7 u8 u9 u10 c0 c1 c2 c3 c4 c5 c6 c7 c8 c9 c10 hW1 hA HU HQ6
        by_cases hE : E = 0
        · have dE : (E == 0) = true := by simpa using hE
          by_cases hk : ik = 2
          · have dk : (ik == 2) = true := by simpa using hk
            have dk2 : (ik != 2) = false := by simpa using hk
            clear hE hk
            go_quiet (fail)
            generalize hwq : World.drewN _ _ = wq
            have HE50 : Hid (Ps w2 n (i + 1) Z fl2 P2 L2 wq) := by rw [← hwq]; exact HE4.out.ps.on (below_drewN _ _ _)
            clear hwq
            have hnp : ¬ P2 < p := by omega
            have hnl : ¬ (L2 : Int) < (l : Int) := by omega
            have HE5 := HE50
            go_wp2_with (first
              | (go_at_call 29; refine (Hid.out HPRO _ _ _ _ _ (Hid.out HE5)).mono ?_; rintro en w6 ⟨rfl, h6⟩; have HE6 : Hid (Ps w2 n (i + 1) Z fl2 P2 L2 w6) := h6; clear h6 HE5)
              | (go_at_call 33; refine (Hid.out HLOG _ _ _ _ _ hi200 (Hid.out HE6)).mono ?_; rintro en w7 ⟨a7, c7, rfl, h7⟩; have HE7 : Hid (Ps w2 n (i + 1) Z fl2 P2 L2 w7) := h7; clear h7 HE6)
              | (go_at_call 29; refine (Hid.out HPRO _ _ _ _ _ (Hid.out HE7)).mono ?_; rintro en w8 ⟨rfl, h8⟩; have HE8 : Hid (Ps w2 n (i + 1) Z fl2 P2 L2 w8) := h8; clear h8 HE7)
              | (go_at_call 33; refine (Hid.out HLOG _ _ _ _ _ hi200 (Hid.out HE8)).mono ?_; rintro en w9 ⟨a9, c9, rfl, h9⟩; have HE9 : Hid (Ps w2 n (i + 1) Z fl2 P2 L2 w9) := h9; clear h9 HE8))
            go_roundw
            case rel => exact ⟨i + 1, L2, L2, P2, P2, fl2, rfl, rfl, by go_num, by omega, Int.le_refl _, Nat.le_refl _, HE9.out⟩
            case measure => simp [intOf]; omega
          · have dk : (ik == 2) = false := by simpa using hk
            have dk2 : (ik != 2) = true := by simpa using hk
            have hnf := HQ1.out hE hk
            clear hE hk
            go_quiet (first | (go_at_call 23; refine Calls.quiet_of_same (HFL _)))
            generalize hwq : World.drewN _ _ = wq
            have HE50 : Hid (Ps w2 n (i + 1) Z fl2 P2 L2 wq) := by rw [← hwq]; exact HE4.out.ps.on (below_drewN _ _ _)
            clear hwq
            have hnp : ¬ P2 < p := by omega
            have hnl : ¬ (L2 : Int) < (l : Int) := by omega
            have HE5 := HE50
            go_wp2_with (first
              | (go_at_call 29; refine (Hid.out HPRO _ _ _ _ _ (Hid.out HE5)).mono ?_; rintro en w6 ⟨rfl, h6⟩; have HE6 : Hid (Ps w2 n (i + 1) Z fl2 P2 L2 w6) := h6; clear h6 HE5)
              | (go_at_call 33; refine (Hid.out HLOG _ _ _ _ _ hi200 (Hid.out HE6)).mono ?_; rintro en w7 ⟨a7, c7, rfl, h7⟩; have HE7 : Hid (Ps w2 n (i + 1) Z fl2 P2 L2 w7) := h7; clear h7 HE6)
              | (go_at_call 29; refine (Hid.out HPRO _ _ _ _ _ (Hid.out HE7)).mono ?_; rintro en w8 ⟨rfl, h8⟩; have HE8 : Hid (Ps w2 n (i + 1) Z fl2 P2 L2 w8) := h8; clear h8 HE7)
              | (go_at_call 33; refine (Hid.out HLOG _ _ _ _ _ hi200 (Hid.out HE8)).mono ?_; rintro en w9 ⟨a9, c9, rfl, h9⟩; have HE9 : Hid (Ps w2 n (i + 1) Z fl2 P2 L2 w9) := h9; clear h9 HE8))
            go_roundw
            case rel => exact ⟨i + 1, L2, L2, P2, P2, fl2, rfl, rfl, by go_num, by omega, Int.le_refl _, Nat.le_refl _, HE9.out⟩
            case measure => simp [intOf]; omega
        · have dE : (E == 0) = false := by simpa using hE
          clear hE
          go_quiet (fail)
          generalize hwq : World.drewN _ _ = wq
          have HE50 : Hid (Ps w2 n (i + 1) Z fl2 P2 L2 wq) := by rw [← hwq]; exact HE4.out.ps.on (below_drewN _ _ _)
          clear hwq
          have hnp : ¬ P2 < p := by omega
          have hnl : ¬ (L2 : Int) < (l : Int) := by omega
          have HE5 := HE50
          go_wp2_with (first
            | (go_at_call 29; refine (Hid.out HPRO _ _ _ _ _ (Hid.out HE5)).mono ?_; rintro en w6 ⟨rfl, h6⟩; have HE6 : Hid (Ps w2 n (i + 1) Z fl2 P2 L2 w6) := h6; clear h6 HE5)
            | (go_at_call 33; refine (Hid.out HLOG _ _ _ _ _ hi200 (Hid.out HE6)).mono ?_; rintro en w7 ⟨a7, c7, rfl, h7⟩; have HE7 : Hid (Ps w2 n (i + 1) Z fl2 P2 L2 w7) := h7; clear h7 HE6)
            | (go_at_call 29; refine (Hid.out HPRO _ _ _ _ _ (Hid.out HE7)).mono ?_; rintro en w8 ⟨rfl, h8⟩; have HE8 : Hid (Ps w2 n (i + 1) Z fl2 P2 L2 w8) := h8; clear h8 HE7)
            | (go_at_call 33; refine (Hid.out HLOG _ _ _ _ _ hi200 (Hid.out HE8)).mono ?_; rintro en w9 ⟨a9, c9, rfl, h9⟩; have HE9 : Hid (Ps w2 n (i + 1) Z fl2 P2 L2 w9) := h9; clear h9 HE8))
          go_roundw
          case rel => exact ⟨i + 1, L2, L2, P2, P2, fl2, rfl, rfl, by go_num, by omega, Int.le_refl _, Nat.le_refl _, HE9.out⟩
          case measure => simp [intOf]; omega
      · have dk0 : (k == 0) = false := by simpa using k0
        by_cases k1 : k = 1
        · have dk1 : (k == 1) = true := by simpa using k1
          clear k0 k1
          have HH := HT1.out.step hi201
          go_wp2_with (go_at_call 16; refine HH.mono ?_; rintro en w5 ⟨u, fl2, P2, L2, rfl, q2, q3, h5⟩; have HE50 : Hid (Ps w2 n (i + 1) Z fl2 P2 L2 w5) := h5; clear h5 HH HT1)
          have hnp : ¬ P2 < p := by omega
          have hnl : ¬ (L2 : Int) < (l : Int) := by omega
          have HE5 := HE50
          go_wp2_with (first
            | (go_at_call 29; refine (Hid.out HPRO _ _ _ _ _ (Hid.out HE5)).mono ?_; rintro en w6 ⟨rfl, h6⟩; have HE6 : Hid (Ps w2 n (i + 1) Z fl2 P2 L2 w6) := h6; clear h6 HE5)
            | (go_at_call 33; refine (Hid.out HLOG _ _ _ _ _ hi200 (Hid.out HE6)).mono ?_; rintro en w7 ⟨a7, c7, rfl, h7⟩; have HE7 : Hid (Ps w2 n (i + 1) Z fl2 P2 L2 w7) := h7; clear h7 HE6)
            | (go_at_call 29; refine (Hid.out HPRO _ _ _ _ _ (Hid.out HE7)).mono ?_; rintro en w8 ⟨rfl, h8⟩; have HE8 : Hid (Ps w2 n (i + 1) Z fl2 P2 L2 w8) := h8; clear h8 HE7)
            | (go_at_call 33; refine (Hid.out HLOG _ _ _ _ _ hi200 (Hid.out HE8)).mono ?_; rintro en w9 ⟨a9, c9, rfl, h9⟩; have HE9 : Hid (Ps w2 n (i + 1) Z fl2 P2 L2 w9) := h9; clear h9 HE8))
          go_roundw
          case rel => exact ⟨i + 1, L2, L2, P2, P2, fl2, rfl, rfl, by go_num, by omega, Int.le_refl _, Nat.le_refl _, HE9.out⟩
          case measure => simp [intOf]; omega
        · have dk1 : (k == 1) = false := by simpa using k1
          by_cases k2 : k = 2
          · have dk2 : (k == 2) = true := by simpa using k2
            clear k0 k1 k2
            have HH := HT1.out.commit ti hi201
            have HU : Hid (W1.cell? ⟨A, 2, none⟩ = some (.int .i64 ti)) := u2
            go_wp2_with (go_at_call 18; refine HH.mono ?_; rintro en w5 ⟨u, a2, n2, c2', E, fl2, P2, L2, rfl, hn2, q1, q0, q2, q3, h5, q6⟩; have HE4 : Hid (Pa w2 n (i + 1) Z fl2 P2 L2 A w5) := h5; have HQ1 : Hid (E = 0 → fl2 = ti) := q1; have HR : Hid (RdP P n2 w5 a2) := q0; have HQ6 : Hid (∀ o, w5.cell? ⟨A, o, none⟩ = W1.cell? ⟨A, o, none⟩) := q6; clear h5 q1 q6 q0 HH HT1)
            have v2 : w5.cell? ⟨A, 2, none⟩ = some (.int .i64 ti) := (HQ6.out 2).trans HU.out
            have HV2 : Hid (w5.cell? ⟨A, 2, none⟩ = some (.int .i64 ti)) := v2
            clear u0 u1 u2 u3 u4 u5 u6 u7 u8 u9 u10 c0 c1 c2 c3 c4 c5 c6 c7 c8 c9 c10 hW1 hA HU HQ6 v2
            go_loopw [14] (fun s14 wq => ∃ j : Nat, j ≤ n2 ∧ s14 = .int .i64 j ∧ Hid (wq = w5)) (fun s14 _ => n2 - (intOf s14).toNat)
            case atStart => exact ⟨0, Nat.zero_le _, rfl, rfl⟩
            case round =>
              obtain ⟨j, hj, rfl, HQ⟩ := hrel
              by_cases hjn : j < n2
              · have hj' : (j : Int) < (n2 : Int) := by omega
                obtain ⟨bb, oo, tt, rfl, hbb, hle, hc0, hc3⟩ := HR.out j hjn
                have hnt : ¬ tt < p := by omega
                rw [← HQ.out] at hc0 hc3 hbb
                go_wp2_with fail
                go_roundw
                case rel => exact ⟨j + 1, by omega, by go_num, HQ⟩
                case measure => simp [intOf]; omega
              · obtain rfl : j = n2 := by omega
                have HE41 : Hid (Pa w2 n (i + 1) Z fl2 P2 L2 A wr) := by rw [HQ.out]; exact HE4.out
                have v2 : wr.cell? ⟨A, 2, none⟩ = some (.int .i64 ti) := by rw [HQ.out]; exact HV2.out
                have HFL : ∀ q, Calls Tryz.prog 23 #[.pointer (some ⟨Z.nb, 0, none⟩)] (wr.drewN q) fun e w' => e = .returned (.int .i64 fl2) ∧ w' = wr.drewN q := fun q => (HE41.out.on (below_drewN _ _ _)).floor.mono fun e w' h => ⟨h.1, h.2.symm⟩
                by_cases hE : E = 0
                · have dE : (E == 0) = true := by simpa using hE
                  have hft := HQ1.out hE
                  have dft : (fl2 == ti) = true := by simpa using hft
                  have dft2 : (fl2 != ti) = false := by simpa using hft
                  clear hE hft
                  go_wp2_with fail
                  go_quiet (first | (go_at_call 23; refine Calls.quiet_of_same (HFL _)))
                  generalize hwq : World.drewN _ _ = wq
                  have HE50 : Hid (Ps w2 n (i + 1) Z fl2 P2 L2 wq) := by rw [← hwq]; exact HE41.out.ps.on (below_drewN _ _ _)
                  clear hwq
                  have hnp : ¬ P2 < p := by omega
                  have hnl : ¬ (L2 : Int) < (l : Int) := by omega
                  have HE5 := HE50
                  go_wp2_with (first
                    | (go_at_call 29; refine (Hid.out HPRO _ _ _ _ _ (Hid.out HE5)).mono ?_; rintro en w6 ⟨rfl, h6⟩; have HE6 : Hid (Ps w2 n (i + 1) Z fl2 P2 L2 w6) := h6; clear h6 HE5)
                    | (go_at_call 33; refine (Hid.out HLOG _ _ _ _ _ hi200 (Hid.out HE6)).mono ?_; rintro en w7 ⟨a7, c7, rfl, h7⟩; have HE7 : Hid (Ps w2 n (i + 1) Z fl2 P2 L2 w7) := h7; clear h7 HE6)
                    | (go_at_call 29; refine (Hid.out HPRO _ _ _ _ _ (Hid.out HE7)).mono ?_; rintro en w8 ⟨rfl, h8⟩; have HE8 : Hid (Ps w2 n (i + 1) Z fl2 P2 L2 w8) := h8; clear h8 HE7)
                    | (go_at_call 33; refine (Hid.out HLOG _ _ _ _ _ hi200 (Hid.out HE8)).mono ?_; rintro en w9 ⟨a9, c9, rfl, h9⟩; have HE9 : Hid (Ps w2 n (i + 1) Z fl2 P2 L2 w9) := h9; clear h9 HE8))
                  go_roundw
                  case rel => exact ⟨i + 1, L2, L2, P2, P2, fl2, rfl, rfl, by go_num, by omega, Int.le_refl _, Nat.le_refl _, HE9.out⟩
                  case measure => simp [intOf]; omega
                · have dE : (E == 0) = false := by simpa using hE
                  clear hE
                  go_wp2_with fail
                  go_quiet (fail)
                  generalize hwq : World.drewN _ _ = wq
                  have HE50 : Hid (Ps w2 n (i + 1) Z fl2 P2 L2 wq) := by rw [← hwq]; exact HE41.out.ps.on (below_drewN _ _ _)
                  clear hwq
                  have hnp : ¬ P2 < p := by omega
                  have hnl : ¬ (L2 : Int) < (l : Int) := by omega
                  have HE5 := HE50
                  go_wp2_with (first
                    | (go_at_call 29; refine (Hid.out HPRO _ _ _ _ _ (Hid.out HE5)).mono ?_; rintro en w6 ⟨rfl, h6⟩; have HE6 : Hid (Ps w2 n (i + 1) Z fl2 P2 L2 w6) := h6; clear h6 HE5)
                    | (go_at_call 33; refine (Hid.out HLOG _ _ _ _ _ hi200 (Hid.out HE6)).mono ?_; rintro en w7 ⟨a7, c7, rfl, h7⟩; have HE7 : Hid (Ps w2 n (i + 1) Z fl2 P2 L2 w7) := h7; clear h7 HE6)
                    | (go_at_call 29; refine (Hid.out HPRO _ _ _ _ _ (Hid.out HE7)).mono ?_; rintro en w8 ⟨rfl, h8⟩; have HE8 : Hid (Ps w2 n (i + 1) Z fl2 P2 L2 w8) := h8; clear h8 HE7)
                    | (go_at_call 33; refine (Hid.out HLOG _ _ _ _ _ hi200 (Hid.out HE8)).mono ?_; rintro en w9 ⟨a9, c9, rfl, h9⟩; have HE9 : Hid (Ps w2 n (i + 1) Z fl2 P2 L2 w9) := h9; clear h9 HE8))
                  go_roundw
                  case rel => exact ⟨i + 1, L2, L2, P2, P2, fl2, rfl, rfl, by go_num, by omega, Int.le_refl _, Nat.le_refl _, HE9.out⟩
                  case measure => simp [intOf]; omega
          · have dk2 : (k == 2) = false := by simpa using k2
            clear k0 k1 k2
            obtain ⟨fl2, P2, L2, hP2, hL2, HE50⟩ : ∃ fl2 P2 L2, P ≤ P2 ∧ L ≤ L2 ∧ Hid (Ps w2 n (i + 1) Z fl2 P2 L2 W1) := ⟨fl, P, L, Int.le_refl _, Nat.le_refl _, HT1.out.next⟩
            clear HT1
            have hnp : ¬ P2 < p := by omega
            have hnl : ¬ (L2 : Int) < (l : Int) := by omega
            have HE5 := HE50
            go_wp2_with (first
              | (go_at_call 29; refine (Hid.out HPRO _ _ _ _ _ (Hid.out HE5)).mono ?_; rintro en w6 ⟨rfl, h6⟩; have HE6 : Hid (Ps w2 n (i + 1) Z fl2 P2 L2 w6) := h6; clear h6 HE5)
              | (go_at_call 33; refine (Hid.out HLOG _ _ _ _ _ hi200 (Hid.out HE6)).mono ?_; rintro en w7 ⟨a7, c7, rfl, h7⟩; have HE7 : Hid (Ps w2 n (i + 1) Z fl2 P2 L2 w7) := h7; clear h7 HE6)
              | (go_at_call 29; refine (Hid.out HPRO _ _ _ _ _ (Hid.out HE7)).mono ?_; rintro en w8 ⟨rfl, h8⟩; have HE8 : Hid (Ps w2 n (i + 1) Z fl2 P2 L2 w8) := h8; clear h8 HE7)
              | (go_at_call 33; refine (Hid.out HLOG _ _ _ _ _ hi200 (Hid.out HE8)).mono ?_; rintro en w9 ⟨a9, c9, rfl, h9⟩; have HE9 : Hid (Ps w2 n (i + 1) Z fl2 P2 L2 w9) := h9; clear h9 HE8))
            go_roundw
            case rel => exact ⟨i + 1, L2, L2, P2, P2, fl2, rfl, rfl, by go_num, by omega, Int.le_refl _, Nat.le_refl _, HE9.out⟩
            case measure => simp [intOf]; omega
    · obtain rfl : i = zl := by omega
      have HLF := HT.out.log (by omega)
      have hL2 := HT.out.len
      clear HT
      go_wp2_with (go_at_call 33; refine HLF.mono ?_; rintro en w4 ⟨a4, c4, rfl, hr, h4⟩; have HE4 : Hid (Below w.heap.size w w4) := Hid.out HBL h4; have HR : Hid (RdL L w4 a4) := hr; clear hr h4 HLF)
      go_loopw [16] (fun s16 wq => ∃ j : Nat, s16 = .int .i64 (j + 1 : Nat) ∧ (j = 0 ∨ j + 1 ≤ L) ∧ Hid (Below w4.heap.size w4 wq)) (fun s16 _ => L - (intOf s16).toNat)
      case atStart => exact ⟨0, rfl, .inl rfl, Below.refl _ _⟩
      case round =>
        obtain ⟨j, rfl, hj, HBQ⟩ := hrel
        obtain ⟨j1, hj1⟩ : ∃ j1, j + 1 = j1 := ⟨_, rfl⟩
        rw [hj1] at hj ⊢
        by_cases hjl : j1 < L
        · have hjl' : (j1 : Int) < (L : Int) := by omega
          have hwj : IntKind.i64.wrap ((j1 : Int) - 1) = (j : Int) := by rw [IntKind.wrap_i64]; omega
          have hjl2 : j < L := by omega
          have hjl3 : (j : Int) < (L : Int) := by omega
          obtain ⟨bb, oo, t1, f1, s1, t2, f2, s2, v, rfl, hbb, hv, hv0, ⟨q0, q1, q2⟩, r0, r1, r2⟩ := (HR.out.below HBQ.out) j (by omega)
          rw [hj1] at r0 r1 r2
          have HC := fun W => Q.refg_any (t1, f1, s1) (t2, f2, s2) W
          rw [hv] at HC
          have X0 := fun n os => cell_grown (n := n) (os := os) (a := ⟨bb, oo + j * 7, none⟩) hbb q0
          have X1 := fun n os => cell_grown (n := n) (os := os) (a := ⟨bb, oo + j * 7 + 1, none⟩) hbb q1
          have X2 := fun n os => cell_grown (n := n) (os := os) (a := ⟨bb, oo + j * 7 + 2, none⟩) hbb q2
          have Y0 := fun n os => cell_grown (n := n) (os := os) (a := ⟨bb, oo + j1 * 7, none⟩) hbb r0
          have Y1 := fun n os => cell_grown (n := n) (os := os) (a := ⟨bb, oo + j1 * 7 + 1, none⟩) hbb r1
          have Y2 := fun n os => cell_grown (n := n) (os := os) (a := ⟨bb, oo + j1 * 7 + 2, none⟩) hbb r2
          have hv1 : ¬ 0 ≤ v := by omega
          have HJ : Hid (j + 1 = j1) := hj1
          clear q0 q1 q2 r0 r1 r2 hv hj1
          go_wp2_with fail
          go_quiet_grown (first | (go_at_call 40; refine Calls.grown_of (HC _)))
          generalize hwq : grow (World.drewN _ _) _ = wq
          have HBQ2 : Hid (Below w4.heap.size w4 wq) := by rw [← hwq]; exact Q.below_grown HBQ.out HBQ.out.size _ _
          clear hwq X0 X1 X2 Y0 Y1 Y2 HC
          go_wp2
          go_roundw
          case rel => exact ⟨j1, by go_num, .inr (by omega), HBQ2.out⟩
          case measure => simp [intOf]; omega
        · have hjl' : ¬ (j1 : Int) < (L : Int) := by omega
          clear hj1
          go_wp2_with fail
          go_ret
          exact ⟨rfl, HE4.out.trans (HBQ.out.mono HE4.out.size)⟩
end Go.Proofs.YtiaopafkfadmkaaGreat.V
