/- Proved: the walk of ClockLeast. -/
import Derived.Test.YtmhopjpbhdficaaStp
namespace Go.Proofs.Ytmhopjpbhdficaa
open Go.RowKit Go.Shelf
set_option linter.unusedVariables false

/-- Is one of the first k clocks at b? -/
def anyB (me : Nat) (c : Int → Int) (b : Int) : Nat → Bool
  | 0 => false
  | k + 1 => anyB me c b k || (decide (k ≠ me) && decide (c k = b))
theorem anyB_of {me : Nat} {c : Int → Int} {b : Int} : ∀ {k j : Nat}, j < k → j ≠ me → c j = b → anyB me c b k = true
  | k + 1, j, hj, hm, hc => by
    unfold anyB
    by_cases e : j = k
    · subst e; simp [hm, hc]
    · rw [anyB_of (k := k) (j := j) (by omega) hm hc]; rfl
theorem anyB_all {n me : Nat} {c : Int → Int} (hok : okC n me c) (h2 : 2 ≤ n) : anyB me c (bnd n me c) n = true := by
  rcases bndK_is me c n with e | ⟨j, h1, h2, h3⟩
  · change bnd n me c = _ at e
    obtain ⟨j, hj, hm⟩ : ∃ j : Nat, j < n ∧ j ≠ me := by
      by_cases g : me = 0
      · exact ⟨1, by omega, by omega⟩
      · exact ⟨0, by omega, by omega⟩
    have hc : isCl n me j = true := isCl_iff.2 ⟨by omega, by omega, by omega⟩
    have h4 := bnd_le (c := c) hc
    have h5 := okT_hi (hok j hc)
    exact anyB_of hj hm (by omega)
  · exact anyB_of h1 h2 h3.symm

set_option maxRecDepth 100000 in
set_option maxHeartbeats 4000000 in
theorem least_walk (w : World) (p q : Int) (sa : Option Addr) (sc : Nat) (z : List St) (hz : RdS w sa z) (hn : z.length ≤ maxLen) (hp : 0 ≤ p ∧ p ≤ 255) (hq : 0 ≤ q ∧ q ≤ 255) :
    Calls Try.prog 6 #[.int .u8 p, .int .u8 q, .slice sa z.length sc] w fun e w' => e = .returned (.bool true) ∧ Below w.heap.size w w' := by
  by_cases hlong : 200 < z.length
  · have hl' : (200 : Int) < (z.length : Int) := by omega
    unfold maxLen at hn
    clear hz
    go_enter Try.func6, Try.ntmps6
    go_wp2
    go_ret
    exact ⟨rfl, Below.refl _ _⟩
  have hz2 : z.length ≤ 200 := by omega
  have hl' : ¬ (200 : Int) < (z.length : Int) := by omega
  obtain ⟨kp, rfl⟩ := Int.eq_ofNat_of_zero_le hp.1
  obtain ⟨kq, rfl⟩ := Int.eq_ofNat_of_zero_le hq.1
  have hp2 : (kp : Int) ≤ 255 := hp.2
  have hq2 : (kq : Int) ≤ 255 := hq.2
  obtain ⟨K, hK⟩ : ∃ K : Nat, 2 + kp % 7 = K := ⟨_, rfl⟩
  have hK2 : 2 ≤ K := by omega
  have hK8 : K ≤ 8 := by omega
  have hKI : 2 + ((kp : Int) % 7) = (K : Int) := by omega
  obtain ⟨M, hM⟩ : ∃ M : Nat, kq % K = M := ⟨_, rfl⟩
  have hMK : M < K := by rw [← hM]; exact Nat.mod_lt _ (by omega)
  have hMI : (kq : Int) % (K : Int) = (M : Int) := by rw [← hM]; rfl
  have hK2' : (2 : Int) ≤ (K : Int) := by omega
  have hK8' : (K : Int) ≤ 8 := by omega
  have hMK' : (M : Int) < (K : Int) := by omega
  obtain ⟨b, hb⟩ : ∃ b, w.heap.size + 1 = b := ⟨_, rfl⟩
  obtain ⟨mb, hmb⟩ : ∃ mb, w.heap.size = mb := ⟨_, rfl⟩
  have NW : Calls Try.prog 8 #[.int .i64 K, .int .i64 M] w fun e w' => e = .returned (.tuple #[.pointer (some ⟨b, 0, none⟩), .int .i64 0]) ∧ P1 w w' K M noC 0 b mb := by
    rw [← hb, ← hmb]; exact P1.new w K M (by omega) (by omega) hMK
  have HZ : Hid _ := hz
  clear hz hn hlong hb hmb hp hq hK hM
  go_enter Try.func6, Try.ntmps6
  go_wp2_with (go_at_call 8; refine NW.mono ?_; rintro e w1 ⟨rfl, h1⟩; have H1 : Hid _ := h1; clear h1 NW)
  try simp only [hKI, hMI]
  clear hKI hMI
  go_loopw [11] (fun s11 wr => ∃ (i : Nat) (c : Int → Int), s11 = .int .i64 i ∧ i ≤ z.length ∧ Hid (P1 w wr K M c 0 b mb)) (fun s11 _ => z.length - (intOf s11).toNat)
  case atStart => exact ⟨0, noC, rfl, Nat.zero_le _, H1.out⟩
  case round =>
    obtain ⟨i, c, rfl, hi, HN⟩ := hrel
    by_cases hlt : i < z.length
    · have hlt' : (i : Int) < (z.length : Int) := by omega
      obtain ⟨hwa, xb, off, rfl, hxb, hcs⟩ := RdS.cells HZ.out hlt
      obtain ⟨c0, c1, c2⟩ := hcs _ HN.out.bel
      obtain ⟨s, hs⟩ : ∃ s, nthS z i = s := ⟨_, rfl⟩
      rw [hs] at hwa
      simp only [hs] at c0 c1 c2 hcs
      have HCS : Hid _ := hcs
      clear hcs hs
      by_cases hk0 : s.k = 0
      · have dk0 : (s.k == 0) = true := by simpa using hk0
        have SX : ∀ W, P1 w W K M c 0 b mb → _ := fun W h => P1.hear h s.a s.b hwa
        obtain ⟨g, hg⟩ : ∃ g, hrE K M c s.a s.b = g := ⟨_, rfl⟩
        obtain ⟨c', hc'⟩ : ∃ c', hrC K M c s.a s.b = c' := ⟨_, rfl⟩
        simp only [hg, hc'] at SX
        have HSX : Hid _ := SX
        clear hk0 SX hg hc'
        go_wp2
        go_region_held3 (fun w' => w'.cell? ⟨xb, off + i * 3 + 1, none⟩ = some (.int .i64 s.a) ∧ w'.cell? ⟨xb, off + i * 3 + 2, none⟩ = some (.int .i64 s.b)) (first | (go_keep; done) | exact Hid.out KEEP) (first | (go_at_call 10; refine (Hid.out HSX _ ((Hid.out HN).on ((Below.refl _ _).drew))).mono ?_; rintro e w3 ⟨rfl, h3⟩; have H3 : Hid _ := h3; have KEEP : Hid _ := (Hid.out HCS _ h3.bel).2; clear h3 HSX))
        go_wp2
        go_roundw
        case rel => exact ⟨i + 1, c', by go_num, by omega, H3.out⟩
        case measure => simp [intOf]; omega
      · have dk0 : (s.k == 0) = false := by simpa using hk0
        clear hk0
        go_wp2
        go_roundw
        case rel => exact ⟨i + 1, c, by go_num, by omega, HN.out⟩
        case measure => simp [intOf]; omega
    · obtain rfl : i = z.length := by omega
      obtain ⟨B, hB⟩ : ∃ B, bnd K M c = B := ⟨_, rfl⟩
      have HOK := HN.out.pc.ok
      have HAny : Hid (anyB M c B K = true) := by rw [← hB]; exact anyB_all HOK hK2
      have HLe : Hid (∀ j : Nat, j < K → j ≠ M → B ≤ c j) := fun j h1 h2 => by rw [← hB]; exact bnd_le (isCl_iff.2 ⟨by omega, by omega, by omega⟩)
      have BD : ∀ W, P1 w W K M c 0 b mb → _ := fun W h => P1.bound h
      simp only [hB] at BD
      have HBD : Hid _ := BD
      have HAT : Hid (∀ W (j : Nat), j < K → j ≠ M → P1 w W K M c 0 b mb → Calls Try.prog 14 #[.pointer (some ⟨b, 0, none⟩), .int .i64 (j : Int)] W fun e w' => e = .returned (.int .i64 (c j)) ∧ W = w') := fun W j h1 h2 h => by
        have := h.at j (wf_of (by omega) (by omega))
        have e : atC K M c j = c j := by unfold atC; rw [if_pos (isCl_iff.2 ⟨by omega, by omega, by omega⟩)]
        rwa [e] at this
      clear BD hB HOK
      go_wp2
      go_loopw [12, 13] (fun s12 s13 wr => ∃ j : Nat, s13 = .int .i64 j ∧ j ≤ K ∧ s12 = .bool (anyB M c B j) ∧ Hid (P1 w wr K M c 0 b mb)) (fun _ s13 _ => K - (intOf s13).toNat)
      case atStart => exact ⟨0, rfl, Nat.zero_le _, rfl, HN.out⟩
      case round =>
        obtain ⟨j, rfl, hj, rfl, HQ⟩ := hrel
        by_cases hjK : j < K
        · have hjK' : (j : Int) < (K : Int) := by omega
          obtain ⟨a, ha⟩ : ∃ a, anyB M c B j = a := ⟨_, rfl⟩
          by_cases hm : j = M
          · have d : ((j : Int) != (M : Int)) = false := by simp [hm]
            have hs : anyB M c B (j + 1) = a := by unfold anyB; rw [ha]; simp [hm]
            rw [ha]
            clear hm ha
            cases a
            · go_wp2
              go_roundw
              case rel => exact ⟨j + 1, by go_num, by omega, by rw [hs], HQ.out⟩
              case measure => simp [intOf]; omega
            · go_wp2
              go_roundw
              case rel => exact ⟨j + 1, by go_num, by omega, by rw [hs], HQ.out⟩
              case measure => simp [intOf]; omega
          · have d : ((j : Int) != (M : Int)) = true := by simp; omega
            have hs : anyB M c B (j + 1) = (a || decide (c j = B)) := by unfold anyB; rw [ha]; simp [hm]
            have AT := fun W => HAT.out W j hjK hm
            have hle := HLe.out j hjK hm
            rw [ha]
            obtain ⟨x, hx⟩ : ∃ x, c j = x := ⟨_, rfl⟩
            rw [hx] at hle hs
            simp only [hx] at AT
            have HATj : Hid _ := AT
            have hnlt : ¬ x < B := by omega
            clear AT hm ha hx hle
            cases a
            · by_cases hxB : x = B
              · have d2 : (x == B) = true := by simpa using hxB
                have hs2 : anyB M c B (j + 1) = true := by rw [hs]; simp [hxB]
                clear hs hxB
                go_wp2_with (first | (go_at_call 14; first | (refine (Hid.out HATj _ (Hid.out H3)).mono ?_; rintro e w5 ⟨rfl, rfl⟩; clear HATj) | (refine (Hid.out HATj _ (Hid.out HQ)).mono ?_; rintro e w2 ⟨rfl, rfl⟩)) | (go_at_call 16; first | (refine (Hid.out HBD _ (Hid.out H3)).mono ?_; rintro e w4 ⟨rfl, h4⟩; have H4 : Hid _ := h4; clear h4) | (refine (Hid.out HBD _ (Hid.out HQ)).mono ?_; rintro e w3 ⟨rfl, h3⟩; have H3 : Hid _ := h3; clear h3)))
                go_roundw
                case rel => exact ⟨j + 1, by go_num, by omega, by rw [hs2], H4.out⟩
                case measure => simp [intOf]; omega
              · have d2 : (x == B) = false := by simpa using hxB
                have hs2 : anyB M c B (j + 1) = false := by rw [hs]; simp [hxB]
                clear hs hxB
                go_wp2_with (first | (go_at_call 14; first | (refine (Hid.out HATj _ (Hid.out H3)).mono ?_; rintro e w5 ⟨rfl, rfl⟩; clear HATj) | (refine (Hid.out HATj _ (Hid.out HQ)).mono ?_; rintro e w2 ⟨rfl, rfl⟩)) | (go_at_call 16; first | (refine (Hid.out HBD _ (Hid.out H3)).mono ?_; rintro e w4 ⟨rfl, h4⟩; have H4 : Hid _ := h4; clear h4) | (refine (Hid.out HBD _ (Hid.out HQ)).mono ?_; rintro e w3 ⟨rfl, h3⟩; have H3 : Hid _ := h3; clear h3)))
                go_roundw
                case rel => exact ⟨j + 1, by go_num, by omega, by rw [hs2], H4.out⟩
                case measure => simp [intOf]; omega
            · have hs2 : anyB M c B (j + 1) = true := by rw [hs]; rfl
              clear hs
              go_wp2_with (first | (go_at_call 14; refine (Hid.out HATj _ (Hid.out HQ)).mono ?_; rintro e w2 ⟨rfl, rfl⟩) | (go_at_call 16; refine (Hid.out HBD _ (Hid.out HQ)).mono ?_; rintro e w3 ⟨rfl, h3⟩; have H3 : Hid _ := h3; clear h3))
              go_roundw
              case rel => exact ⟨j + 1, by go_num, by omega, by rw [hs2], H3.out⟩
              case measure => simp [intOf]; omega
        · obtain rfl : j = K := by omega
          rw [HAny.out]
          have hwM : wfI (M : Int) := wf_of (by omega) (by omega)
          have e1 : hrE j M c M 5 = 1 := by unfold hrE; rw [isCl_me, if_neg (by simp)]
          have e2 : hrC j M c M 5 = c := by unfold hrC; rw [e1, if_neg (by decide)]
          have e3 : atC j M c M = -1 := by unfold atC; rw [isCl_me, if_neg (by simp)]
          have HE := HQ.out.hear M 5 hwM
          have A2 : ∀ W, P1 w W j M c 0 b mb → _ := fun W h => P1.at h M hwM
          rw [e1, e2] at HE
          simp only [e3] at A2
          have HA2 : Hid _ := A2
          clear A2 e1 e2 e3 hwM
          go_wp2_with (first | (go_at_call 10; refine HE.mono ?_; rintro e w3 ⟨rfl, h3⟩; have H3 : Hid _ := h3; clear h3 HE) | (go_at_call 14; refine (Hid.out HA2 _ (Hid.out H3)).mono ?_; rintro e w4 ⟨rfl, rfl⟩))
          go_ret
          exact ⟨rfl, H3.out.bel⟩
end Go.Proofs.Ytmhopjpbhdficaa
