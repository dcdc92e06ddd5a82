/- Proved: the walk of LinkOrder. -/
import Derived.Test.YtkngokpildoljaaRwt
import Derived.Test.YtkngokpildoljaaWAp
namespace Go.Proofs.Ytkngokpildoljaa
open Go.RowKit Go.Shelf
set_option linter.unusedVariables false

def lenV : Value → Nat
  | .slice _ n _ => n
  | _ => 0
theorem snd_at {n r : Nat} {L : Ln} {a b : Int} (x : It) : sndL n r L a b x a b = if sndE n r L a b x = 0 then L a b ++ [x] else L a b := by
  unfold sndL
  split
  · rw [updL_at]
  · rfl
theorem head_tail {l : List It} (h : fstB l = true) : [nthT l 0] ++ l.tail = l := by
  cases l with
  | nil => simp [fstB] at h
  | cons x r => rfl
theorem no_head {l : List It} (h : fstB l = false) : l = [] := by
  cases l with
  | nil => rfl
  | cons x r => simp [fstB] at h

set_option maxRecDepth 100000 in
set_option maxHeartbeats 4000000 in
theorem order_walk (w : World) (sa : Option Addr) (sc : Nat) (z : List St) (p q : Int) (hz : RdS w sa z) (hn : z.length ≤ maxLen) (hp : 0 ≤ p ∧ p ≤ 255) (hq : 0 ≤ q ∧ q ≤ 255) :
    Calls Try.prog 4 #[.slice sa z.length sc, .int .u8 p, .int .u8 q] w fun e w' => e = .returned (.bool true) ∧ Below w.heap.size w w' := by
  by_cases hlong : 200 < z.length
  · have hl' : (200 : Int) < (z.length : Int) := by omega
    unfold maxLen at hn
    clear hz
    go_enter Try.func4, Try.ntmps4
    go_wp2
    go_ret
    exact ⟨rfl, Below.refl _ _⟩
  have hz2 : z.length ≤ 200 := by omega
  have hl' : ¬ (200 : Int) < (z.length : Int) := by omega
  obtain ⟨kp, rfl⟩ := Int.eq_ofNat_of_zero_le hp.1
  obtain ⟨kq, rfl⟩ := Int.eq_ofNat_of_zero_le hq.1
  have hp2 : (kp : Int) ≤ 255 := hp.2
  have hq2 : (kq : Int) ≤ 255 := hq.2
  obtain ⟨f, hf⟩ : ∃ f, (kp : Int) % 8 = f := ⟨_, rfl⟩
  obtain ⟨g, hg⟩ : ∃ g, (kq : Int) % 7 = g := ⟨_, rfl⟩
  obtain ⟨t, ht⟩ : ∃ t, (f + 1 + g) % 8 = t := ⟨_, rfl⟩
  have hf1 : 0 ≤ f := by omega
  have hf2 : f < 8 := by omega
  have hg1 : 0 ≤ g := by omega
  have hg2 : g < 7 := by omega
  have hil : isL 8 f t = true := (isL_iff 8 f t).2 ⟨⟨by omega, by omega⟩, ⟨by omega, by omega⟩, by omega⟩
  obtain ⟨B, hB⟩ : ∃ B, w.heap.size = B := ⟨_, rfl⟩
  have NW : Calls Try.prog 8 #[.int .i64 8, .int .i64 16] w fun e w' => e = .returned (.tuple #[.pointer (some ⟨B, 0, none⟩), .int .i64 0]) ∧ N1 w w' 8 16 noL B := by
    rw [← hB]
    exact (new_ok w 8 16 (by omega) (by omega) (by omega) (by omega)).mono fun e w' ⟨he, h1, h2⟩ => ⟨he, h1, Nat.le_refl _, h2⟩
  have HZ : Hid _ := hz
  have HIL : Hid _ := hil
  clear hp hq hB hz hn hlong hil
  go_enter Try.func4, Try.ntmps4
  go_wp2_with (go_at_call 8; refine NW.mono ?_; rintro e w1 ⟨rfl, h1⟩; have H1 : Hid _ := h1; clear h1 NW)
  simp only [hf, hg, ht]
  clear hf hg ht hg1 hg2 hf1 hf2
  have HB0 : Hid (Bd w ((w1.alloc (.cells #[] 35)).alloc (.cells #[] 35)) 8 16 noL B (.slice (some ⟨w1.heap.size, 0, none⟩) 0 0) [] (.slice (some ⟨w1.heap.size + 1, 0, none⟩) 0 0) []) := by
    have h1 := H1.out
    have hlt := h1.net.lt
    have hsz := h1.bel.size
    have b2 := RwT.empty w.heap.size (w1.alloc (.cells #[] 35)) (by simp; omega)
    simp only [World.size_alloc] at b2
    exact ⟨(h1.on (al _ _)).on (al _ _), (RwT.empty w.heap.size w1 hsz).below (al _ _), b2, by simp [Value.ownBlock]; omega, by simp [Value.ownBlock]; omega, by simp [Value.ownBlock]⟩
  obtain ⟨W0, hW0⟩ : ∃ W0, (w1.alloc (.cells #[] 35)).alloc (.cells #[] 35) = W0 := ⟨_, rfl⟩
  rw [hW0] at HB0 ⊢
  clear hW0 H1
  go_loopw [11, 12, 13] (fun s11 s12 s13 wr => ∃ (i : Nat) (L : Ln) (l1 l2 : List It), s13 = .int .i64 i ∧ i ≤ z.length ∧ Hid (l1.length ≤ i) ∧ Hid (l1 = l2 ++ L f t) ∧ Hid (Bd w wr 8 16 L B s11 l1 s12 l2)) (fun _ _ s13 _ => z.length - (intOf s13).toNat)
  case atStart => exact ⟨0, noL, [], [], rfl, Nat.zero_le _, Nat.le_refl _, rfl, HB0.out⟩
  case round =>
    obtain ⟨i, L, l1, l2, rfl, hi, HLI, HE, HN⟩ := hrel
    by_cases hlt : i < z.length
    · have hlt' : (i : Int) < (z.length : Int) := by omega
      obtain ⟨b, off, rfl, hb, hcs⟩ := RdS.cells HZ.out hlt
      obtain ⟨c0, c1, c2, c3, c4, c5, c6, c7, c8, c9, c10⟩ := hcs _ HN.out.net.bel
      obtain ⟨s, hs⟩ : ∃ s, nthS z i = s := ⟨_, rfl⟩
      simp only [hs] at c0 c1 c2 c3 c4 c5 c6 c7 c8 c9 c10
      have hBl := HN.out.net.net.lt
      have HX : Hid _ := BoxS.new wr s
      have HM : Hid _ := HN.out.on (al wr (.cells (scs s) 37))
      obtain ⟨e0, e1, e2, e3, e4, e5, e6, e7, e8, e9, e10⟩ := HX.out.cells
      clear hcs hs
      have hdec : (s.a = f ∧ s.b = t) ∨ ((s.a == f) = false ∧ ¬ (f = s.a ∧ t = s.b)) ∨ ((s.a == f) = true ∧ (s.b == t) = false ∧ ¬ (f = s.a ∧ t = s.b)) := by
        by_cases h1 : s.a = f
        · by_cases h2 : s.b = t
          · exact .inl ⟨h1, h2⟩
          · exact .inr (.inr ⟨by simpa using h1, by simpa using h2, fun g => h2 g.2.symm⟩)
        · exact .inr (.inl ⟨by simpa using h1, fun g => h1 g.1.symm⟩)
      by_cases hk0 : s.k = 0
      · have dk0 : (s.k == 0) = true := by simpa using hk0
        clear hk0
        have SX := Bd.send HM.out s.a s.b s.x
        by_cases hge : sndE 8 16 L s.a s.b s.x = 0
        · rw [hge] at SX
          rcases hdec with hm | hno
          · have d1 : (s.a == f) = true := by simpa using hm.1
            have d2 : (s.b == t) = true := by simpa using hm.2
            obtain ⟨L', hL'⟩ : ∃ L', sndL 8 16 L s.a s.b s.x = L' := ⟨_, rfl⟩
            have HEE : Hid (l1 ++ [s.x] = l2 ++ L' f t) := by
              show _ = _
              rw [← hL', ← hm.1, ← hm.2, snd_at, if_pos hge, ← List.append_assoc]
              congr 1
              rw [hm.1, hm.2]; exact HE.out
            rw [hL'] at SX
            clear hge hL' hm HE
            go_wp2_with (first | (go_at_call 10; refine SX.mono ?_; rintro e w3 ⟨rfl, h3, f3⟩; have bx := HX.out.keep f3 (by omega); clear e0 e1 e2 e3 e4 e5 e6 e7 e8 e9 e10; obtain ⟨e0, e1, e2, e3, e4, e5, e6, e7, e8, e9, e10⟩ := bx.cells; obtain ⟨a', c', w4, hrun, h4, _⟩ := (h3.on (al w3 (.cells (ics s.x) 35))).push1 (BoxT.new w3 s.x) (by have := HLI.out; omega) 45; have H4 : Hid _ := h4; clear h3 f3 h4 SX bx) | (at_builtin; refine wpList_append_run _ rfl _ _ 45 rfl rfl rfl hrun ?_))
            go_roundw
            case rel => exact ⟨i + 1, L', l1 ++ [s.x], l2, by go_num, by omega, by have := HLI.out; show _ ≤ _; simp; omega, HEE.out, H4.out⟩
            case measure => simp [intOf]; omega
          · have hoo : ¬ (f = s.a ∧ t = s.b) := by rcases hno with h | h; exact h.2; exact h.2.2
            have HEE : Hid (l1 = l2 ++ sndL 8 16 L s.a s.b s.x f t) := by
              show _ = _
              rw [snd_other s.x hoo]; exact HE.out
            obtain ⟨L', hL'⟩ : ∃ L', sndL 8 16 L s.a s.b s.x = L' := ⟨_, rfl⟩
            rw [hL'] at SX HEE
            clear hge hL' hoo HE
            rcases hno with ⟨d1, _⟩ | ⟨d1, d2, _⟩
            · go_wp2_with (go_at_call 10; refine SX.mono ?_; rintro e w3 ⟨rfl, h3, f3⟩; have bx := HX.out.keep f3 (by omega); clear e0 e1 e2 e3 e4 e5 e6 e7 e8 e9 e10; obtain ⟨e0, e1, e2, e3, e4, e5, e6, e7, e8, e9, e10⟩ := bx.cells; have H3 : Hid _ := h3; clear h3 f3 SX bx)
              go_roundw
              case rel => exact ⟨i + 1, L', l1, l2, by go_num, by omega, by have := HLI.out; show _ ≤ _; omega, HEE.out, H3.out⟩
              case measure => simp [intOf]; omega
            · go_wp2_with (go_at_call 10; refine SX.mono ?_; rintro e w3 ⟨rfl, h3, f3⟩; have bx := HX.out.keep f3 (by omega); clear e0 e1 e2 e3 e4 e5 e6 e7 e8 e9 e10; obtain ⟨e0, e1, e2, e3, e4, e5, e6, e7, e8, e9, e10⟩ := bx.cells; have H3 : Hid _ := h3; clear h3 f3 SX bx)
              go_roundw
              case rel => exact ⟨i + 1, L', l1, l2, by go_num, by omega, by have := HLI.out; show _ ≤ _; omega, HEE.out, H3.out⟩
              case measure => simp [intOf]; omega
        · have hL' : sndL 8 16 L s.a s.b s.x = L := by unfold sndL; rw [if_neg hge]
          rw [hL'] at SX
          obtain ⟨g, hg⟩ : ∃ g, sndE 8 16 L s.a s.b s.x = g := ⟨_, rfl⟩
          rw [hg] at SX hge
          have dg : (g == 0) = false := by simpa using hge
          clear hge hg hL' hdec
          go_wp2_with (go_at_call 10; refine SX.mono ?_; rintro e w3 ⟨rfl, h3, f3⟩; have H3 : Hid _ := h3; clear h3 f3 SX)
          go_roundw
          case rel => exact ⟨i + 1, L, l1, l2, by go_num, by omega, by have := HLI.out; show _ ≤ _; omega, HE.out, H3.out⟩
          case measure => simp [intOf]; omega
      · have dk0 : (s.k == 0) = false := by simpa using hk0
        by_cases hk1 : s.k = 1
        · have dk1 : (s.k == 1) = true := by simpa using hk1
          clear hk0 hk1
          have SX := Bd.recv HM.out s.a s.b
          obtain ⟨u, hu⟩ : ∃ u, nthT (L s.a s.b) 0 = u := ⟨_, rfl⟩
          cases hv : fstB (L s.a s.b)
          · rw [hu, hv] at SX
            have HEE : Hid (l1 = l2 ++ rcvL L s.a s.b f t) := by
              show _ = _
              have e : rcvL L s.a s.b = L := by
                have e0 := no_head hv
                unfold rcvL
                rw [show (L s.a s.b).tail = L s.a s.b by rw [e0]; rfl, updL_self]
              rw [e]; exact HE.out
            obtain ⟨L', hL'⟩ : ∃ L', rcvL L s.a s.b = L' := ⟨_, rfl⟩
            rw [hL'] at SX HEE
            clear hu hv hL' hdec HE
            go_wp2_with (go_at_call 14; refine SX.mono ?_; rintro e w3 ⟨rfl, h3, f3⟩; have H3 : Hid _ := h3.on (al w3 (.cells (ics u) 35)); clear h3 f3 SX)
            go_roundw
            case rel => exact ⟨i + 1, L', l1, l2, by go_num, by omega, by have := HLI.out; show _ ≤ _; omega, HEE.out, H3.out⟩
            case measure => simp [intOf]; omega
          · rw [hu, hv] at SX
            rcases hdec with hm | hno
            · have d1 : (s.a == f) = true := by simpa using hm.1
              have d2 : (s.b == t) = true := by simpa using hm.2
              obtain ⟨L', hL'⟩ : ∃ L', rcvL L s.a s.b = L' := ⟨_, rfl⟩
              have HEE : Hid (l1 = (l2 ++ [u]) ++ L' f t) := by
                show _ = _
                rw [← hL', ← hm.1, ← hm.2, rcv_at, ← hu, List.append_assoc, head_tail hv, hm.1, hm.2]
                exact HE.out
              have hl2 : l2.length ≤ l1.length := by rw [HE.out]; simp
              have HL2 : Hid _ := hl2
              rw [hL'] at SX
              clear hu hv hL' hm HE hl2
              go_wp2_with (first | (go_at_call 14; refine SX.mono ?_; rintro e w3 ⟨rfl, h3, f3⟩; have bx := (HX.out.keep f3 (by omega)).below (al w3 (.cells (ics u) 35)); clear e0 e1 e2 e3 e4 e5 e6 e7 e8 e9 e10; obtain ⟨e0, e1, e2, e3, e4, e5, e6, e7, e8, e9, e10⟩ := bx.cells; obtain ⟨a', c', w4, hrun, h4, _⟩ := Bd.push2 ((h3.on (al w3 (.cells (ics u) 35))).on (al (w3.alloc (.cells (ics u) 35)) (.cells (ics u) 35))) (BoxT.new (w3.alloc (.cells (ics u) 35)) u) (by have := HLI.out; have := HL2.out; omega) 45; simp only [World.size_alloc] at hrun; have H4 : Hid _ := h4; clear h3 f3 h4 SX bx) | (at_builtin; refine wpList_append_run _ rfl _ _ 45 rfl rfl rfl hrun ?_))
              go_roundw
              case rel => exact ⟨i + 1, L', l1, l2 ++ [u], by go_num, by omega, by have := HLI.out; show _ ≤ _; omega, HEE.out, H4.out⟩
              case measure => simp [intOf]; omega
            · have hoo : ¬ (f = s.a ∧ t = s.b) := by rcases hno with h | h; exact h.2; exact h.2.2
              have HEE : Hid (l1 = l2 ++ rcvL L s.a s.b f t) := by
                show _ = _
                rw [rcv_other hoo]; exact HE.out
              obtain ⟨L', hL'⟩ : ∃ L', rcvL L s.a s.b = L' := ⟨_, rfl⟩
              rw [hL'] at SX HEE
              clear hu hv hL' hoo HE
              rcases hno with ⟨d1, _⟩ | ⟨d1, d2, _⟩
              · go_wp2_with (go_at_call 14; refine SX.mono ?_; rintro e w3 ⟨rfl, h3, f3⟩; have bx := (HX.out.keep f3 (by omega)).below (al w3 (.cells (ics u) 35)); clear e0 e1 e2 e3 e4 e5 e6 e7 e8 e9 e10; obtain ⟨e0, e1, e2, e3, e4, e5, e6, e7, e8, e9, e10⟩ := bx.cells; have H3 : Hid _ := h3.on (al w3 (.cells (ics u) 35)); clear h3 f3 SX bx)
                go_roundw
                case rel => exact ⟨i + 1, L', l1, l2, by go_num, by omega, by have := HLI.out; show _ ≤ _; omega, HEE.out, H3.out⟩
                case measure => simp [intOf]; omega
              · go_wp2_with (go_at_call 14; refine SX.mono ?_; rintro e w3 ⟨rfl, h3, f3⟩; have bx := (HX.out.keep f3 (by omega)).below (al w3 (.cells (ics u) 35)); clear e0 e1 e2 e3 e4 e5 e6 e7 e8 e9 e10; obtain ⟨e0, e1, e2, e3, e4, e5, e6, e7, e8, e9, e10⟩ := bx.cells; have H3 : Hid _ := h3.on (al w3 (.cells (ics u) 35)); clear h3 f3 SX bx)
                go_roundw
                case rel => exact ⟨i + 1, L', l1, l2, by go_num, by omega, by have := HLI.out; show _ ≤ _; omega, HEE.out, H3.out⟩
                case measure => simp [intOf]; omega
        · have dk1 : (s.k == 1) = false := by simpa using hk1
          clear hk0 hk1 hdec
          go_wp2
          go_roundw
          case rel => exact ⟨i + 1, L, l1, l2, by go_num, by omega, by have := HLI.out; show _ ≤ _; omega, HE.out, HM.out⟩
          case measure => simp [intOf]; omega
    · obtain rfl : i = z.length := by omega
      have hl1 : l1.length ≤ 200 := by have := HLI.out; omega
      obtain ⟨a1, cp1, rfl, _⟩ := HN.out.r1.rd
      have hl1' : (l1.length : Int) ≤ 200 := by omega
      go_wp2_with fail
      go_loopw [12] (fun s12 wr => ∃ (L : Ln) (l2 : List It), Hid (l1 = l2 ++ L f t) ∧ Hid (Bd w wr 8 16 L B (.slice a1 l1.length cp1) l1 s12 l2)) (fun s12 _ => l1.length - lenV s12)
      case atStart => exact ⟨L, l2, HE.out, HN.out⟩
      case round =>
        obtain ⟨L, l2, HE, HN⟩ := hrel
        obtain ⟨a2, cp2, rfl, _⟩ := HN.out.r2.rd
        have hll : l1.length = l2.length + (L f t).length := by have := congrArg List.length HE.out; simpa using this
        have LX := len_any HN.out.net.net f t
        by_cases hm : (L f t).length = 0
        · rw [hm] at LX
          have e0 : L f t = [] := List.eq_nil_of_length_eq_zero hm
          obtain rfl : l1 = l2 := by rw [HE.out, e0]; simp
          have hle : (l1.length : Int) ≤ (l1.length : Int) := Int.le_refl _
          have R1 : ∀ W, Bd w W 8 16 L B (.slice a1 l1.length cp1) l1 (.slice a2 l1.length cp2) l1 → Calls Try.prog 18 #[.pointer (some ⟨B, 0, none⟩), .int .i64 f, .int .i64 t] W fun e w' => e = .returned (.int .i64 16) ∧ Below w.heap.size w w' := fun W h => by
            have := room_any h.net.net f t
            have e : roomN 8 16 L f t = 16 := by unfold roomN; rw [if_pos HIL.out, e0]; rfl
            rw [e] at this
            exact this.mono fun e w' ⟨he, hb⟩ => ⟨he, Below.on h.net.bel hb⟩
          have HR1 : Hid _ := R1
          clear R1 e0 hm hll HE
          go_wp2_with (go_at_call 16; refine LX.mono ?_; rintro e w2 ⟨rfl, rfl⟩; clear LX)
          go_loopw [19] (fun s19 wr => ∃ (k : Nat), s19 = .int .i64 k ∧ k ≤ l1.length ∧ Hid (Bd w wr 8 16 L B (.slice a1 l1.length cp1) l1 (.slice a2 l1.length cp2) l1)) (fun s19 _ => l1.length - (intOf s19).toNat)
          case atStart => exact ⟨0, rfl, Nat.zero_le _, HN.out⟩
          case round =>
            obtain ⟨k, rfl, hk, HN⟩ := hrel
            by_cases hkl : k < l1.length
            · have hkl' : (k : Int) < (l1.length : Int) := by omega
              obtain ⟨x, hx⟩ : ∃ x, nthT l1 k = x := ⟨_, rfl⟩
              obtain ⟨q1, p1, q2, q3⟩ := HN.out.r1.rd
              obtain ⟨q4, p4, q5, q6⟩ := HN.out.r2.rd
              simp at q2 q5
              obtain ⟨rfl, rfl⟩ := q2
              obtain ⟨rfl, rfl⟩ := q5
              obtain ⟨b1, o1, rfl, hb1, x0, x1, x2, x3, x4, x5, x6, x7⟩ := q3.cells hkl hx
              obtain ⟨b2, o2, rfl, hb2, y0, y1, y2, y3, y4, y5, y6, y7⟩ := q6.cells hkl hx
              have hne : ∀ W, (binOp .neq 35 (iv x) (iv x)).run Try.prog W = .ok (.bool false) W := fun W => by rw [neqI, sameI_self]; rfl
              clear hx q3 q6
              go_wp2
              go_region
              go_wp2
              go_roundw
              case rel => exact ⟨k + 1, by go_num, by omega, HN.out.on ((Below.refl _ _).drew)⟩
              case measure => simp [intOf]; omega
            · obtain rfl : k = l1.length := by omega
              go_wp2_with (go_at_call 18; refine (Hid.out HR1 _ (Hid.out HN)).mono ?_; rintro e w5 ⟨rfl, h5⟩; have H5 : Hid _ := h5; clear h5 HR1)
              go_ret
              exact ⟨rfl, H5.out⟩
        · obtain ⟨u, hu⟩ : ∃ u, nthT (L f t) 0 = u := ⟨_, rfl⟩
          have hv : fstB (L f t) = true := by simp [fstB]; omega
          have SX : ∀ W, Bd w W 8 16 L B (.slice a1 l1.length cp1) l1 (.slice a2 l2.length cp2) l2 → _ := fun W h => Bd.recv h f t
          simp only [hu, hv] at SX
          have HSX : Hid _ := SX
          obtain ⟨L', hL'⟩ : ∃ L', rcvL L f t = L' := ⟨_, rfl⟩
          have HEE : Hid (l1 = (l2 ++ [u]) ++ L' f t) := by
            show _ = _
            rw [← hL', rcv_at, ← hu, List.append_assoc, head_tail hv]
            exact HE.out
          simp only [hL'] at HSX
          obtain ⟨m, hme⟩ : ∃ m, (L f t).length = m := ⟨_, rfl⟩
          rw [hme] at LX hm hll
          have hm' : (0 : Int) < (m : Int) := by omega
          have hle : (l2.length : Int) ≤ (l1.length : Int) := by omega
          have HL2 : Hid (l2.length ≤ 200 ∧ l2.length < l1.length) := by constructor <;> omega
          clear hu hv hL' HE SX hme hll hm
          go_wp2_with (first | (go_at_call 16; refine LX.mono ?_; rintro e w2 ⟨rfl, rfl⟩; clear LX) | (go_at_call 14; refine (Hid.out HSX _ (Hid.out HN)).mono ?_; rintro e w3 ⟨rfl, h3, f3⟩; obtain ⟨a', c', w4, hrun, h4, _⟩ := Bd.push2 ((h3.on (al w3 (.cells (ics u) 35))).on (al (w3.alloc (.cells (ics u) 35)) (.cells (ics u) 35))) (BoxT.new (w3.alloc (.cells (ics u) 35)) u) (by have := HL2.out; omega) 45; simp only [World.size_alloc] at hrun; have H4 : Hid _ := h4; have bz := BoxT.new w3 u; obtain ⟨y0, y1, y2, y3, y4, y5, y6, y7⟩ := bz.cells; clear h3 f3 h4 HSX bz) | (at_builtin; refine wpList_append_run _ rfl _ _ 45 rfl rfl rfl hrun ?_))
          go_roundw
          case rel => exact ⟨L', l2 ++ [u], HEE.out, H4.out⟩
          case measure => have := HL2.out; simp [lenV]; omega
end Go.Proofs.Ytkngokpildoljaa
