/- Proved: the walk of LinkScript. -/
import Derived.Test.YtkngokpildoljaaNd
import Derived.Test.YtkngokpildoljaaPrm
namespace Go.Proofs.Ytkngokpildoljaa
open Go.RowKit Go.Shelf
set_option linter.unusedVariables false

theorem len_any' {n room : Nat} {L : Ln} {B : Nat} {w : World} (h : Nt n room L B w) (a b : Int) :
    Calls Try.prog 16 #[.pointer (some ⟨B, 0, none⟩), .int .i64 a, .int .i64 b] w fun e w' => e = .returned (.int .i64 ((L a b).length : Nat)) ∧ Below w.heap.size w w' :=
  (len_any h a b).mono fun e w' ⟨he, hw⟩ => ⟨he, hw ▸ Below.refl _ _⟩
/-- All items may be. -/
def OkL (L : Ln) : Prop := ∀ a b, ∀ x ∈ L a b, okI x = true
theorem OkL.send {n r : Nat} {L : Ln} (h : OkL L) (a b : Int) (x : It) : OkL (sndL n r L a b x) := fun c d y hy => by
  by_cases e : c = a ∧ d = b
  · obtain ⟨rfl, rfl⟩ := e
    rw [snd_at] at hy
    split at hy
    · rename_i h0
      rcases List.mem_append.1 hy with g | g
      · exact h _ _ y g
      · simp at g
        subst g
        exact (itms_send h0).2
    · exact h _ _ y hy
  · rw [snd_other x e] at hy
    exact h _ _ y hy
theorem OkL.recv {L : Ln} (h : OkL L) (a b : Int) : OkL (rcvL L a b) := fun c d y hy => by
  by_cases e : c = a ∧ d = b
  · obtain ⟨rfl, rfl⟩ := e
    rw [rcv_at] at hy
    exact h _ _ y (List.mem_of_mem_tail hy)
  · rw [rcv_other e] at hy
    exact h _ _ y hy
theorem OkL.two {n : Nat} {L : Ln} (h : OkL L) : carr 2 (itms n L) = 0 := by
  unfold carr
  rw [List.length_eq_zero_iff, List.filter_eq_nil_iff]
  intro x hx
  unfold itms rowsF at hx
  obtain ⟨c, _, hx⟩ := List.mem_flatMap.1 hx
  unfold colsF at hx
  obtain ⟨d, _, hx⟩ := List.mem_flatMap.1 hx
  have := ok_co (h _ _ x hx)
  unfold isC
  rcases this with g | g <;> rw [g] <;> simp

set_option maxRecDepth 100000 in
set_option maxHeartbeats 24000000 in
theorem script_walk (w : World) (n0 r0 : Int) (sa : Option Addr) (sc : Nat) (z : List St) (hz : RdS w sa z) (hn : z.length ≤ maxLen) :
    Calls Try.prog 3 #[.int .i64 n0, .int .i64 r0, .slice sa z.length sc] w fun e w' => e = .returned (.bool true) ∧ Below w.heap.size w w' := by
  by_cases hlong : 200 < z.length
  · have hl' : (200 : Int) < (z.length : Int) := by omega
    unfold maxLen at hn
    clear hz
    go_enter Try.func3, Try.ntmps3
    go_wp2
    go_ret
    exact ⟨rfl, Below.refl _ _⟩
  have hz2 : z.length ≤ 200 := by omega
  have hl' : ¬ (200 : Int) < (z.length : Int) := by omega
  by_cases hok : (1 ≤ n0 ∧ n0 ≤ 8) ∧ 1 ≤ r0 ∧ r0 ≤ 16
  · obtain ⟨n, rfl⟩ := Int.eq_ofNat_of_zero_le (show 0 ≤ n0 by omega)
    obtain ⟨room, rfl⟩ := Int.eq_ofNat_of_zero_le (show 0 ≤ r0 by omega)
    obtain ⟨B, hB⟩ : ∃ B, w.heap.size = B := ⟨_, rfl⟩
    have NW : Calls Try.prog 8 #[.int .i64 (n : Int), .int .i64 (room : Int)] w fun e w' => e = .returned (.tuple #[.pointer (some ⟨B, 0, none⟩), .int .i64 0]) ∧ N1 w w' n room noL B := by
      rw [← hB]
      exact (new_ok w n room (by omega) (by omega) (by omega) (by omega)).mono fun e w' ⟨he, h1, h2⟩ => ⟨he, h1, Nat.le_refl _, h2⟩
    have NX : ∀ w1, N1 w w1 n room noL B → Calls Try.prog 9 #[.int .i64 (n : Int), .int .i64 (room : Int)] w1 fun e w' => e = .returned (.tuple #[.pointer (some ⟨w1.heap.size + 1, 0, none⟩), .int .i64 0]) ∧ ND w w' (fun _ => False) n room noL noL B (w1.heap.size + 1) w1.heap.size := fun w1 h1 =>
      (dnew_ok w1 n room (by omega) (by omega) (by omega) (by omega)).mono fun e w' ⟨he, h2, h3⟩ => ⟨he, ⟨_, h2, by have := h1.net.lt; omega, fun k hk => by have := h1.bel.size; omega, fun k g => g.elim⟩, h1.on h3, fun k g => g.elim⟩
    have HNX : Hid _ := NX
    have HZ : Hid _ := hz
    clear hB NX hz hn hlong hok
    go_enter Try.func3, Try.ntmps3
    go_wp2_with (first | (go_at_call 8; refine NW.mono ?_; rintro e w1 ⟨rfl, h1⟩; have H1 : Hid _ := h1; clear h1 NW) | (go_at_call 9; refine (Hid.out HNX _ (Hid.out H1)).mono ?_; rintro e w2 ⟨rfl, h2⟩; have H2 : Hid _ := h2; clear h2 HNX))
    obtain ⟨pu, hpu⟩ : ∃ pu, w1.heap.size = pu := ⟨_, rfl⟩
    simp only [hpu] at H2 ⊢
    obtain ⟨tb, htb⟩ : ∃ tb, pu + 1 = tb := ⟨_, rfl⟩
    simp only [htb] at H2 ⊢
    clear hpu htb
    go_loopw [11] (fun s11 wr => ∃ (i : Nat) (L : Ln), s11 = .int .i64 i ∧ i ≤ z.length ∧ Hid (OkL L) ∧ Hid (ND w wr (fun _ => False) n room L L B tb pu)) (fun s11 _ => z.length - (intOf s11).toNat)
    case atStart => exact ⟨0, noL, rfl, Nat.zero_le _, fun a b x hx => by simp [noL] at hx, H2.out⟩
    case round =>
      obtain ⟨i, L, rfl, hi, HOK, HN⟩ := hrel
      by_cases hlt : i < z.length
      · have hlt' : (i : Int) < (z.length : Int) := by omega
        obtain ⟨b, off, rfl, hb, hcs⟩ := RdS.cells HZ.out hlt
        obtain ⟨c0, c1, c2, c3, c4, c5, c6, c7, c8, c9, c10⟩ := hcs _ HN.out.x.bel
        obtain ⟨s, hs⟩ : ∃ s, nthS z i = s := ⟨_, rfl⟩
        simp only [hs] at c0 c1 c2 c3 c4 c5 c6 c7 c8 c9 c10
        have hBl := HN.out.x.net.lt
        have HX : Hid _ := BoxS.new wr s
        have HM : Hid _ := (HN.out.add (.cells (scs s) 37)).less (Z2 := fun k => k = wr.heap.size) (fun k e => .inr e)
        clear hcs hs
        by_cases hk0 : s.k = 0
        · have dk0 : (s.k == 0) = true := by simpa using hk0
          clear hk0
          obtain ⟨W0, hW0⟩ : ∃ W0, W0 = wr.alloc (.cells (scs s) 37) := ⟨_, rfl⟩
          rw [← hW0] at HX HM
          simp only [scs] at hW0
          obtain ⟨ob, hob⟩ : ∃ ob, wr.heap.size = ob := ⟨_, rfl⟩
          rw [hob] at HX HM
          have hobB : ob ≠ B := by omega
          have SX := ND.sendx HM.out s.a s.b s.x
          have SY : ∀ W, ND w W (fun k => k = ob) n room (sndL n room L s.a s.b s.x) L B tb pu → _ := fun W h => ND.sendy h s.a s.b s.x
          have HOK2 : Hid _ := OkL.send (n := n) (r := room) HOK.out s.a s.b s.x
          obtain ⟨g, hg⟩ : ∃ g, sndE n room L s.a s.b s.x = g := ⟨_, rfl⟩
          obtain ⟨L', hL'⟩ : ∃ L', sndL n room L s.a s.b s.x = L' := ⟨_, rfl⟩
          simp only [hg, hL'] at SX SY HOK2
          have HSX : Hid (∀ W, W = W0.drew → Calls Try.prog 10 #[.pointer (some ⟨B, 0, none⟩), .int .i64 s.a, .int .i64 s.b, iv s.x] W fun e w' => e = .returned (.int .i64 g) ∧ ND w w' (fun k => k = ob) n room L' L B tb pu ∧ BoxS w' ob s) := fun W hW => by
            have h := ND.sendx (HM.out.on ((Below.refl _ _).drew)) s.a s.b s.x
            simp only [hg, hL'] at h
            rw [hW]
            exact h.mono fun e w' ⟨he, hn, hf⟩ => ⟨he, hn, HX.out.drew.keep hf (fun k => k rfl)⟩
          have HSY : Hid (∀ W, ND w W (fun k => k = ob) n room L' L B tb pu → BoxS W ob s → Calls Try.prog 11 #[.pointer (some ⟨tb, 0, none⟩), .int .i64 s.a, .int .i64 s.b, iv s.x] W fun e w' => e = .returned (.int .i64 g) ∧ PV w ob s n room L' B tb pu w') := fun W h hb =>
            (SY W h).mono fun e w' ⟨he, hn, hf⟩ => ⟨he, hn, hb.keep hf (fun k => k rfl)⟩
          obtain ⟨e0, e1, e2, e3, e4, e5, e6, e7, e8, e9, e10⟩ := HX.out.cells
          clear SX SY hg hL' HOK
          have HOK : Hid _ := HOK2.out
          go_wp2
          rw [← hW0]
          try simp only [hob]
          clear hW0 hob HX HM HN hBl c0 c1 c2 c3 c4 c5 c6 c7 c8 c9 c10 HOK2
          go_region_held3 (fun w' => w'.cell? ⟨ob, 1, none⟩ = some (.int .i64 s.a) ∧ w'.cell? ⟨ob, 2, none⟩ = some (.int .i64 s.b) ∧ w'.cell? ⟨ob, 3, none⟩ = some (.int .i64 s.x.k) ∧ w'.cell? ⟨ob, 4, none⟩ = some (.int .i64 s.x.t) ∧ w'.cell? ⟨ob, 5, none⟩ = some (.int .i64 s.x.fr) ∧ w'.cell? ⟨ob, 6, none⟩ = some (.int .i64 s.x.sq) ∧ w'.cell? ⟨ob, 7, none⟩ = some (.int .i64 s.x.dst) ∧ w'.cell? ⟨ob, 8, none⟩ = some (.int .i64 s.x.cl) ∧ w'.cell? ⟨ob, 9, none⟩ = some (.int .i64 s.x.bd) ∧ w'.cell? ⟨ob, 10, none⟩ = some (.int .i64 s.x.co)) (first | (go_keep; done) | exact Hid.out KEEP) (first
            | (go_at_call 10; refine (Hid.out HSX _ rfl).mono ?_; rintro e w3 ⟨rfl, h3, b3⟩; have H3 : Hid _ := h3; have B3 : Hid _ := b3; have KEEP : Hid _ := b3.cells.2; clear h3 b3 HSX)
            | (go_at_call 11; refine (Hid.out HSY _ (Hid.out H3) (Hid.out B3)).mono ?_; rintro e w4 ⟨rfl, h4⟩; have HV : Hid _ := h4; have KEEP : Hid _ := h4.bx.cells.2; clear h4 HSY))
          clear KEEP e0 e1 e2 e3 e4 e5 e6 e7 e8 e9 e10
          go_wp2_with fail
          have G16 : Hid (∀ W, PV w ob s n room L' B tb pu W → Calls Try.prog 16 #[.pointer (some ⟨B, 0, none⟩), .int .i64 s.a, .int .i64 s.b] W fun e w' => e = .returned (.int .i64 ((((L' s.a s.b).length : Nat) : Int))) ∧ PV w ob s n room L' B tb pu w') := fun W hp => hp.readX (fun h => len_any' h s.a s.b)
          have G17 : Hid (∀ W, PV w ob s n room L' B tb pu W → Calls Try.prog 17 #[.pointer (some ⟨tb, 0, none⟩), .int .i64 s.a, .int .i64 s.b] W fun e w' => e = .returned (.int .i64 ((((L' s.a s.b).length : Nat) : Int))) ∧ PV w ob s n room L' B tb pu w') := fun W hp => hp.readD (fun F h => dlen_any h s.a s.b)
          have G18 : Hid (∀ W, PV w ob s n room L' B tb pu W → Calls Try.prog 18 #[.pointer (some ⟨B, 0, none⟩), .int .i64 s.a, .int .i64 s.b] W fun e w' => e = .returned (.int .i64 (roomN n room L' s.a s.b)) ∧ PV w ob s n room L' B tb pu w') := fun W hp => hp.readX (fun h => room_any h s.a s.b)
          have G19 : Hid (∀ W, PV w ob s n room L' B tb pu W → Calls Try.prog 19 #[.pointer (some ⟨tb, 0, none⟩), .int .i64 s.a, .int .i64 s.b] W fun e w' => e = .returned (.int .i64 (roomN n room L' s.a s.b)) ∧ PV w ob s n room L' B tb pu w') := fun W hp => hp.readD (fun F h => droom_any h s.a s.b)
          have G20 : Hid (∀ W, PV w ob s n room L' B tb pu W → Calls Try.prog 20 #[.pointer (some ⟨B, 0, none⟩)] W fun e w' => e = .returned (.int .i64 ((((itms n L').length : Nat) : Int))) ∧ PV w ob s n room L' B tb pu w') := fun W hp => hp.readX (fun h => all_any h)
          have G21 : Hid (∀ W, PV w ob s n room L' B tb pu W → Calls Try.prog 21 #[.pointer (some ⟨tb, 0, none⟩)] W fun e w' => e = .returned (.int .i64 ((((itms n L').length : Nat) : Int))) ∧ PV w ob s n room L' B tb pu w') := fun W hp => hp.readD (fun F h => dall_any h)
          have G22 : Hid (∀ W, PV w ob s n room L' B tb pu W → Calls Try.prog 22 #[.pointer (some ⟨B, 0, none⟩), .int .i64 0] W fun e w' => e = .returned (.int .i64 (((carr 0 (itms n L') : Nat) : Int))) ∧ PV w ob s n room L' B tb pu w') := fun W hp => hp.readX (fun h => carried_any h 0)
          have G23 : Hid (∀ W, PV w ob s n room L' B tb pu W → Calls Try.prog 23 #[.pointer (some ⟨tb, 0, none⟩), .int .i64 0] W fun e w' => e = .returned (.int .i64 (((carr 0 (itms n L') : Nat) : Int))) ∧ PV w ob s n room L' B tb pu w') := fun W hp => hp.readD (fun F h => dcarried_any h 0)
          have K22 : Hid (∀ W, PV w ob s n room L' B tb pu W → Calls Try.prog 22 #[.pointer (some ⟨B, 0, none⟩), .int .i64 1] W fun e w' => e = .returned (.int .i64 (((carr 1 (itms n L') : Nat) : Int))) ∧ PV w ob s n room L' B tb pu w') := fun W hp => hp.readX (fun h => carried_any h 1)
          have K23 : Hid (∀ W, PV w ob s n room L' B tb pu W → Calls Try.prog 23 #[.pointer (some ⟨tb, 0, none⟩), .int .i64 1] W fun e w' => e = .returned (.int .i64 (((carr 1 (itms n L') : Nat) : Int))) ∧ PV w ob s n room L' B tb pu w') := fun W hp => hp.readD (fun F h => dcarried_any h 1)
          have G24 : Hid (∀ W, PV w ob s n room L' B tb pu W → Calls Try.prog 24 #[.pointer (some ⟨B, 0, none⟩)] W fun e w' => e = .returned (.int .i64 (lstI (tms (itms n L')))) ∧ PV w ob s n room L' B tb pu w') := fun W hp => hp.readX (fun h => least_net h)
          have G25 : Hid (∀ W, PV w ob s n room L' B tb pu W → Calls Try.prog 25 #[.pointer (some ⟨tb, 0, none⟩)] W fun e w' => e = .returned (.int .i64 (lstI (tms (itms n L')))) ∧ PV w ob s n room L' B tb pu w') := fun W hp => hp.readD (fun F h => dleast_any h)
          obtain ⟨lv, hlv⟩ : ∃ lv, (L' s.a s.b).length = lv := ⟨_, rfl⟩
          obtain ⟨mv, hmv⟩ : ∃ mv, roomN n room L' s.a s.b = mv := ⟨_, rfl⟩
          obtain ⟨av, hav⟩ : ∃ av, (itms n L').length = av := ⟨_, rfl⟩
          obtain ⟨cv, hcv⟩ : ∃ cv, carr 0 (itms n L') = cv := ⟨_, rfl⟩
          obtain ⟨dv, hdv⟩ : ∃ dv, carr 1 (itms n L') = dv := ⟨_, rfl⟩
          obtain ⟨ev, hev⟩ : ∃ ev, lstI (tms (itms n L')) = ev := ⟨_, rfl⟩
          simp only [hlv] at G16 G17
          simp only [hmv] at G18 G19
          simp only [hav] at G20 G21
          simp only [hcv] at G22 G23
          simp only [hdv] at K22 K23
          simp only [hev] at G24 G25
          clear hlv hmv hav hcv hdv hev
          obtain ⟨y1, y2⟩ := PV.two HV.out
          go_region_held3 (fun w' => w'.cell? ⟨ob, 1, none⟩ = some (.int .i64 s.a) ∧ w'.cell? ⟨ob, 2, none⟩ = some (.int .i64 s.b)) (first | (go_keep; done) | exact Hid.out KEEP) (first
            | (go_at_call 16; refine (Hid.out G16 _ ((Hid.out HV).on ((Below.refl _ _).drew))).mono ?_; rintro e w16 ⟨rfl, h16⟩; have H16 : Hid _ := h16; have KEEP : Hid _ := PV.two h16; clear h16 G16)
            | (go_at_call 17; refine (Hid.out G17 _ (Hid.out H16)).mono ?_; rintro e w17 ⟨rfl, h17⟩; have H17 : Hid _ := h17; have KEEP : Hid _ := PV.two h17; clear h17 G17)
            | (go_at_call 18; refine (Hid.out G18 _ (Hid.out H17)).mono ?_; rintro e w18 ⟨rfl, h18⟩; have H18 : Hid _ := h18; have KEEP : Hid _ := PV.two h18; clear h18 G18)
            | (go_at_call 19; refine (Hid.out G19 _ (Hid.out H18)).mono ?_; rintro e w19 ⟨rfl, h19⟩; have H19 : Hid _ := h19; have KEEP : Hid _ := PV.two h19; clear h19 G19)
            | (go_at_call 20; refine (Hid.out G20 _ (Hid.out H19)).mono ?_; rintro e w20 ⟨rfl, h20⟩; have H20 : Hid _ := h20; have KEEP : Hid _ := PV.two h20; clear h20 G20)
            | (go_at_call 21; refine (Hid.out G21 _ (Hid.out H20)).mono ?_; rintro e w21 ⟨rfl, h21⟩; have H21 : Hid _ := h21; have KEEP : Hid _ := PV.two h21; clear h21 G21))
          clear y1 y2 KEEP
          go_wp2_with (first
            | (go_at_call 22; first | (refine (Hid.out K22 _ (Hid.out H23)).mono ?_; rintro e w24 ⟨rfl, h24⟩; have H24 : Hid _ := h24; clear h24 K22) | (refine (Hid.out G22 _ (Hid.out H21)).mono ?_; rintro e w22 ⟨rfl, h22⟩; have H22 : Hid _ := h22; clear h22 G22))
            | (go_at_call 23; first | (refine (Hid.out K23 _ (Hid.out H24)).mono ?_; rintro e w25 ⟨rfl, h25⟩; have H25 : Hid _ := h25; clear h25 K23) | (refine (Hid.out G23 _ (Hid.out H22)).mono ?_; rintro e w23 ⟨rfl, h23⟩; have H23 : Hid _ := h23; clear h23 G23))
            | (go_at_call 24; refine (Hid.out G24 _ (Hid.out H25)).mono ?_; rintro e w26 ⟨rfl, h26⟩; have H26 : Hid _ := h26; clear h26 G24)
            | (go_at_call 25; refine (Hid.out G25 _ (Hid.out H26)).mono ?_; rintro e w27 ⟨rfl, h27⟩; have H27 : Hid _ := h27; clear h27 G25))
          go_roundw
          case rel => exact ⟨i + 1, L', by go_num, by omega, HOK.out, (H27.out.nd.less (fun _ g => g.elim))⟩
          case measure => simp [intOf]; omega
        · have dk0 : (s.k == 0) = false := by simpa using hk0
          by_cases hk1 : s.k = 1
          · have dk1 : (s.k == 1) = true := by simpa using hk1
            clear hk0 hk1
            obtain ⟨W0, hW0⟩ : ∃ W0, W0 = wr.alloc (.cells (scs s) 37) := ⟨_, rfl⟩
            rw [← hW0] at HX HM
            simp only [scs] at hW0
            obtain ⟨ob, hob⟩ : ∃ ob, wr.heap.size = ob := ⟨_, rfl⟩
            rw [hob] at HX HM
            have hobB : ob ≠ B := by omega
            obtain ⟨u, hu⟩ : ∃ u, nthT (L s.a s.b) 0 = u := ⟨_, rfl⟩
            obtain ⟨v, hv⟩ : ∃ v, fstB (L s.a s.b) = v := ⟨_, rfl⟩
            have FXX : Calls Try.prog 12 #[.pointer (some ⟨B, 0, none⟩), .int .i64 s.a, .int .i64 s.b] W0 fun e w' => e = .returned (.tuple #[iv u, .bool v]) ∧ ND w (w'.alloc (.cells (ics u) 35)) (fun k => k = ob ∨ k = w'.heap.size) n room L L B tb pu ∧ BoxS (w'.alloc (.cells (ics u) 35)) ob s ∧ BoxT (w'.alloc (.cells (ics u) 35)) w'.heap.size u ∧ ob < w'.heap.size := by
              have h := ND.firstx HM.out s.a s.b
              rw [hu, hv] at h
              exact h.mono fun e w' ⟨he, hn, hb⟩ => ⟨he, hn.add _, (HX.out.below hb).below (al _ _), BoxT.new w' u, (HX.out.below hb).lt⟩
            have FYY : Hid (∀ W A, ND w W (fun k => k = ob ∨ k = A) n room L L B tb pu → BoxS W ob s → BoxT W A u → Calls Try.prog 13 #[.pointer (some ⟨tb, 0, none⟩), .int .i64 s.a, .int .i64 s.b] W fun e w' => e = .returned (.tuple #[iv u, .bool v]) ∧ ND w (w'.alloc (.cells (ics u) 35)) (fun k => (k = ob ∨ k = A) ∨ k = w'.heap.size) n room L L B tb pu ∧ BoxS (w'.alloc (.cells (ics u) 35)) ob s ∧ BoxT (w'.alloc (.cells (ics u) 35)) A u ∧ BoxT (w'.alloc (.cells (ics u) 35)) w'.heap.size u ∧ A < w'.heap.size) := fun W A h hb ha => by
              have h1 := ND.firsty h s.a s.b
              rw [hu, hv] at h1
              exact h1.mono fun e w' ⟨he, hn, hb1⟩ => ⟨he, hn.add _, (hb.below hb1).below (al _ _), (ha.below hb1).below (al _ _), BoxT.new w' u, (ha.below hb1).lt⟩
            have hne : ∀ W, (binOp .neq 35 (iv u) (iv u)).run Try.prog W = .ok (.bool false) W := fun W => by rw [neqI, sameI_self]; rfl
            have RXX : Hid (∀ W A C, ND w W (fun k => (k = ob ∨ k = A) ∨ k = C) n room L L B tb pu → BoxS W ob s → BoxT W A u → BoxT W C u → Calls Try.prog 14 #[.pointer (some ⟨B, 0, none⟩), .int .i64 s.a, .int .i64 s.b] W fun e w' => e = .returned (.tuple #[iv u, .bool v]) ∧ ND w w' (fun k => (k = ob ∨ k = A) ∨ k = C) n room (rcvL L s.a s.b) L B tb pu ∧ BoxS w' ob s ∧ BoxT w' A u ∧ BoxT w' C u) := fun W A C h h1 h2 h3 => by
              have h0 := ND.recvx h s.a s.b
              rw [hu, hv] at h0
              exact h0.mono fun e w' ⟨he, hn, hf⟩ => ⟨he, hn, h1.keep hf (fun k => k (.inl (.inl rfl))), h2.keep hf (fun k => k (.inl (.inr rfl))), h3.keep hf (fun k => k (.inr rfl))⟩
            have RYY : Hid (∀ W A C, ND w W (fun k => (k = ob ∨ k = A) ∨ k = C) n room (rcvL L s.a s.b) L B tb pu → BoxS W ob s → BoxT W A u → BoxT W C u → Calls Try.prog 15 #[.pointer (some ⟨tb, 0, none⟩), .int .i64 s.a, .int .i64 s.b] W fun e w' => e = .returned (.tuple #[iv u, .bool v]) ∧ ND w w' (fun k => (k = ob ∨ k = A) ∨ k = C) n room (rcvL L s.a s.b) (rcvL L s.a s.b) B tb pu ∧ BoxS w' ob s ∧ BoxT w' A u ∧ BoxT w' C u) := fun W A C h h1 h2 h3 => by
              have h0 := ND.recvy h s.a s.b
              rw [hu, hv] at h0
              exact h0.mono fun e w' ⟨he, hn, hf⟩ => ⟨he, hn, h1.keep hf (fun k => k (.inl (.inl rfl))), h2.keep hf (fun k => k (.inl (.inr rfl))), h3.keep hf (fun k => k (.inr rfl))⟩
            have HOK2 : Hid _ := OkL.recv HOK.out s.a s.b
            obtain ⟨L', hL'⟩ : ∃ L', rcvL L s.a s.b = L' := ⟨_, rfl⟩
            simp only [hL'] at RXX RYY HOK2
            clear HOK hL'
            have HOK : Hid _ := HOK2.out
            rw [hW0] at FXX
            clear hu hv HM HN hBl hobB
            have hobl : ob < W0.heap.size := HX.out.lt
            obtain ⟨e0, e1, e2, e3, e4, e5, e6, e7, e8, e9, e10⟩ := HX.out.cells
            rw [hW0] at hobl e0 e1 e2 e3 e4 e5 e6 e7 e8 e9 e10
            clear hW0 HX
            subst hob
            have HVF : Hid (∀ W A C, ND w W (fun k => (k = wr.heap.size ∨ k = A) ∨ k = C) n room L' L' B tb pu → BoxS W wr.heap.size s → wr.heap.size ≠ C → PV w wr.heap.size s n room L' B tb pu (se8 W C u)) := fun W A C h h1 hne => ⟨(h.wz (c := C) (fre8 (B := C) (Fr.refl (fun k => k = C) W) (.inl rfl) u) (.inr rfl)).less (fun k e => .inl (.inl e)), h1.keep (S := fun k => k = C) (fre8 (B := C) (Fr.refl (fun k => k = C) W) (.inl rfl) u) hne⟩
            cases v
            · go_wp2_with (first
                | (go_at_call 12; refine FXX.mono ?_; rintro e w3 ⟨rfl, h3, o3, a3, l3⟩; clear e0 e1 e2 e3 e4 e5 e6 e7 e8 e9 e10; obtain ⟨e0, e1, e2, e3, e4, e5, e6, e7, e8, e9, e10⟩ := o3.cells; have N3 : Hid _ := h3; have O3 : Hid _ := o3; have A3 : Hid _ := a3; clear h3 o3 a3 FXX)
                | (go_at_call 13; refine (Hid.out FYY _ _ (Hid.out N3) (Hid.out O3) (Hid.out A3)).mono ?_; rintro e w4 ⟨rfl, h4, o4, a4, b4, l4⟩; clear e0 e1 e2 e3 e4 e5 e6 e7 e8 e9 e10; obtain ⟨e0, e1, e2, e3, e4, e5, e6, e7, e8, e9, e10⟩ := o4.cells; obtain ⟨p0, p1, p2, p3, p4, p5, p6, p7⟩ := a4.cells; obtain ⟨q0, q1, q2, q3, q4, q5, q6, q7⟩ := b4.cells; have N4 : Hid _ := h4; have O4 : Hid _ := o4; have A4 : Hid _ := a4; have B4 : Hid _ := b4; clear h4 o4 a4 b4 FYY N3 O3 A3)
                | (go_at_call 14; refine (Hid.out RXX _ _ _ (Hid.out N4) (Hid.out O4) (Hid.out A4) (Hid.out B4)).mono ?_; rintro e w5 ⟨rfl, h5, o5, a5, b5⟩; clear e0 e1 e2 e3 e4 e5 e6 e7 e8 e9 e10 p0 p1 p2 p3 p4 p5 p6 p7 q0 q1 q2 q3 q4 q5 q6 q7; obtain ⟨e0, e1, e2, e3, e4, e5, e6, e7, e8, e9, e10⟩ := o5.cells; obtain ⟨p0, p1, p2, p3, p4, p5, p6, p7⟩ := a5.cells; obtain ⟨z0, z1, z2, z3, z4, z5, z6, z7⟩ := a5.frozs; have n1 : ¬ wr.heap.size = w3.heap.size := (by omega); have n2 : ¬ w3.heap.size = wr.heap.size := (by omega); have n3 : ¬ w4.heap.size = w3.heap.size := (by omega); have n4 : ¬ w3.heap.size = w4.heap.size := (by omega); have n5 : ¬ wr.heap.size = w4.heap.size := (by omega); have n6 : ¬ w4.heap.size = wr.heap.size := (by omega); have FR5 := fre8 (B := w3.heap.size) (Fr.refl (fun k => k = w3.heap.size) w5) (.inl rfl) u; have N5 : Hid _ := h5.wz (c := w3.heap.size) FR5 (.inl (.inr rfl)); have O5 : Hid _ := o5.keep FR5 n1; have A5 : Hid _ := a5.set8 u; have B5 : Hid _ := b5.keep FR5 n3; clear h5 o5 a5 b5 FR5 RXX N4 O4 A4 B4)
                | (go_at_call 15; refine (Hid.out RYY _ _ _ (Hid.out N5) (Hid.out O5) (Hid.out A5) (Hid.out B5)).mono ?_; rintro e w7 ⟨rfl, h7, o7, a7, b7⟩; clear e0 e1 e2 e3 e4 e5 e6 e7 e8 e9 e10 p0 p1 p2 p3 p4 p5 p6 p7 z0 z1 z2 z3 z4 z5 z6 z7; obtain ⟨e0, e1, e2, e3, e4, e5, e6, e7, e8, e9, e10⟩ := o7.cells; obtain ⟨p0, p1, p2, p3, p4, p5, p6, p7⟩ := a7.cells; obtain ⟨q0, q1, q2, q3, q4, q5, q6, q7⟩ := b7.cells; obtain ⟨z0, z1, z2, z3, z4, z5, z6, z7⟩ := b7.frozs; have HV : Hid _ := HVF.out _ _ _ h7 o7 n5; clear h7 o7 a7 b7 RYY N5 O5 A5 B5))
              obtain ⟨V, hV⟩ : ∃ V, V = se8 w7 w4.heap.size u := ⟨_, rfl⟩
              rw [← hV] at HV
              simp only [se8] at hV
              rw [← hV]
              obtain ⟨ob, hob⟩ : ∃ ob, wr.heap.size = ob := ⟨_, rfl⟩
              simp only [hob] at HV ⊢
              clear hob hV HVF e0 e1 e2 e3 e4 e5 e6 e7 e8 e9 e10 p0 p1 p2 p3 p4 p5 p6 p7 q0 q1 q2 q3 q4 q5 q6 q7 z0 z1 z2 z3 z4 z5 z6 z7 c0 c1 c2 c3 c4 c5 c6 c7 c8 c9 c10
              have G16 : Hid (∀ W, PV w ob s n room L' B tb pu W → Calls Try.prog 16 #[.pointer (some ⟨B, 0, none⟩), .int .i64 s.a, .int .i64 s.b] W fun e w' => e = .returned (.int .i64 ((((L' s.a s.b).length : Nat) : Int))) ∧ PV w ob s n room L' B tb pu w') := fun W hp => hp.readX (fun h => len_any' h s.a s.b)
              have G17 : Hid (∀ W, PV w ob s n room L' B tb pu W → Calls Try.prog 17 #[.pointer (some ⟨tb, 0, none⟩), .int .i64 s.a, .int .i64 s.b] W fun e w' => e = .returned (.int .i64 ((((L' s.a s.b).length : Nat) : Int))) ∧ PV w ob s n room L' B tb pu w') := fun W hp => hp.readD (fun F h => dlen_any h s.a s.b)
              have G18 : Hid (∀ W, PV w ob s n room L' B tb pu W → Calls Try.prog 18 #[.pointer (some ⟨B, 0, none⟩), .int .i64 s.a, .int .i64 s.b] W fun e w' => e = .returned (.int .i64 (roomN n room L' s.a s.b)) ∧ PV w ob s n room L' B tb pu w') := fun W hp => hp.readX (fun h => room_any h s.a s.b)
              have G19 : Hid (∀ W, PV w ob s n room L' B tb pu W → Calls Try.prog 19 #[.pointer (some ⟨tb, 0, none⟩), .int .i64 s.a, .int .i64 s.b] W fun e w' => e = .returned (.int .i64 (roomN n room L' s.a s.b)) ∧ PV w ob s n room L' B tb pu w') := fun W hp => hp.readD (fun F h => droom_any h s.a s.b)
              have G20 : Hid (∀ W, PV w ob s n room L' B tb pu W → Calls Try.prog 20 #[.pointer (some ⟨B, 0, none⟩)] W fun e w' => e = .returned (.int .i64 ((((itms n L').length : Nat) : Int))) ∧ PV w ob s n room L' B tb pu w') := fun W hp => hp.readX (fun h => all_any h)
              have G21 : Hid (∀ W, PV w ob s n room L' B tb pu W → Calls Try.prog 21 #[.pointer (some ⟨tb, 0, none⟩)] W fun e w' => e = .returned (.int .i64 ((((itms n L').length : Nat) : Int))) ∧ PV w ob s n room L' B tb pu w') := fun W hp => hp.readD (fun F h => dall_any h)
              have G22 : Hid (∀ W, PV w ob s n room L' B tb pu W → Calls Try.prog 22 #[.pointer (some ⟨B, 0, none⟩), .int .i64 0] W fun e w' => e = .returned (.int .i64 (((carr 0 (itms n L') : Nat) : Int))) ∧ PV w ob s n room L' B tb pu w') := fun W hp => hp.readX (fun h => carried_any h 0)
              have G23 : Hid (∀ W, PV w ob s n room L' B tb pu W → Calls Try.prog 23 #[.pointer (some ⟨tb, 0, none⟩), .int .i64 0] W fun e w' => e = .returned (.int .i64 (((carr 0 (itms n L') : Nat) : Int))) ∧ PV w ob s n room L' B tb pu w') := fun W hp => hp.readD (fun F h => dcarried_any h 0)
              have K22 : Hid (∀ W, PV w ob s n room L' B tb pu W → Calls Try.prog 22 #[.pointer (some ⟨B, 0, none⟩), .int .i64 1] W fun e w' => e = .returned (.int .i64 (((carr 1 (itms n L') : Nat) : Int))) ∧ PV w ob s n room L' B tb pu w') := fun W hp => hp.readX (fun h => carried_any h 1)
              have K23 : Hid (∀ W, PV w ob s n room L' B tb pu W → Calls Try.prog 23 #[.pointer (some ⟨tb, 0, none⟩), .int .i64 1] W fun e w' => e = .returned (.int .i64 (((carr 1 (itms n L') : Nat) : Int))) ∧ PV w ob s n room L' B tb pu w') := fun W hp => hp.readD (fun F h => dcarried_any h 1)
              have G24 : Hid (∀ W, PV w ob s n room L' B tb pu W → Calls Try.prog 24 #[.pointer (some ⟨B, 0, none⟩)] W fun e w' => e = .returned (.int .i64 (lstI (tms (itms n L')))) ∧ PV w ob s n room L' B tb pu w') := fun W hp => hp.readX (fun h => least_net h)
              have G25 : Hid (∀ W, PV w ob s n room L' B tb pu W → Calls Try.prog 25 #[.pointer (some ⟨tb, 0, none⟩)] W fun e w' => e = .returned (.int .i64 (lstI (tms (itms n L')))) ∧ PV w ob s n room L' B tb pu w') := fun W hp => hp.readD (fun F h => dleast_any h)
              obtain ⟨lv, hlv⟩ : ∃ lv, (L' s.a s.b).length = lv := ⟨_, rfl⟩
              obtain ⟨mv, hmv⟩ : ∃ mv, roomN n room L' s.a s.b = mv := ⟨_, rfl⟩
              obtain ⟨av, hav⟩ : ∃ av, (itms n L').length = av := ⟨_, rfl⟩
              obtain ⟨cv, hcv⟩ : ∃ cv, carr 0 (itms n L') = cv := ⟨_, rfl⟩
              obtain ⟨dv, hdv⟩ : ∃ dv, carr 1 (itms n L') = dv := ⟨_, rfl⟩
              obtain ⟨ev, hev⟩ : ∃ ev, lstI (tms (itms n L')) = ev := ⟨_, rfl⟩
              simp only [hlv] at G16 G17
              simp only [hmv] at G18 G19
              simp only [hav] at G20 G21
              simp only [hcv] at G22 G23
              simp only [hdv] at K22 K23
              simp only [hev] at G24 G25
              clear hlv hmv hav hcv hdv hev
              obtain ⟨y1, y2⟩ := PV.two HV.out
              go_region_held3 (fun w' => w'.cell? ⟨ob, 1, none⟩ = some (.int .i64 s.a) ∧ w'.cell? ⟨ob, 2, none⟩ = some (.int .i64 s.b)) (first | (go_keep; done) | exact Hid.out KEEP) (first
                | (go_at_call 16; refine (Hid.out G16 _ ((Hid.out HV).on ((Below.refl _ _).drew))).mono ?_; rintro e w16 ⟨rfl, h16⟩; have H16 : Hid _ := h16; have KEEP : Hid _ := PV.two h16; clear h16 G16)
                | (go_at_call 17; refine (Hid.out G17 _ (Hid.out H16)).mono ?_; rintro e w17 ⟨rfl, h17⟩; have H17 : Hid _ := h17; have KEEP : Hid _ := PV.two h17; clear h17 G17)
                | (go_at_call 18; refine (Hid.out G18 _ (Hid.out H17)).mono ?_; rintro e w18 ⟨rfl, h18⟩; have H18 : Hid _ := h18; have KEEP : Hid _ := PV.two h18; clear h18 G18)
                | (go_at_call 19; refine (Hid.out G19 _ (Hid.out H18)).mono ?_; rintro e w19 ⟨rfl, h19⟩; have H19 : Hid _ := h19; have KEEP : Hid _ := PV.two h19; clear h19 G19)
                | (go_at_call 20; refine (Hid.out G20 _ (Hid.out H19)).mono ?_; rintro e w20 ⟨rfl, h20⟩; have H20 : Hid _ := h20; have KEEP : Hid _ := PV.two h20; clear h20 G20)
                | (go_at_call 21; refine (Hid.out G21 _ (Hid.out H20)).mono ?_; rintro e w21 ⟨rfl, h21⟩; have H21 : Hid _ := h21; have KEEP : Hid _ := PV.two h21; clear h21 G21))
              clear y1 y2 KEEP
              go_wp2_with (first
                | (go_at_call 22; first | (refine (Hid.out K22 _ (Hid.out H23)).mono ?_; rintro e w24 ⟨rfl, h24⟩; have H24 : Hid _ := h24; clear h24 K22) | (refine (Hid.out G22 _ (Hid.out H21)).mono ?_; rintro e w22 ⟨rfl, h22⟩; have H22 : Hid _ := h22; clear h22 G22))
                | (go_at_call 23; first | (refine (Hid.out K23 _ (Hid.out H24)).mono ?_; rintro e w25 ⟨rfl, h25⟩; have H25 : Hid _ := h25; clear h25 K23) | (refine (Hid.out G23 _ (Hid.out H22)).mono ?_; rintro e w23 ⟨rfl, h23⟩; have H23 : Hid _ := h23; clear h23 G23))
                | (go_at_call 24; refine (Hid.out G24 _ (Hid.out H25)).mono ?_; rintro e w26 ⟨rfl, h26⟩; have H26 : Hid _ := h26; clear h26 G24)
                | (go_at_call 25; refine (Hid.out G25 _ (Hid.out H26)).mono ?_; rintro e w27 ⟨rfl, h27⟩; have H27 : Hid _ := h27; clear h27 G25))
              go_roundw
              case rel => exact ⟨i + 1, L', by go_num, by omega, HOK.out, (H27.out.nd.less (fun _ g => g.elim))⟩
              case measure => simp [intOf]; omega
            · go_wp2_with (first
                | (go_at_call 12; refine FXX.mono ?_; rintro e w3 ⟨rfl, h3, o3, a3, l3⟩; clear e0 e1 e2 e3 e4 e5 e6 e7 e8 e9 e10; obtain ⟨e0, e1, e2, e3, e4, e5, e6, e7, e8, e9, e10⟩ := o3.cells; have N3 : Hid _ := h3; have O3 : Hid _ := o3; have A3 : Hid _ := a3; clear h3 o3 a3 FXX)
                | (go_at_call 13; refine (Hid.out FYY _ _ (Hid.out N3) (Hid.out O3) (Hid.out A3)).mono ?_; rintro e w4 ⟨rfl, h4, o4, a4, b4, l4⟩; clear e0 e1 e2 e3 e4 e5 e6 e7 e8 e9 e10; obtain ⟨e0, e1, e2, e3, e4, e5, e6, e7, e8, e9, e10⟩ := o4.cells; obtain ⟨p0, p1, p2, p3, p4, p5, p6, p7⟩ := a4.cells; obtain ⟨q0, q1, q2, q3, q4, q5, q6, q7⟩ := b4.cells; have N4 : Hid _ := h4; have O4 : Hid _ := o4; have A4 : Hid _ := a4; have B4 : Hid _ := b4; clear h4 o4 a4 b4 FYY N3 O3 A3)
                | (go_at_call 14; refine (Hid.out RXX _ _ _ (Hid.out N4) (Hid.out O4) (Hid.out A4) (Hid.out B4)).mono ?_; rintro e w5 ⟨rfl, h5, o5, a5, b5⟩; clear e0 e1 e2 e3 e4 e5 e6 e7 e8 e9 e10 p0 p1 p2 p3 p4 p5 p6 p7 q0 q1 q2 q3 q4 q5 q6 q7; obtain ⟨e0, e1, e2, e3, e4, e5, e6, e7, e8, e9, e10⟩ := o5.cells; obtain ⟨p0, p1, p2, p3, p4, p5, p6, p7⟩ := a5.cells; obtain ⟨z0, z1, z2, z3, z4, z5, z6, z7⟩ := a5.frozs; have n1 : ¬ wr.heap.size = w3.heap.size := (by omega); have n2 : ¬ w3.heap.size = wr.heap.size := (by omega); have n3 : ¬ w4.heap.size = w3.heap.size := (by omega); have n4 : ¬ w3.heap.size = w4.heap.size := (by omega); have n5 : ¬ wr.heap.size = w4.heap.size := (by omega); have n6 : ¬ w4.heap.size = wr.heap.size := (by omega); have FR5 := fre8 (B := w3.heap.size) (Fr.refl (fun k => k = w3.heap.size) w5) (.inl rfl) u; have N5 : Hid _ := h5.wz (c := w3.heap.size) FR5 (.inl (.inr rfl)); have O5 : Hid _ := o5.keep FR5 n1; have A5 : Hid _ := a5.set8 u; have B5 : Hid _ := b5.keep FR5 n3; clear h5 o5 a5 b5 FR5 RXX N4 O4 A4 B4)
                | (go_at_call 15; refine (Hid.out RYY _ _ _ (Hid.out N5) (Hid.out O5) (Hid.out A5) (Hid.out B5)).mono ?_; rintro e w7 ⟨rfl, h7, o7, a7, b7⟩; clear e0 e1 e2 e3 e4 e5 e6 e7 e8 e9 e10 p0 p1 p2 p3 p4 p5 p6 p7 z0 z1 z2 z3 z4 z5 z6 z7; obtain ⟨e0, e1, e2, e3, e4, e5, e6, e7, e8, e9, e10⟩ := o7.cells; obtain ⟨p0, p1, p2, p3, p4, p5, p6, p7⟩ := a7.cells; obtain ⟨q0, q1, q2, q3, q4, q5, q6, q7⟩ := b7.cells; obtain ⟨z0, z1, z2, z3, z4, z5, z6, z7⟩ := b7.frozs; have HV : Hid _ := HVF.out _ _ _ h7 o7 n5; clear h7 o7 a7 b7 RYY N5 O5 A5 B5))
              obtain ⟨V, hV⟩ : ∃ V, V = se8 w7 w4.heap.size u := ⟨_, rfl⟩
              rw [← hV] at HV
              simp only [se8] at hV
              rw [← hV]
              obtain ⟨ob, hob⟩ : ∃ ob, wr.heap.size = ob := ⟨_, rfl⟩
              simp only [hob] at HV ⊢
              clear hob hV HVF e0 e1 e2 e3 e4 e5 e6 e7 e8 e9 e10 p0 p1 p2 p3 p4 p5 p6 p7 q0 q1 q2 q3 q4 q5 q6 q7 z0 z1 z2 z3 z4 z5 z6 z7 c0 c1 c2 c3 c4 c5 c6 c7 c8 c9 c10
              have G16 : Hid (∀ W, PV w ob s n room L' B tb pu W → Calls Try.prog 16 #[.pointer (some ⟨B, 0, none⟩), .int .i64 s.a, .int .i64 s.b] W fun e w' => e = .returned (.int .i64 ((((L' s.a s.b).length : Nat) : Int))) ∧ PV w ob s n room L' B tb pu w') := fun W hp => hp.readX (fun h => len_any' h s.a s.b)
              have G17 : Hid (∀ W, PV w ob s n room L' B tb pu W → Calls Try.prog 17 #[.pointer (some ⟨tb, 0, none⟩), .int .i64 s.a, .int .i64 s.b] W fun e w' => e = .returned (.int .i64 ((((L' s.a s.b).length : Nat) : Int))) ∧ PV w ob s n room L' B tb pu w') := fun W hp => hp.readD (fun F h => dlen_any h s.a s.b)
              have G18 : Hid (∀ W, PV w ob s n room L' B tb pu W → Calls Try.prog 18 #[.pointer (some ⟨B, 0, none⟩), .int .i64 s.a, .int .i64 s.b] W fun e w' => e = .returned (.int .i64 (roomN n room L' s.a s.b)) ∧ PV w ob s n room L' B tb pu w') := fun W hp => hp.readX (fun h => room_any h s.a s.b)
              have G19 : Hid (∀ W, PV w ob s n room L' B tb pu W → Calls Try.prog 19 #[.pointer (some ⟨tb, 0, none⟩), .int .i64 s.a, .int .i64 s.b] W fun e w' => e = .returned (.int .i64 (roomN n room L' s.a s.b)) ∧ PV w ob s n room L' B tb pu w') := fun W hp => hp.readD (fun F h => droom_any h s.a s.b)
              have G20 : Hid (∀ W, PV w ob s n room L' B tb pu W → Calls Try.prog 20 #[.pointer (some ⟨B, 0, none⟩)] W fun e w' => e = .returned (.int .i64 ((((itms n L').length : Nat) : Int))) ∧ PV w ob s n room L' B tb pu w') := fun W hp => hp.readX (fun h => all_any h)
              have G21 : Hid (∀ W, PV w ob s n room L' B tb pu W → Calls Try.prog 21 #[.pointer (some ⟨tb, 0, none⟩)] W fun e w' => e = .returned (.int .i64 ((((itms n L').length : Nat) : Int))) ∧ PV w ob s n room L' B tb pu w') := fun W hp => hp.readD (fun F h => dall_any h)
              have G22 : Hid (∀ W, PV w ob s n room L' B tb pu W → Calls Try.prog 22 #[.pointer (some ⟨B, 0, none⟩), .int .i64 0] W fun e w' => e = .returned (.int .i64 (((carr 0 (itms n L') : Nat) : Int))) ∧ PV w ob s n room L' B tb pu w') := fun W hp => hp.readX (fun h => carried_any h 0)
              have G23 : Hid (∀ W, PV w ob s n room L' B tb pu W → Calls Try.prog 23 #[.pointer (some ⟨tb, 0, none⟩), .int .i64 0] W fun e w' => e = .returned (.int .i64 (((carr 0 (itms n L') : Nat) : Int))) ∧ PV w ob s n room L' B tb pu w') := fun W hp => hp.readD (fun F h => dcarried_any h 0)
              have K22 : Hid (∀ W, PV w ob s n room L' B tb pu W → Calls Try.prog 22 #[.pointer (some ⟨B, 0, none⟩), .int .i64 1] W fun e w' => e = .returned (.int .i64 (((carr 1 (itms n L') : Nat) : Int))) ∧ PV w ob s n room L' B tb pu w') := fun W hp => hp.readX (fun h => carried_any h 1)
              have K23 : Hid (∀ W, PV w ob s n room L' B tb pu W → Calls Try.prog 23 #[.pointer (some ⟨tb, 0, none⟩), .int .i64 1] W fun e w' => e = .returned (.int .i64 (((carr 1 (itms n L') : Nat) : Int))) ∧ PV w ob s n room L' B tb pu w') := fun W hp => hp.readD (fun F h => dcarried_any h 1)
              have G24 : Hid (∀ W, PV w ob s n room L' B tb pu W → Calls Try.prog 24 #[.pointer (some ⟨B, 0, none⟩)] W fun e w' => e = .returned (.int .i64 (lstI (tms (itms n L')))) ∧ PV w ob s n room L' B tb pu w') := fun W hp => hp.readX (fun h => least_net h)
              have G25 : Hid (∀ W, PV w ob s n room L' B tb pu W → Calls Try.prog 25 #[.pointer (some ⟨tb, 0, none⟩)] W fun e w' => e = .returned (.int .i64 (lstI (tms (itms n L')))) ∧ PV w ob s n room L' B tb pu w') := fun W hp => hp.readD (fun F h => dleast_any h)
              obtain ⟨lv, hlv⟩ : ∃ lv, (L' s.a s.b).length = lv := ⟨_, rfl⟩
              obtain ⟨mv, hmv⟩ : ∃ mv, roomN n room L' s.a s.b = mv := ⟨_, rfl⟩
              obtain ⟨av, hav⟩ : ∃ av, (itms n L').length = av := ⟨_, rfl⟩
              obtain ⟨cv, hcv⟩ : ∃ cv, carr 0 (itms n L') = cv := ⟨_, rfl⟩
              obtain ⟨dv, hdv⟩ : ∃ dv, carr 1 (itms n L') = dv := ⟨_, rfl⟩
              obtain ⟨ev, hev⟩ : ∃ ev, lstI (tms (itms n L')) = ev := ⟨_, rfl⟩
              simp only [hlv] at G16 G17
              simp only [hmv] at G18 G19
              simp only [hav] at G20 G21
              simp only [hcv] at G22 G23
              simp only [hdv] at K22 K23
              simp only [hev] at G24 G25
              clear hlv hmv hav hcv hdv hev
              obtain ⟨y1, y2⟩ := PV.two HV.out
              go_region_held3 (fun w' => w'.cell? ⟨ob, 1, none⟩ = some (.int .i64 s.a) ∧ w'.cell? ⟨ob, 2, none⟩ = some (.int .i64 s.b)) (first | (go_keep; done) | exact Hid.out KEEP) (first
                | (go_at_call 16; refine (Hid.out G16 _ ((Hid.out HV).on ((Below.refl _ _).drew))).mono ?_; rintro e w16 ⟨rfl, h16⟩; have H16 : Hid _ := h16; have KEEP : Hid _ := PV.two h16; clear h16 G16)
                | (go_at_call 17; refine (Hid.out G17 _ (Hid.out H16)).mono ?_; rintro e w17 ⟨rfl, h17⟩; have H17 : Hid _ := h17; have KEEP : Hid _ := PV.two h17; clear h17 G17)
                | (go_at_call 18; refine (Hid.out G18 _ (Hid.out H17)).mono ?_; rintro e w18 ⟨rfl, h18⟩; have H18 : Hid _ := h18; have KEEP : Hid _ := PV.two h18; clear h18 G18)
                | (go_at_call 19; refine (Hid.out G19 _ (Hid.out H18)).mono ?_; rintro e w19 ⟨rfl, h19⟩; have H19 : Hid _ := h19; have KEEP : Hid _ := PV.two h19; clear h19 G19)
                | (go_at_call 20; refine (Hid.out G20 _ (Hid.out H19)).mono ?_; rintro e w20 ⟨rfl, h20⟩; have H20 : Hid _ := h20; have KEEP : Hid _ := PV.two h20; clear h20 G20)
                | (go_at_call 21; refine (Hid.out G21 _ (Hid.out H20)).mono ?_; rintro e w21 ⟨rfl, h21⟩; have H21 : Hid _ := h21; have KEEP : Hid _ := PV.two h21; clear h21 G21))
              clear y1 y2 KEEP
              go_wp2_with (first
                | (go_at_call 22; first | (refine (Hid.out K22 _ (Hid.out H23)).mono ?_; rintro e w24 ⟨rfl, h24⟩; have H24 : Hid _ := h24; clear h24 K22) | (refine (Hid.out G22 _ (Hid.out H21)).mono ?_; rintro e w22 ⟨rfl, h22⟩; have H22 : Hid _ := h22; clear h22 G22))
                | (go_at_call 23; first | (refine (Hid.out K23 _ (Hid.out H24)).mono ?_; rintro e w25 ⟨rfl, h25⟩; have H25 : Hid _ := h25; clear h25 K23) | (refine (Hid.out G23 _ (Hid.out H22)).mono ?_; rintro e w23 ⟨rfl, h23⟩; have H23 : Hid _ := h23; clear h23 G23))
                | (go_at_call 24; refine (Hid.out G24 _ (Hid.out H25)).mono ?_; rintro e w26 ⟨rfl, h26⟩; have H26 : Hid _ := h26; clear h26 G24)
                | (go_at_call 25; refine (Hid.out G25 _ (Hid.out H26)).mono ?_; rintro e w27 ⟨rfl, h27⟩; have H27 : Hid _ := h27; clear h27 G25))
              go_roundw
              case rel => exact ⟨i + 1, L', by go_num, by omega, HOK.out, (H27.out.nd.less (fun _ g => g.elim))⟩
              case measure => simp [intOf]; omega
          · have dk1 : (s.k == 1) = false := by simpa using hk1
            by_cases hk2 : s.k = 2
            · have dk2 : (s.k == 2) = true := by simpa using hk2
              clear hk0 hk1 hk2
              obtain ⟨W0, hW0⟩ : ∃ W0, W0 = wr.alloc (.cells (scs s) 37) := ⟨_, rfl⟩
              rw [← hW0] at HX HM
              simp only [scs] at hW0
              obtain ⟨ob, hob⟩ : ∃ ob, wr.heap.size = ob := ⟨_, rfl⟩
              rw [hob] at HX HM
              have hobB : ob ≠ B := by omega
              obtain ⟨u, hu⟩ : ∃ u, nthT (L s.a s.b) 0 = u := ⟨_, rfl⟩
              obtain ⟨v, hv⟩ : ∃ v, fstB (L s.a s.b) = v := ⟨_, rfl⟩
              have FXX : Calls Try.prog 12 #[.pointer (some ⟨B, 0, none⟩), .int .i64 s.a, .int .i64 s.b] W0 fun e w' => e = .returned (.tuple #[iv u, .bool v]) ∧ ND w (w'.alloc (.cells (ics u) 35)) (fun k => k = ob ∨ k = w'.heap.size) n room L L B tb pu ∧ BoxS (w'.alloc (.cells (ics u) 35)) ob s ∧ BoxT (w'.alloc (.cells (ics u) 35)) w'.heap.size u ∧ ob < w'.heap.size := by
                have h := ND.firstx HM.out s.a s.b
                rw [hu, hv] at h
                exact h.mono fun e w' ⟨he, hn, hb⟩ => ⟨he, hn.add _, (HX.out.below hb).below (al _ _), BoxT.new w' u, (HX.out.below hb).lt⟩
              have FYY : Hid (∀ W A, ND w W (fun k => k = ob ∨ k = A) n room L L B tb pu → BoxS W ob s → BoxT W A u → Calls Try.prog 13 #[.pointer (some ⟨tb, 0, none⟩), .int .i64 s.a, .int .i64 s.b] W fun e w' => e = .returned (.tuple #[iv u, .bool v]) ∧ ND w (w'.alloc (.cells (ics u) 35)) (fun k => (k = ob ∨ k = A) ∨ k = w'.heap.size) n room L L B tb pu ∧ BoxS (w'.alloc (.cells (ics u) 35)) ob s ∧ BoxT (w'.alloc (.cells (ics u) 35)) A u ∧ BoxT (w'.alloc (.cells (ics u) 35)) w'.heap.size u ∧ A < w'.heap.size) := fun W A h hb ha => by
                have h1 := ND.firsty h s.a s.b
                rw [hu, hv] at h1
                exact h1.mono fun e w' ⟨he, hn, hb1⟩ => ⟨he, hn.add _, (hb.below hb1).below (al _ _), (ha.below hb1).below (al _ _), BoxT.new w' u, (ha.below hb1).lt⟩
              have hne : ∀ W, (binOp .neq 35 (iv u) (iv u)).run Try.prog W = .ok (.bool false) W := fun W => by rw [neqI, sameI_self]; rfl
              rw [hW0] at FXX
              clear hu hv HM HN hBl hobB
              have hobl : ob < W0.heap.size := HX.out.lt
              obtain ⟨e0, e1, e2, e3, e4, e5, e6, e7, e8, e9, e10⟩ := HX.out.cells
              rw [hW0] at hobl e0 e1 e2 e3 e4 e5 e6 e7 e8 e9 e10
              clear hW0 HX
              subst hob
              have HVF : Hid (∀ W A C, ND w W (fun k => (k = wr.heap.size ∨ k = A) ∨ k = C) n room L L B tb pu → BoxS W wr.heap.size s → PV w wr.heap.size s n room L B tb pu W) := fun W A C h h1 => ⟨h.less (fun k e => .inl (.inl e)), h1⟩
              cases v
              · go_wp2_with (first
                  | (go_at_call 12; refine FXX.mono ?_; rintro e w3 ⟨rfl, h3, o3, a3, l3⟩; clear e0 e1 e2 e3 e4 e5 e6 e7 e8 e9 e10; obtain ⟨e0, e1, e2, e3, e4, e5, e6, e7, e8, e9, e10⟩ := o3.cells; have N3 : Hid _ := h3; have O3 : Hid _ := o3; have A3 : Hid _ := a3; clear h3 o3 a3 FXX)
                  | (go_at_call 13; refine (Hid.out FYY _ _ (Hid.out N3) (Hid.out O3) (Hid.out A3)).mono ?_; rintro e w4 ⟨rfl, h4, o4, a4, b4, l4⟩; clear e0 e1 e2 e3 e4 e5 e6 e7 e8 e9 e10; obtain ⟨e0, e1, e2, e3, e4, e5, e6, e7, e8, e9, e10⟩ := o4.cells; obtain ⟨p0, p1, p2, p3, p4, p5, p6, p7⟩ := a4.cells; obtain ⟨q0, q1, q2, q3, q4, q5, q6, q7⟩ := b4.cells; have N4 : Hid _ := h4; have O4 : Hid _ := o4; have A4 : Hid _ := a4; have B4 : Hid _ := b4; clear h4 o4 a4 b4 FYY N3 O3 A3))
                have HV : Hid _ := HVF.out _ _ _ N4.out O4.out
                obtain ⟨V, hV⟩ : ∃ V, V = w4.alloc (.cells (ics u) 35) := ⟨_, rfl⟩
                rw [← hV] at HV
                simp only [ics] at hV
                rw [← hV]
                obtain ⟨ob, hob⟩ : ∃ ob, wr.heap.size = ob := ⟨_, rfl⟩
                simp only [hob] at HV ⊢
                clear hob hV N4 O4 A4 B4 HVF e0 e1 e2 e3 e4 e5 e6 e7 e8 e9 e10 p0 p1 p2 p3 p4 p5 p6 p7 q0 q1 q2 q3 q4 q5 q6 q7 c0 c1 c2 c3 c4 c5 c6 c7 c8 c9 c10
                have G16 : Hid (∀ W, PV w ob s n room L B tb pu W → Calls Try.prog 16 #[.pointer (some ⟨B, 0, none⟩), .int .i64 s.a, .int .i64 s.b] W fun e w' => e = .returned (.int .i64 ((((L s.a s.b).length : Nat) : Int))) ∧ PV w ob s n room L B tb pu w') := fun W hp => hp.readX (fun h => len_any' h s.a s.b)
                have G17 : Hid (∀ W, PV w ob s n room L B tb pu W → Calls Try.prog 17 #[.pointer (some ⟨tb, 0, none⟩), .int .i64 s.a, .int .i64 s.b] W fun e w' => e = .returned (.int .i64 ((((L s.a s.b).length : Nat) : Int))) ∧ PV w ob s n room L B tb pu w') := fun W hp => hp.readD (fun F h => dlen_any h s.a s.b)
                have G18 : Hid (∀ W, PV w ob s n room L B tb pu W → Calls Try.prog 18 #[.pointer (some ⟨B, 0, none⟩), .int .i64 s.a, .int .i64 s.b] W fun e w' => e = .returned (.int .i64 (roomN n room L s.a s.b)) ∧ PV w ob s n room L B tb pu w') := fun W hp => hp.readX (fun h => room_any h s.a s.b)
                have G19 : Hid (∀ W, PV w ob s n room L B tb pu W → Calls Try.prog 19 #[.pointer (some ⟨tb, 0, none⟩), .int .i64 s.a, .int .i64 s.b] W fun e w' => e = .returned (.int .i64 (roomN n room L s.a s.b)) ∧ PV w ob s n room L B tb pu w') := fun W hp => hp.readD (fun F h => droom_any h s.a s.b)
                have G20 : Hid (∀ W, PV w ob s n room L B tb pu W → Calls Try.prog 20 #[.pointer (some ⟨B, 0, none⟩)] W fun e w' => e = .returned (.int .i64 ((((itms n L).length : Nat) : Int))) ∧ PV w ob s n room L B tb pu w') := fun W hp => hp.readX (fun h => all_any h)
                have G21 : Hid (∀ W, PV w ob s n room L B tb pu W → Calls Try.prog 21 #[.pointer (some ⟨tb, 0, none⟩)] W fun e w' => e = .returned (.int .i64 ((((itms n L).length : Nat) : Int))) ∧ PV w ob s n room L B tb pu w') := fun W hp => hp.readD (fun F h => dall_any h)
                have G22 : Hid (∀ W, PV w ob s n room L B tb pu W → Calls Try.prog 22 #[.pointer (some ⟨B, 0, none⟩), .int .i64 0] W fun e w' => e = .returned (.int .i64 (((carr 0 (itms n L) : Nat) : Int))) ∧ PV w ob s n room L B tb pu w') := fun W hp => hp.readX (fun h => carried_any h 0)
                have G23 : Hid (∀ W, PV w ob s n room L B tb pu W → Calls Try.prog 23 #[.pointer (some ⟨tb, 0, none⟩), .int .i64 0] W fun e w' => e = .returned (.int .i64 (((carr 0 (itms n L) : Nat) : Int))) ∧ PV w ob s n room L B tb pu w') := fun W hp => hp.readD (fun F h => dcarried_any h 0)
                have K22 : Hid (∀ W, PV w ob s n room L B tb pu W → Calls Try.prog 22 #[.pointer (some ⟨B, 0, none⟩), .int .i64 1] W fun e w' => e = .returned (.int .i64 (((carr 1 (itms n L) : Nat) : Int))) ∧ PV w ob s n room L B tb pu w') := fun W hp => hp.readX (fun h => carried_any h 1)
                have K23 : Hid (∀ W, PV w ob s n room L B tb pu W → Calls Try.prog 23 #[.pointer (some ⟨tb, 0, none⟩), .int .i64 1] W fun e w' => e = .returned (.int .i64 (((carr 1 (itms n L) : Nat) : Int))) ∧ PV w ob s n room L B tb pu w') := fun W hp => hp.readD (fun F h => dcarried_any h 1)
                have G24 : Hid (∀ W, PV w ob s n room L B tb pu W → Calls Try.prog 24 #[.pointer (some ⟨B, 0, none⟩)] W fun e w' => e = .returned (.int .i64 (lstI (tms (itms n L)))) ∧ PV w ob s n room L B tb pu w') := fun W hp => hp.readX (fun h => least_net h)
                have G25 : Hid (∀ W, PV w ob s n room L B tb pu W → Calls Try.prog 25 #[.pointer (some ⟨tb, 0, none⟩)] W fun e w' => e = .returned (.int .i64 (lstI (tms (itms n L)))) ∧ PV w ob s n room L B tb pu w') := fun W hp => hp.readD (fun F h => dleast_any h)
                obtain ⟨lv, hlv⟩ : ∃ lv, (L s.a s.b).length = lv := ⟨_, rfl⟩
                obtain ⟨mv, hmv⟩ : ∃ mv, roomN n room L s.a s.b = mv := ⟨_, rfl⟩
                obtain ⟨av, hav⟩ : ∃ av, (itms n L).length = av := ⟨_, rfl⟩
                obtain ⟨cv, hcv⟩ : ∃ cv, carr 0 (itms n L) = cv := ⟨_, rfl⟩
                obtain ⟨dv, hdv⟩ : ∃ dv, carr 1 (itms n L) = dv := ⟨_, rfl⟩
                obtain ⟨ev, hev⟩ : ∃ ev, lstI (tms (itms n L)) = ev := ⟨_, rfl⟩
                simp only [hlv] at G16 G17
                simp only [hmv] at G18 G19
                simp only [hav] at G20 G21
                simp only [hcv] at G22 G23
                simp only [hdv] at K22 K23
                simp only [hev] at G24 G25
                clear hlv hmv hav hcv hdv hev
                obtain ⟨y1, y2⟩ := PV.two HV.out
                go_region_held3 (fun w' => w'.cell? ⟨ob, 1, none⟩ = some (.int .i64 s.a) ∧ w'.cell? ⟨ob, 2, none⟩ = some (.int .i64 s.b)) (first | (go_keep; done) | exact Hid.out KEEP) (first
                  | (go_at_call 16; refine (Hid.out G16 _ ((Hid.out HV).on ((Below.refl _ _).drew))).mono ?_; rintro e w16 ⟨rfl, h16⟩; have H16 : Hid _ := h16; have KEEP : Hid _ := PV.two h16; clear h16 G16)
                  | (go_at_call 17; refine (Hid.out G17 _ (Hid.out H16)).mono ?_; rintro e w17 ⟨rfl, h17⟩; have H17 : Hid _ := h17; have KEEP : Hid _ := PV.two h17; clear h17 G17)
                  | (go_at_call 18; refine (Hid.out G18 _ (Hid.out H17)).mono ?_; rintro e w18 ⟨rfl, h18⟩; have H18 : Hid _ := h18; have KEEP : Hid _ := PV.two h18; clear h18 G18)
                  | (go_at_call 19; refine (Hid.out G19 _ (Hid.out H18)).mono ?_; rintro e w19 ⟨rfl, h19⟩; have H19 : Hid _ := h19; have KEEP : Hid _ := PV.two h19; clear h19 G19)
                  | (go_at_call 20; refine (Hid.out G20 _ (Hid.out H19)).mono ?_; rintro e w20 ⟨rfl, h20⟩; have H20 : Hid _ := h20; have KEEP : Hid _ := PV.two h20; clear h20 G20)
                  | (go_at_call 21; refine (Hid.out G21 _ (Hid.out H20)).mono ?_; rintro e w21 ⟨rfl, h21⟩; have H21 : Hid _ := h21; have KEEP : Hid _ := PV.two h21; clear h21 G21))
                clear y1 y2 KEEP
                go_wp2_with (first
                  | (go_at_call 22; first | (refine (Hid.out K22 _ (Hid.out H23)).mono ?_; rintro e w24 ⟨rfl, h24⟩; have H24 : Hid _ := h24; clear h24 K22) | (refine (Hid.out G22 _ (Hid.out H21)).mono ?_; rintro e w22 ⟨rfl, h22⟩; have H22 : Hid _ := h22; clear h22 G22))
                  | (go_at_call 23; first | (refine (Hid.out K23 _ (Hid.out H24)).mono ?_; rintro e w25 ⟨rfl, h25⟩; have H25 : Hid _ := h25; clear h25 K23) | (refine (Hid.out G23 _ (Hid.out H22)).mono ?_; rintro e w23 ⟨rfl, h23⟩; have H23 : Hid _ := h23; clear h23 G23))
                  | (go_at_call 24; refine (Hid.out G24 _ (Hid.out H25)).mono ?_; rintro e w26 ⟨rfl, h26⟩; have H26 : Hid _ := h26; clear h26 G24)
                  | (go_at_call 25; refine (Hid.out G25 _ (Hid.out H26)).mono ?_; rintro e w27 ⟨rfl, h27⟩; have H27 : Hid _ := h27; clear h27 G25))
                go_roundw
                case rel => exact ⟨i + 1, L, by go_num, by omega, HOK.out, (H27.out.nd.less (fun _ g => g.elim))⟩
                case measure => simp [intOf]; omega
              · go_wp2_with (first
                  | (go_at_call 12; refine FXX.mono ?_; rintro e w3 ⟨rfl, h3, o3, a3, l3⟩; clear e0 e1 e2 e3 e4 e5 e6 e7 e8 e9 e10; obtain ⟨e0, e1, e2, e3, e4, e5, e6, e7, e8, e9, e10⟩ := o3.cells; have N3 : Hid _ := h3; have O3 : Hid _ := o3; have A3 : Hid _ := a3; clear h3 o3 a3 FXX)
                  | (go_at_call 13; refine (Hid.out FYY _ _ (Hid.out N3) (Hid.out O3) (Hid.out A3)).mono ?_; rintro e w4 ⟨rfl, h4, o4, a4, b4, l4⟩; clear e0 e1 e2 e3 e4 e5 e6 e7 e8 e9 e10; obtain ⟨e0, e1, e2, e3, e4, e5, e6, e7, e8, e9, e10⟩ := o4.cells; obtain ⟨p0, p1, p2, p3, p4, p5, p6, p7⟩ := a4.cells; obtain ⟨q0, q1, q2, q3, q4, q5, q6, q7⟩ := b4.cells; have N4 : Hid _ := h4; have O4 : Hid _ := o4; have A4 : Hid _ := a4; have B4 : Hid _ := b4; clear h4 o4 a4 b4 FYY N3 O3 A3))
                have HV : Hid _ := HVF.out _ _ _ N4.out O4.out
                obtain ⟨V, hV⟩ : ∃ V, V = w4.alloc (.cells (ics u) 35) := ⟨_, rfl⟩
                rw [← hV] at HV
                simp only [ics] at hV
                rw [← hV]
                obtain ⟨ob, hob⟩ : ∃ ob, wr.heap.size = ob := ⟨_, rfl⟩
                simp only [hob] at HV ⊢
                clear hob hV N4 O4 A4 B4 HVF e0 e1 e2 e3 e4 e5 e6 e7 e8 e9 e10 p0 p1 p2 p3 p4 p5 p6 p7 q0 q1 q2 q3 q4 q5 q6 q7 c0 c1 c2 c3 c4 c5 c6 c7 c8 c9 c10
                have G16 : Hid (∀ W, PV w ob s n room L B tb pu W → Calls Try.prog 16 #[.pointer (some ⟨B, 0, none⟩), .int .i64 s.a, .int .i64 s.b] W fun e w' => e = .returned (.int .i64 ((((L s.a s.b).length : Nat) : Int))) ∧ PV w ob s n room L B tb pu w') := fun W hp => hp.readX (fun h => len_any' h s.a s.b)
                have G17 : Hid (∀ W, PV w ob s n room L B tb pu W → Calls Try.prog 17 #[.pointer (some ⟨tb, 0, none⟩), .int .i64 s.a, .int .i64 s.b] W fun e w' => e = .returned (.int .i64 ((((L s.a s.b).length : Nat) : Int))) ∧ PV w ob s n room L B tb pu w') := fun W hp => hp.readD (fun F h => dlen_any h s.a s.b)
                have G18 : Hid (∀ W, PV w ob s n room L B tb pu W → Calls Try.prog 18 #[.pointer (some ⟨B, 0, none⟩), .int .i64 s.a, .int .i64 s.b] W fun e w' => e = .returned (.int .i64 (roomN n room L s.a s.b)) ∧ PV w ob s n room L B tb pu w') := fun W hp => hp.readX (fun h => room_any h s.a s.b)
                have G19 : Hid (∀ W, PV w ob s n room L B tb pu W → Calls Try.prog 19 #[.pointer (some ⟨tb, 0, none⟩), .int .i64 s.a, .int .i64 s.b] W fun e w' => e = .returned (.int .i64 (roomN n room L s.a s.b)) ∧ PV w ob s n room L B tb pu w') := fun W hp => hp.readD (fun F h => droom_any h s.a s.b)
                have G20 : Hid (∀ W, PV w ob s n room L B tb pu W → Calls Try.prog 20 #[.pointer (some ⟨B, 0, none⟩)] W fun e w' => e = .returned (.int .i64 ((((itms n L).length : Nat) : Int))) ∧ PV w ob s n room L B tb pu w') := fun W hp => hp.readX (fun h => all_any h)
                have G21 : Hid (∀ W, PV w ob s n room L B tb pu W → Calls Try.prog 21 #[.pointer (some ⟨tb, 0, none⟩)] W fun e w' => e = .returned (.int .i64 ((((itms n L).length : Nat) : Int))) ∧ PV w ob s n room L B tb pu w') := fun W hp => hp.readD (fun F h => dall_any h)
                have G22 : Hid (∀ W, PV w ob s n room L B tb pu W → Calls Try.prog 22 #[.pointer (some ⟨B, 0, none⟩), .int .i64 0] W fun e w' => e = .returned (.int .i64 (((carr 0 (itms n L) : Nat) : Int))) ∧ PV w ob s n room L B tb pu w') := fun W hp => hp.readX (fun h => carried_any h 0)
                have G23 : Hid (∀ W, PV w ob s n room L B tb pu W → Calls Try.prog 23 #[.pointer (some ⟨tb, 0, none⟩), .int .i64 0] W fun e w' => e = .returned (.int .i64 (((carr 0 (itms n L) : Nat) : Int))) ∧ PV w ob s n room L B tb pu w') := fun W hp => hp.readD (fun F h => dcarried_any h 0)
                have K22 : Hid (∀ W, PV w ob s n room L B tb pu W → Calls Try.prog 22 #[.pointer (some ⟨B, 0, none⟩), .int .i64 1] W fun e w' => e = .returned (.int .i64 (((carr 1 (itms n L) : Nat) : Int))) ∧ PV w ob s n room L B tb pu w') := fun W hp => hp.readX (fun h => carried_any h 1)
                have K23 : Hid (∀ W, PV w ob s n room L B tb pu W → Calls Try.prog 23 #[.pointer (some ⟨tb, 0, none⟩), .int .i64 1] W fun e w' => e = .returned (.int .i64 (((carr 1 (itms n L) : Nat) : Int))) ∧ PV w ob s n room L B tb pu w') := fun W hp => hp.readD (fun F h => dcarried_any h 1)
                have G24 : Hid (∀ W, PV w ob s n room L B tb pu W → Calls Try.prog 24 #[.pointer (some ⟨B, 0, none⟩)] W fun e w' => e = .returned (.int .i64 (lstI (tms (itms n L)))) ∧ PV w ob s n room L B tb pu w') := fun W hp => hp.readX (fun h => least_net h)
                have G25 : Hid (∀ W, PV w ob s n room L B tb pu W → Calls Try.prog 25 #[.pointer (some ⟨tb, 0, none⟩)] W fun e w' => e = .returned (.int .i64 (lstI (tms (itms n L)))) ∧ PV w ob s n room L B tb pu w') := fun W hp => hp.readD (fun F h => dleast_any h)
                obtain ⟨lv, hlv⟩ : ∃ lv, (L s.a s.b).length = lv := ⟨_, rfl⟩
                obtain ⟨mv, hmv⟩ : ∃ mv, roomN n room L s.a s.b = mv := ⟨_, rfl⟩
                obtain ⟨av, hav⟩ : ∃ av, (itms n L).length = av := ⟨_, rfl⟩
                obtain ⟨cv, hcv⟩ : ∃ cv, carr 0 (itms n L) = cv := ⟨_, rfl⟩
                obtain ⟨dv, hdv⟩ : ∃ dv, carr 1 (itms n L) = dv := ⟨_, rfl⟩
                obtain ⟨ev, hev⟩ : ∃ ev, lstI (tms (itms n L)) = ev := ⟨_, rfl⟩
                simp only [hlv] at G16 G17
                simp only [hmv] at G18 G19
                simp only [hav] at G20 G21
                simp only [hcv] at G22 G23
                simp only [hdv] at K22 K23
                simp only [hev] at G24 G25
                clear hlv hmv hav hcv hdv hev
                obtain ⟨y1, y2⟩ := PV.two HV.out
                go_region_held3 (fun w' => w'.cell? ⟨ob, 1, none⟩ = some (.int .i64 s.a) ∧ w'.cell? ⟨ob, 2, none⟩ = some (.int .i64 s.b)) (first | (go_keep; done) | exact Hid.out KEEP) (first
                  | (go_at_call 16; refine (Hid.out G16 _ ((Hid.out HV).on ((Below.refl _ _).drew))).mono ?_; rintro e w16 ⟨rfl, h16⟩; have H16 : Hid _ := h16; have KEEP : Hid _ := PV.two h16; clear h16 G16)
                  | (go_at_call 17; refine (Hid.out G17 _ (Hid.out H16)).mono ?_; rintro e w17 ⟨rfl, h17⟩; have H17 : Hid _ := h17; have KEEP : Hid _ := PV.two h17; clear h17 G17)
                  | (go_at_call 18; refine (Hid.out G18 _ (Hid.out H17)).mono ?_; rintro e w18 ⟨rfl, h18⟩; have H18 : Hid _ := h18; have KEEP : Hid _ := PV.two h18; clear h18 G18)
                  | (go_at_call 19; refine (Hid.out G19 _ (Hid.out H18)).mono ?_; rintro e w19 ⟨rfl, h19⟩; have H19 : Hid _ := h19; have KEEP : Hid _ := PV.two h19; clear h19 G19)
                  | (go_at_call 20; refine (Hid.out G20 _ (Hid.out H19)).mono ?_; rintro e w20 ⟨rfl, h20⟩; have H20 : Hid _ := h20; have KEEP : Hid _ := PV.two h20; clear h20 G20)
                  | (go_at_call 21; refine (Hid.out G21 _ (Hid.out H20)).mono ?_; rintro e w21 ⟨rfl, h21⟩; have H21 : Hid _ := h21; have KEEP : Hid _ := PV.two h21; clear h21 G21))
                clear y1 y2 KEEP
                go_wp2_with (first
                  | (go_at_call 22; first | (refine (Hid.out K22 _ (Hid.out H23)).mono ?_; rintro e w24 ⟨rfl, h24⟩; have H24 : Hid _ := h24; clear h24 K22) | (refine (Hid.out G22 _ (Hid.out H21)).mono ?_; rintro e w22 ⟨rfl, h22⟩; have H22 : Hid _ := h22; clear h22 G22))
                  | (go_at_call 23; first | (refine (Hid.out K23 _ (Hid.out H24)).mono ?_; rintro e w25 ⟨rfl, h25⟩; have H25 : Hid _ := h25; clear h25 K23) | (refine (Hid.out G23 _ (Hid.out H22)).mono ?_; rintro e w23 ⟨rfl, h23⟩; have H23 : Hid _ := h23; clear h23 G23))
                  | (go_at_call 24; refine (Hid.out G24 _ (Hid.out H25)).mono ?_; rintro e w26 ⟨rfl, h26⟩; have H26 : Hid _ := h26; clear h26 G24)
                  | (go_at_call 25; refine (Hid.out G25 _ (Hid.out H26)).mono ?_; rintro e w27 ⟨rfl, h27⟩; have H27 : Hid _ := h27; clear h27 G25))
                go_roundw
                case rel => exact ⟨i + 1, L, by go_num, by omega, HOK.out, (H27.out.nd.less (fun _ g => g.elim))⟩
                case measure => simp [intOf]; omega
            · have dk2 : (s.k == 2) = false := by simpa using hk2
              clear hk0 hk1 hk2
              obtain ⟨W0, hW0⟩ : ∃ W0, W0 = wr.alloc (.cells (scs s) 37) := ⟨_, rfl⟩
              rw [← hW0] at HX HM
              simp only [scs] at hW0
              obtain ⟨ob, hob⟩ : ∃ ob, wr.heap.size = ob := ⟨_, rfl⟩
              rw [hob] at HX HM
              have hobB : ob ≠ B := by omega
              have HV : Hid (PV w ob s n room L B tb pu W0) := ⟨HM.out, HX.out⟩
              go_wp2
              rw [← hW0]
              try simp only [hob]
              clear hW0 hob HX HM HN hBl c0 c1 c2 c3 c4 c5 c6 c7 c8 c9 c10
              have G16 : Hid (∀ W, PV w ob s n room L B tb pu W → Calls Try.prog 16 #[.pointer (some ⟨B, 0, none⟩), .int .i64 s.a, .int .i64 s.b] W fun e w' => e = .returned (.int .i64 ((((L s.a s.b).length : Nat) : Int))) ∧ PV w ob s n room L B tb pu w') := fun W hp => hp.readX (fun h => len_any' h s.a s.b)
              have G17 : Hid (∀ W, PV w ob s n room L B tb pu W → Calls Try.prog 17 #[.pointer (some ⟨tb, 0, none⟩), .int .i64 s.a, .int .i64 s.b] W fun e w' => e = .returned (.int .i64 ((((L s.a s.b).length : Nat) : Int))) ∧ PV w ob s n room L B tb pu w') := fun W hp => hp.readD (fun F h => dlen_any h s.a s.b)
              have G18 : Hid (∀ W, PV w ob s n room L B tb pu W → Calls Try.prog 18 #[.pointer (some ⟨B, 0, none⟩), .int .i64 s.a, .int .i64 s.b] W fun e w' => e = .returned (.int .i64 (roomN n room L s.a s.b)) ∧ PV w ob s n room L B tb pu w') := fun W hp => hp.readX (fun h => room_any h s.a s.b)
              have G19 : Hid (∀ W, PV w ob s n room L B tb pu W → Calls Try.prog 19 #[.pointer (some ⟨tb, 0, none⟩), .int .i64 s.a, .int .i64 s.b] W fun e w' => e = .returned (.int .i64 (roomN n room L s.a s.b)) ∧ PV w ob s n room L B tb pu w') := fun W hp => hp.readD (fun F h => droom_any h s.a s.b)
              have G20 : Hid (∀ W, PV w ob s n room L B tb pu W → Calls Try.prog 20 #[.pointer (some ⟨B, 0, none⟩)] W fun e w' => e = .returned (.int .i64 ((((itms n L).length : Nat) : Int))) ∧ PV w ob s n room L B tb pu w') := fun W hp => hp.readX (fun h => all_any h)
              have G21 : Hid (∀ W, PV w ob s n room L B tb pu W → Calls Try.prog 21 #[.pointer (some ⟨tb, 0, none⟩)] W fun e w' => e = .returned (.int .i64 ((((itms n L).length : Nat) : Int))) ∧ PV w ob s n room L B tb pu w') := fun W hp => hp.readD (fun F h => dall_any h)
              have G22 : Hid (∀ W, PV w ob s n room L B tb pu W → Calls Try.prog 22 #[.pointer (some ⟨B, 0, none⟩), .int .i64 0] W fun e w' => e = .returned (.int .i64 (((carr 0 (itms n L) : Nat) : Int))) ∧ PV w ob s n room L B tb pu w') := fun W hp => hp.readX (fun h => carried_any h 0)
              have G23 : Hid (∀ W, PV w ob s n room L B tb pu W → Calls Try.prog 23 #[.pointer (some ⟨tb, 0, none⟩), .int .i64 0] W fun e w' => e = .returned (.int .i64 (((carr 0 (itms n L) : Nat) : Int))) ∧ PV w ob s n room L B tb pu w') := fun W hp => hp.readD (fun F h => dcarried_any h 0)
              have K22 : Hid (∀ W, PV w ob s n room L B tb pu W → Calls Try.prog 22 #[.pointer (some ⟨B, 0, none⟩), .int .i64 1] W fun e w' => e = .returned (.int .i64 (((carr 1 (itms n L) : Nat) : Int))) ∧ PV w ob s n room L B tb pu w') := fun W hp => hp.readX (fun h => carried_any h 1)
              have K23 : Hid (∀ W, PV w ob s n room L B tb pu W → Calls Try.prog 23 #[.pointer (some ⟨tb, 0, none⟩), .int .i64 1] W fun e w' => e = .returned (.int .i64 (((carr 1 (itms n L) : Nat) : Int))) ∧ PV w ob s n room L B tb pu w') := fun W hp => hp.readD (fun F h => dcarried_any h 1)
              have G24 : Hid (∀ W, PV w ob s n room L B tb pu W → Calls Try.prog 24 #[.pointer (some ⟨B, 0, none⟩)] W fun e w' => e = .returned (.int .i64 (lstI (tms (itms n L)))) ∧ PV w ob s n room L B tb pu w') := fun W hp => hp.readX (fun h => least_net h)
              have G25 : Hid (∀ W, PV w ob s n room L B tb pu W → Calls Try.prog 25 #[.pointer (some ⟨tb, 0, none⟩)] W fun e w' => e = .returned (.int .i64 (lstI (tms (itms n L)))) ∧ PV w ob s n room L B tb pu w') := fun W hp => hp.readD (fun F h => dleast_any h)
              obtain ⟨lv, hlv⟩ : ∃ lv, (L s.a s.b).length = lv := ⟨_, rfl⟩
              obtain ⟨mv, hmv⟩ : ∃ mv, roomN n room L s.a s.b = mv := ⟨_, rfl⟩
              obtain ⟨av, hav⟩ : ∃ av, (itms n L).length = av := ⟨_, rfl⟩
              obtain ⟨cv, hcv⟩ : ∃ cv, carr 0 (itms n L) = cv := ⟨_, rfl⟩
              obtain ⟨dv, hdv⟩ : ∃ dv, carr 1 (itms n L) = dv := ⟨_, rfl⟩
              obtain ⟨ev, hev⟩ : ∃ ev, lstI (tms (itms n L)) = ev := ⟨_, rfl⟩
              simp only [hlv] at G16 G17
              simp only [hmv] at G18 G19
              simp only [hav] at G20 G21
              simp only [hcv] at G22 G23
              simp only [hdv] at K22 K23
              simp only [hev] at G24 G25
              clear hlv hmv hav hcv hdv hev
              obtain ⟨y1, y2⟩ := PV.two HV.out
              go_region_held3 (fun w' => w'.cell? ⟨ob, 1, none⟩ = some (.int .i64 s.a) ∧ w'.cell? ⟨ob, 2, none⟩ = some (.int .i64 s.b)) (first | (go_keep; done) | exact Hid.out KEEP) (first
                | (go_at_call 16; refine (Hid.out G16 _ ((Hid.out HV).on ((Below.refl _ _).drew))).mono ?_; rintro e w16 ⟨rfl, h16⟩; have H16 : Hid _ := h16; have KEEP : Hid _ := PV.two h16; clear h16 G16)
                | (go_at_call 17; refine (Hid.out G17 _ (Hid.out H16)).mono ?_; rintro e w17 ⟨rfl, h17⟩; have H17 : Hid _ := h17; have KEEP : Hid _ := PV.two h17; clear h17 G17)
                | (go_at_call 18; refine (Hid.out G18 _ (Hid.out H17)).mono ?_; rintro e w18 ⟨rfl, h18⟩; have H18 : Hid _ := h18; have KEEP : Hid _ := PV.two h18; clear h18 G18)
                | (go_at_call 19; refine (Hid.out G19 _ (Hid.out H18)).mono ?_; rintro e w19 ⟨rfl, h19⟩; have H19 : Hid _ := h19; have KEEP : Hid _ := PV.two h19; clear h19 G19)
                | (go_at_call 20; refine (Hid.out G20 _ (Hid.out H19)).mono ?_; rintro e w20 ⟨rfl, h20⟩; have H20 : Hid _ := h20; have KEEP : Hid _ := PV.two h20; clear h20 G20)
                | (go_at_call 21; refine (Hid.out G21 _ (Hid.out H20)).mono ?_; rintro e w21 ⟨rfl, h21⟩; have H21 : Hid _ := h21; have KEEP : Hid _ := PV.two h21; clear h21 G21))
              clear y1 y2 KEEP
              go_wp2_with (first
                | (go_at_call 22; first | (refine (Hid.out K22 _ (Hid.out H23)).mono ?_; rintro e w24 ⟨rfl, h24⟩; have H24 : Hid _ := h24; clear h24 K22) | (refine (Hid.out G22 _ (Hid.out H21)).mono ?_; rintro e w22 ⟨rfl, h22⟩; have H22 : Hid _ := h22; clear h22 G22))
                | (go_at_call 23; first | (refine (Hid.out K23 _ (Hid.out H24)).mono ?_; rintro e w25 ⟨rfl, h25⟩; have H25 : Hid _ := h25; clear h25 K23) | (refine (Hid.out G23 _ (Hid.out H22)).mono ?_; rintro e w23 ⟨rfl, h23⟩; have H23 : Hid _ := h23; clear h23 G23))
                | (go_at_call 24; refine (Hid.out G24 _ (Hid.out H25)).mono ?_; rintro e w26 ⟨rfl, h26⟩; have H26 : Hid _ := h26; clear h26 G24)
                | (go_at_call 25; refine (Hid.out G25 _ (Hid.out H26)).mono ?_; rintro e w27 ⟨rfl, h27⟩; have H27 : Hid _ := h27; clear h27 G25))
              go_roundw
              case rel => exact ⟨i + 1, L, by go_num, by omega, HOK.out, (H27.out.nd.less (fun _ g => g.elim))⟩
              case measure => simp [intOf]; omega
      · obtain rfl : i = z.length := by omega
        have C2 : Calls Try.prog 22 #[.pointer (some ⟨B, 0, none⟩), .int .i64 2] wr fun e w' => e = .returned (.int .i64 0) ∧ ND w w' (fun _ => False) n room L L B tb pu := by
          have := carried_any HN.out.x.net 2
          rw [HOK.out.two] at this
          exact this.mono fun e w' ⟨he, hb⟩ => ⟨he, HN.out.on hb⟩
        have L0 : Hid (∀ W, ND w W (fun _ => False) n room L L B tb pu → Calls Try.prog 16 #[.pointer (some ⟨B, 0, none⟩), .int .i64 0, .int .i64 0] W fun e w' => e = .returned (.int .i64 0) ∧ ND w w' (fun _ => False) n room L L B tb pu) := fun W h => by
          have h1 := len_any h.x.net 0 0
          rw [h.x.net.ok.no 0 0 (no_link n 0)] at h1
          exact h1.mono fun e w' ⟨he, hw⟩ => ⟨he, hw ▸ h⟩
        have R0 : Hid (∀ W, ND w W (fun _ => False) n room L L B tb pu → Calls Try.prog 18 #[.pointer (some ⟨B, 0, none⟩), .int .i64 (-1), .int .i64 0] W fun e w' => e = .returned (.int .i64 0) ∧ ND w w' (fun _ => False) n room L L B tb pu) := fun W h => by
          have h1 := room_any h.x.net (-1) 0
          have e : roomN n room L (-1) 0 = 0 := by
            unfold roomN
            rw [if_neg (by intro g; have := (isL_iff n (-1) 0).1 g; omega)]
          rw [e] at h1
          exact h1.mono fun e w' ⟨he, hb⟩ => ⟨he, h.on hb⟩
        have EX : Hid (∀ W, ND w W (fun _ => False) n room L L B tb pu → Calls Try.prog 24 #[.pointer (some ⟨B, 0, none⟩)] W fun e w' => e = .returned (.int .i64 (lstI (tms (itms n L)))) ∧ ND w w' (fun _ => False) n room L L B tb pu) := fun W h =>
          (least_net h.x.net).mono fun e w' ⟨he, hb⟩ => ⟨he, h.on hb⟩
        have EY : Hid (∀ W, ND w W (fun _ => False) n room L L B tb pu → Calls Try.prog 25 #[.pointer (some ⟨tb, 0, none⟩)] W fun e w' => e = .returned (.int .i64 (lstI (tms (itms n L)))) ∧ ND w w' (fun _ => False) n room L L B tb pu) := fun W h =>
          (h.readD (fun F hd => dleast_any hd)).mono fun e w' ⟨he, hn, hb⟩ => ⟨he, hn⟩
        obtain ⟨ev, hev⟩ : ∃ ev, lstI (tms (itms n L)) = ev := ⟨_, rfl⟩
        simp only [hev] at EX EY
        clear hev
        go_wp2_with (first
          | (go_at_call 22; refine C2.mono ?_; rintro e k1 ⟨rfl, h1⟩; have K1 : Hid _ := h1; clear h1 C2)
          | (go_at_call 16; refine (Hid.out L0 _ (Hid.out K1)).mono ?_; rintro e k2 ⟨rfl, h2⟩; have K2 : Hid _ := h2; clear h2 L0)
          | (go_at_call 18; refine (Hid.out R0 _ (Hid.out K2)).mono ?_; rintro e k3 ⟨rfl, h3⟩; have K3 : Hid _ := h3; clear h3 R0)
          | (go_at_call 24; refine (Hid.out EX _ (Hid.out K3)).mono ?_; rintro e k4 ⟨rfl, h4⟩; have K4 : Hid _ := h4; clear h4 EX)
          | (go_at_call 25; refine (Hid.out EY _ (Hid.out K4)).mono ?_; rintro e k5 ⟨rfl, h5⟩; have K5 : Hid _ := h5; clear h5 EY))
        go_ret
        exact ⟨rfl, K5.out.x.bel⟩
  · have NW := new_no w n0 r0 hok
    have NX := dnew_no w n0 r0 hok
    unfold maxLen at hn
    clear hz hok
    go_enter Try.func3, Try.ntmps3
    go_wp2_with (first | (go_at_call 8; refine NW.mono ?_; rintro e w1 ⟨rfl, rfl⟩; clear NW) | (go_at_call 9; refine NX.mono ?_; rintro e w2 ⟨rfl, rfl⟩; clear NX))
    go_ret
    exact ⟨rfl, Below.refl _ _⟩
end Go.Proofs.Ytkngokpildoljaa
