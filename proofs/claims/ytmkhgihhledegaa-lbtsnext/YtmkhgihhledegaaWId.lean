/- Proved: the walk of LbtsIdle. -/
import Derived.Test.YtmkhgihhledegaaMkl
import Derived.Test.YtmkhgihhledegaaOpm
namespace Go.Proofs.Ytmkhgihhledegaa
open Go.RowKit Go.Shelf
open L (Mb IsG lbt oth outM cnt vadd)
set_option linter.unusedVariables false

def lkI (ls : List Int) (j : Nat) : Int := if j < ls.length then 1 + nthI ls j else 1
def reI (of : List Bool) (j : Nat) : Bool := if j < of.length then !of.getD j false else true
def idl (ts ls : List Int) (of : List Bool) (j : Nat) : Mb := ⟨reI of j, ((j : Int) % 2 == 0), nthI ts j, lkI ls j, 0, 7, 3⟩
def wnt (ts ls : List Int) (of : List Bool) (q : Nat) : Nat → Int
  | 0 => 1125899906842624
  | k + 1 => if reI of k = true ∧ k ≠ q then min (wnt ts ls of q k) (nthI ts k + lkI ls k) else wnt ts ls of q k
theorem idle_is {ts ls : List Int} {of : List Bool} {q n : Nat} {O : Nat → Int} (hG : IsG (mkL (idl ts ls of) n) O) (ht : ∀ j, j < n → 0 ≤ nthI ts j ∧ nthI ts j ≤ 65535) (hl : ∀ j, 1 ≤ lkI ls j ∧ lkI ls j ≤ 256) : ∀ k, k ≤ n → oth (mkL (idl ts ls of) n) O q k = wnt ts ls of q k
  | 0, _ => rfl
  | k + 1, hk => by
    have ih := idle_is (q := q) hG ht hl k (by omega)
    unfold L.oth wnt
    rw [ih, mkL_nth _ (show k < n by omega)]
    have e := hG.idle (j := k) (fun j hj => by rw [mkL_len] at hj; rw [mkL_nth _ hj]; rfl) (by rw [mkL_len]; omega)
    rw [mkL_nth _ (show k < n by omega)] at e
    by_cases g : reI of k = true ∧ k ≠ q
    · have g2 : (k : Int) ≠ (q : Int) ∧ (idl ts ls of k).re = true := ⟨by have := g.2; omega, g.1⟩
      rw [if_pos g, if_pos g2, e, if_pos g2.2]
      have a := ht k (by omega)
      have b := hl k
      congr 1
      show vadd (L.look (idl ts ls of k)) (cnt (nthI ts k)) = _
      have e1 : L.look (idl ts ls of k) = lkI ls k := by unfold L.look; show max 1 (min (lkI ls k) 1048576) = _; omega
      rw [e1]
      unfold L.vadd
      rw [L.cnt_cnt, L.cnt_mid (t := lkI ls k) (by omega) (by omega), L.cnt_mid (t := nthI ts k) (by omega) (by omega), L.cnt_mid (by omega) (by omega)]
      omega
    · rw [if_neg g, if_neg (fun q => g ⟨q.2, by have := q.1; omega⟩)]
set_option maxRecDepth 100000 in
set_option maxHeartbeats 4000000 in
theorem idle_walk (w : World) (sa : Option Addr) (sc : Nat) (ts : List Int) (hn : ts.length ≤ maxLen) (hz : InN .u16 65535 w sa ts) (la : Option Addr) (lc : Nat) (ls : List Int) (hln : ls.length ≤ maxLen) (hlz : InN .u8 255 w la ls) (oa : Option Addr) (oc : Nat) (of : List Bool) (hon : of.length ≤ maxLen) (hoz : InT w oa of) (i : Int) (hi : 0 ≤ i ∧ i ≤ 255) :
    Calls Try.prog 7 #[.slice sa ts.length sc, .slice la ls.length lc, .slice oa of.length oc, .int .u8 i] w fun e w' => e = .returned (.bool true) ∧ Below w.heap.size w w' := by
  unfold maxLen at hn hln hon
  obtain ⟨i0, i1⟩ := hi
  have HT : Hid (InN .u16 65535 w sa ts) := hz
  have HL : Hid (InN .u8 255 w la ls) := hlz
  have HO : Hid (InT w oa of) := hoz
  obtain ⟨n, hnn⟩ : ∃ n, ts.length = n := ⟨_, rfl⟩
  obtain ⟨ln, hlnn⟩ : ∃ ln, ls.length = ln := ⟨_, rfl⟩
  obtain ⟨on, honn⟩ : ∃ on, of.length = on := ⟨_, rfl⟩
  have HN : Hid (ts.length = n ∧ ls.length = ln ∧ of.length = on) := ⟨hnn, hlnn, honn⟩
  rw [hnn] at hn ⊢
  rw [hlnn] at hln ⊢
  rw [honn] at hon ⊢
  have NI : Hid (∀ W, Calls Try.prog 12 #[.slice none 0 0, .int .i64 0] W fun e w' => e = .returned (.int .i64 1125899906842624) ∧ Below W.heap.size W w') := fun W => pb_nil W 0
  clear hnn hlnn honn hz hlz hoz
  by_cases hb : 20 < n ∨ n = 0
  · have hd : (decide ((20 : Int) < (n : Int)) || ((n : Int) == 0)) = true := by
      rcases hb with h | h
      · simp; omega
      · simp [h]
    rcases hb with h | h
    · have hb' : (20 : Int) < (n : Int) := by omega
      clear hd
      go_enter Try.func7, Try.ntmps7
      go_wp2_with (go_at_call 12; refine (Hid.out NI _).mono ?_; rintro e w1 ⟨rfl, h1⟩; have B1 : Hid _ := h1; clear h1)
      go_ret
      exact ⟨rfl, B1.out⟩
    · subst h
      clear hd
      go_enter Try.func7, Try.ntmps7
      go_wp2_with (go_at_call 12; refine (Hid.out NI _).mono ?_; rintro e w1 ⟨rfl, h1⟩; have B1 : Hid _ := h1; clear h1)
      go_ret
      exact ⟨rfl, B1.out⟩
  have hb' : ¬ (20 : Int) < (n : Int) := by omega
  have hb2 : ((n : Int) == 0) = false := by simp; omega
  have hn0 : (n : Int) ≠ 0 := by omega
  have hn1 : 0 < n := by omega
  have hn20 : n ≤ 20 := by omega
  have ma := Int.emod_nonneg i (b := (n : Int)) (by omega)
  have ma' := Int.emod_lt_of_pos i (b := (n : Int)) (by omega)
  obtain ⟨q, hq⟩ : ∃ q : Nat, i % (n : Int) = q := ⟨(i % (n : Int)).toNat, by omega⟩
  have hqn : q < n := by omega
  clear ma ma' hb
  have H0 : Hid _ := Mk.made (Below.refl w.heap.size w) (idl ts ls of)
  go_enter Try.func7, Try.ntmps7
  go_wp2_with fail
  go_loopw [9, 11, 12] (fun s9 s11 s12 wr => ∃ (k : Nat) (ra : Option Addr) (rc : Nat), s12 = .int .i64 k ∧ k ≤ n ∧ s9 = .slice ra k rc ∧ s11 = .int .i64 (wnt ts ls of q k) ∧ Hid (Mk w wr (.slice ra k rc) (idl ts ls of) k)) (fun _ _ s12 _ => n - (intOf s12).toNat)
  case atStart => exact ⟨0, _, _, rfl, Nat.zero_le _, rfl, rfl, H0.out⟩
  case round =>
    obtain ⟨k, ra, rc, rfl, hk, rfl, rfl, HR⟩ := hrel
    by_cases hlt : k < n
    · have hlt' : (k : Int) < (n : Int) := by omega
      obtain ⟨t0, t1, tb, toff, rfl, htb, htc⟩ := HT.out.cell (by rw [HN.out.1]; exact hlt)
      have ct := htc _ HR.out.bel
      obtain ⟨t, htt⟩ : ∃ t, nthI ts k = t := ⟨_, rfl⟩
      rw [htt] at t0 t1 ct
      have htw : tb < wr.heap.size := clt ct
      obtain ⟨x, hx⟩ : ∃ x, wnt ts ls of q k = x := ⟨_, rfl⟩
      obtain ⟨lk, hlk⟩ : ∃ lk, lkI ls k = lk := ⟨_, rfl⟩
      obtain ⟨re, hre⟩ : ∃ re, reI of k = re := ⟨_, rfl⟩
      have HM : Hid (mkL (idl ts ls of) k ++ [⟨re, ((k : Int) % 2 == 0), t, lk, 0, 7, 3⟩] = mkL (idl ts ls of) (k + 1)) := by
        show _ = _
        rw [← mkL_succ, ← htt, ← hlk, ← hre]
        rfl
      have HW : Hid (wnt ts ls of q (k + 1) = if re = true ∧ k ≠ q then min x (t + lk) else x) := by
        show _ = _
        rw [← htt, ← hlk, ← hre, ← hx]
        rfl
      rw [hx]
      have HTC : Hid (∀ W, Below w.heap.size w W → W.cell? ⟨tb, toff + k, none⟩ = some (.int .u16 t)) := fun W hW => by rw [← htt]; exact htc W hW
      obtain ⟨Z, hZ⟩ : ∃ Z, mkL (idl ts ls of) k = Z := ⟨_, rfl⟩
      obtain ⟨Y, hY⟩ : ∃ Y, mkL (idl ts ls of) (k + 1) = Y := ⟨_, rfl⟩
      have HX : Hid (Z ++ [⟨re, ((k : Int) % 2 == 0), t, lk, 0, 7, 3⟩] = Y ∧ Z.length = k ∧ Y.length = k + 1) := ⟨by rw [← hZ, ← hY]; exact HM.out, by rw [← hZ, mkL_len], by rw [← hY, mkL_len]⟩
      have HYE : Hid (mkL (idl ts ls of) (k + 1) = Y) := hY
      unfold Mk at HR
      rw [hZ] at HR
      clear htc htt hx hZ hY HM
      by_cases c1 : k < ln
      · have c1' : (k : Int) < (ln : Int) := by omega
        obtain ⟨l0, l1, lb, loff, rfl, hlb, hlc⟩ := HL.out.cell (by rw [HN.out.2.1]; exact c1)
        have cl := hlc _ HR.out.bel
        have elk : 1 + nthI ls k = lk := by rw [← hlk]; unfold lkI; rw [if_pos (by rw [HN.out.2.1]; exact c1)]
        obtain ⟨y, hy⟩ : ∃ y, nthI ls k = y := ⟨_, rfl⟩
        rw [hy] at l0 l1 cl elk
        clear hlc hy hlk
        by_cases c2 : k < on
        · have c2' : ¬ (k : Int) ≥ (on : Int) := by omega
          have c2a : ¬ (on : Int) ≤ (k : Int) := by omega
          have c2b : (k : Int) < (on : Int) := by omega
          have c2n : ¬ on ≤ k := by omega
          obtain ⟨z, hz⟩ : ∃ z, of.getD k false = z := ⟨_, rfl⟩
          obtain ⟨ob, ooff, rfl, hob, hoc⟩ := HO.out.cell (by rw [HN.out.2.2]; exact c2) hz
          have co := hoc _ HR.out.bel
          have how : ob < wr.heap.size := clt co
          have ere : (!z) = re := by rw [← hre]; unfold reI; rw [if_pos (by rw [HN.out.2.2]; exact c2), hz]
          clear hz hoc hre
          subst ere
          cases z
          · have zz : True := trivial
            have HV1 : Hid (k = q → wnt ts ls of q (k + 1) = x) := fun e => HW.out.trans (if_neg (fun g => g.2 e))
            have HV2 : Hid (¬ k = q → wnt ts ls of q (k + 1) = min x (t + lk)) := fun e => HW.out.trans (if_pos ⟨rfl, e⟩)
            clear HW
            go_wp2_with fail
            go_region_held3 (fun w' => w'.cell? ⟨tb, toff + k, none⟩ = some (.int .u16 t) ∧ w'.cell? ⟨ob, ooff + k, none⟩ = some (.bool false)) (go_keep) (fail)
            rw [show IntKind.i64.wrap t = t by rw [IntKind.wrap_i64]; omega, show ((k : Int)).tmod 2 = (k : Int) % 2 from Int.tmod_eq_emod_of_nonneg (by omega)]
            obtain ⟨W1, hW1⟩ : ∃ W1, (wr.alloc (.cells #[.bool true, .bool ((k : Int) % 2 == 0), .int .i64 t, .int .i64 lk, .int .i64 0, .int .i64 7, .int .i64 3] 33)).drew = W1 := ⟨_, rfl⟩
            have HB1 : Hid (Below wr.heap.size wr W1) := by rw [← hW1]; exact (al _ _).drew
            have nb : W1.heap[wr.heap.size]? = some (.cells #[.bool true, .bool ((k : Int) % 2 == 0), .int .i64 t, .int .i64 lk, .int .i64 0, .int .i64 7, .int .i64 3] 33) := by rw [← hW1]; exact (MapKept.heap_alloc wr _).1
            have hql : wr.heap.size < W1.heap.size := by rw [← hW1]; simp
            obtain ⟨qb, hqb⟩ : ∃ qb, wr.heap.size = qb := ⟨_, rfl⟩
            rw [hW1]
            simp only [hqb] at nb hql ⊢
            have e0 : W1.cell? ⟨qb, 0, none⟩ = some (.bool true) := by simp [World.cell?, nb]
            have e1 : W1.cell? ⟨qb, 1, none⟩ = some (.bool ((k : Int) % 2 == 0)) := by simp [World.cell?, nb]
            have e2 : W1.cell? ⟨qb, 2, none⟩ = some (.int .i64 t) := by simp [World.cell?, nb]
            have e3 : W1.cell? ⟨qb, 3, none⟩ = some (.int .i64 lk) := by simp [World.cell?, nb]
            have e4 : W1.cell? ⟨qb, 4, none⟩ = some (.int .i64 0) := by simp [World.cell?, nb]
            have e5 : W1.cell? ⟨qb, 5, none⟩ = some (.int .i64 7) := by simp [World.cell?, nb]
            have e6 : W1.cell? ⟨qb, 6, none⟩ = some (.int .i64 3) := by simp [World.cell?, nb]
            have HX2 : Hid (∀ W2 w3, Below W1.heap.size W1 W2 → Fr (fun g => (Value.slice ra k rc).ownBlock = some g) W2 w3 → w3.cell? ⟨qb, 0, none⟩ = some (.bool true)) := fun W2 w3 h2 h3 =>
              (h3.cell (p := ⟨qb, 0, none⟩) (Nat.lt_of_lt_of_le hql h2.size) (fun e => by have h9 := OwR.lt (Rmk.own HR.out) e; rw [hqb] at h9; exact absurd h9 (Nat.lt_irrefl _))).trans ((h2.cell (p := ⟨qb, 0, none⟩) hql).trans e0)
            have HR1 : Hid (Rmk 33 w W1 (.slice ra k rc) Z) := Rmk.on HR.out HB1.out
            clear hW1 nb hqb
            by_cases hkq : k = q
            · have HV : Hid (wnt ts ls of q (k + 1) = x) := HV1.out hkq
              have dq : ((k : Int) != (q : Int)) = false := by simp [hkq]
              clear hkq
              go_wp2_with (at_builtin; refine wpList_append_R tyL (fun _ => True) _ rfl (.tmp 68) (.tmp 70) rfl (.slice ra k rc) _ _ Z [⟨true, ((k : Int) % 2 == 0), t, lk, 0, 7, 3⟩] rfl rfl ((Hid.out HR1).on (al _ _)).own (RdN.newAt cB _ _ _ _ _ (by simp) rfl trivial) (by rw [HX.out.2.1]; omega) (by simp) Y HX.out.1 ?_; intro ra' rc' w3 ho hm; have H3 : Hid (Rmk 33 w w3 (.slice ra' Y.length rc') Y) := ((Hid.out HR1).on (al _ _)).app ho hm; have ct3 := Hid.out HTC w3 (Hid.out H3).bel; have cb3 := Hid.out HX2 _ w3 (al _ _) hm.fr; clear ho hm)
              go_roundw
              case rel =>
                refine ⟨k + 1, ra', rc', by go_num, by omega, by rw [HX.out.2.2], by rw [HV.out], ?_⟩
                have := H3.out
                rw [HX.out.2.2, ← HYE.out] at this
                exact this
              case measure => simp [intOf]; omega
            · have HV : Hid (wnt ts ls of q (k + 1) = min x (t + lk)) := HV2.out hkq
              have dq : ((k : Int) != (q : Int)) = true := by simp; omega
              clear hkq
              go_wp2_with (at_builtin; refine wpList_append_R tyL (fun _ => True) _ rfl (.tmp 68) (.tmp 70) rfl (.slice ra k rc) _ _ Z [⟨true, ((k : Int) % 2 == 0), t, lk, 0, 7, 3⟩] rfl rfl ((Hid.out HR1).on (al _ _)).own (RdN.newAt cB _ _ _ _ _ (by simp) rfl trivial) (by rw [HX.out.2.1]; omega) (by simp) Y HX.out.1 ?_; intro ra' rc' w3 ho hm; have H3 : Hid (Rmk 33 w w3 (.slice ra' Y.length rc') Y) := ((Hid.out HR1).on (al _ _)).app ho hm; have ct3 := Hid.out HTC w3 (Hid.out H3).bel; have cb3 := Hid.out HX2 _ w3 (al _ _) hm.fr; clear ho hm)
              go_roundw
              case rel =>
                refine ⟨k + 1, ra', rc', by go_num, by omega, by rw [HX.out.2.2], by rw [HV.out], ?_⟩
                have := H3.out
                rw [HX.out.2.2, ← HYE.out] at this
                exact this
              case measure => simp [intOf]; omega
          · have zz : True := trivial
            have HV1 : Hid (wnt ts ls of q (k + 1) = x) := HW.out.trans (if_neg (fun g => by cases g.1))
            clear HW
            go_wp2_with fail
            go_region_held3 (fun w' => w'.cell? ⟨tb, toff + k, none⟩ = some (.int .u16 t) ∧ w'.cell? ⟨ob, ooff + k, none⟩ = some (.bool true)) (go_keep) (fail)
            rw [show IntKind.i64.wrap t = t by rw [IntKind.wrap_i64]; omega, show ((k : Int)).tmod 2 = (k : Int) % 2 from Int.tmod_eq_emod_of_nonneg (by omega)]
            obtain ⟨W1, hW1⟩ : ∃ W1, (wr.alloc (.cells #[.bool false, .bool ((k : Int) % 2 == 0), .int .i64 t, .int .i64 lk, .int .i64 0, .int .i64 7, .int .i64 3] 33)).drew = W1 := ⟨_, rfl⟩
            have HB1 : Hid (Below wr.heap.size wr W1) := by rw [← hW1]; exact (al _ _).drew
            have nb : W1.heap[wr.heap.size]? = some (.cells #[.bool false, .bool ((k : Int) % 2 == 0), .int .i64 t, .int .i64 lk, .int .i64 0, .int .i64 7, .int .i64 3] 33) := by rw [← hW1]; exact (MapKept.heap_alloc wr _).1
            have hql : wr.heap.size < W1.heap.size := by rw [← hW1]; simp
            obtain ⟨qb, hqb⟩ : ∃ qb, wr.heap.size = qb := ⟨_, rfl⟩
            rw [hW1]
            simp only [hqb] at nb hql ⊢
            have e0 : W1.cell? ⟨qb, 0, none⟩ = some (.bool false) := by simp [World.cell?, nb]
            have e1 : W1.cell? ⟨qb, 1, none⟩ = some (.bool ((k : Int) % 2 == 0)) := by simp [World.cell?, nb]
            have e2 : W1.cell? ⟨qb, 2, none⟩ = some (.int .i64 t) := by simp [World.cell?, nb]
            have e3 : W1.cell? ⟨qb, 3, none⟩ = some (.int .i64 lk) := by simp [World.cell?, nb]
            have e4 : W1.cell? ⟨qb, 4, none⟩ = some (.int .i64 0) := by simp [World.cell?, nb]
            have e5 : W1.cell? ⟨qb, 5, none⟩ = some (.int .i64 7) := by simp [World.cell?, nb]
            have e6 : W1.cell? ⟨qb, 6, none⟩ = some (.int .i64 3) := by simp [World.cell?, nb]
            have HX2 : Hid (∀ W2 w3, Below W1.heap.size W1 W2 → Fr (fun g => (Value.slice ra k rc).ownBlock = some g) W2 w3 → w3.cell? ⟨qb, 0, none⟩ = some (.bool false)) := fun W2 w3 h2 h3 =>
              (h3.cell (p := ⟨qb, 0, none⟩) (Nat.lt_of_lt_of_le hql h2.size) (fun e => by have h9 := OwR.lt (Rmk.own HR.out) e; rw [hqb] at h9; exact absurd h9 (Nat.lt_irrefl _))).trans ((h2.cell (p := ⟨qb, 0, none⟩) hql).trans e0)
            have HR1 : Hid (Rmk 33 w W1 (.slice ra k rc) Z) := Rmk.on HR.out HB1.out
            clear hW1 nb hqb
            have HV : Hid (wnt ts ls of q (k + 1) = x) := HV1.out
            go_wp2_with (at_builtin; refine wpList_append_R tyL (fun _ => True) _ rfl (.tmp 68) (.tmp 70) rfl (.slice ra k rc) _ _ Z [⟨false, ((k : Int) % 2 == 0), t, lk, 0, 7, 3⟩] rfl rfl ((Hid.out HR1).on (al _ _)).own (RdN.newAt cB _ _ _ _ _ (by simp) rfl trivial) (by rw [HX.out.2.1]; omega) (by simp) Y HX.out.1 ?_; intro ra' rc' w3 ho hm; have H3 : Hid (Rmk 33 w w3 (.slice ra' Y.length rc') Y) := ((Hid.out HR1).on (al _ _)).app ho hm; have ct3 := Hid.out HTC w3 (Hid.out H3).bel; have cb3 := Hid.out HX2 _ w3 (al _ _) hm.fr; clear ho hm)
            go_roundw
            case rel =>
              refine ⟨k + 1, ra', rc', by go_num, by omega, by rw [HX.out.2.2], by rw [HV.out], ?_⟩
              have := H3.out
              rw [HX.out.2.2, ← HYE.out] at this
              exact this
            case measure => simp [intOf]; omega
        · have c2' : (k : Int) ≥ (on : Int) := by omega
          have c2a : (on : Int) ≤ (k : Int) := by omega
          have c2n : on ≤ k := by omega
          have ere : true = re := by rw [← hre]; unfold reI; rw [if_neg (by rw [HN.out.2.2]; exact c2)]
          clear hre
          subst ere
          have HV1 : Hid (k = q → wnt ts ls of q (k + 1) = x) := fun e => HW.out.trans (if_neg (fun g => g.2 e))
          have HV2 : Hid (¬ k = q → wnt ts ls of q (k + 1) = min x (t + lk)) := fun e => HW.out.trans (if_pos ⟨rfl, e⟩)
          clear HW
          go_wp2_with fail
          go_region
          obtain ⟨W1, hW1⟩ : ∃ W1, (wr.alloc (.cells #[.bool true, .bool ((k : Int) % 2 == 0), .int .i64 t, .int .i64 lk, .int .i64 0, .int .i64 7, .int .i64 3] 33)).drew = W1 := ⟨_, rfl⟩
          have HB1 : Hid (Below wr.heap.size wr W1) := by rw [← hW1]; exact (al _ _).drew
          have nb : W1.heap[wr.heap.size]? = some (.cells #[.bool true, .bool ((k : Int) % 2 == 0), .int .i64 t, .int .i64 lk, .int .i64 0, .int .i64 7, .int .i64 3] 33) := by rw [← hW1]; exact (MapKept.heap_alloc wr _).1
          have hql : wr.heap.size < W1.heap.size := by rw [← hW1]; simp
          obtain ⟨qb, hqb⟩ : ∃ qb, wr.heap.size = qb := ⟨_, rfl⟩
          rw [hW1]
          simp only [hqb] at nb hql ⊢
          have e0 : W1.cell? ⟨qb, 0, none⟩ = some (.bool true) := by simp [World.cell?, nb]
          have e1 : W1.cell? ⟨qb, 1, none⟩ = some (.bool ((k : Int) % 2 == 0)) := by simp [World.cell?, nb]
          have e2 : W1.cell? ⟨qb, 2, none⟩ = some (.int .i64 t) := by simp [World.cell?, nb]
          have e3 : W1.cell? ⟨qb, 3, none⟩ = some (.int .i64 lk) := by simp [World.cell?, nb]
          have e4 : W1.cell? ⟨qb, 4, none⟩ = some (.int .i64 0) := by simp [World.cell?, nb]
          have e5 : W1.cell? ⟨qb, 5, none⟩ = some (.int .i64 7) := by simp [World.cell?, nb]
          have e6 : W1.cell? ⟨qb, 6, none⟩ = some (.int .i64 3) := by simp [World.cell?, nb]
          have HX2 : Hid (∀ W2 w3, Below W1.heap.size W1 W2 → Fr (fun g => (Value.slice ra k rc).ownBlock = some g) W2 w3 → w3.cell? ⟨qb, 0, none⟩ = some (.bool true)) := fun W2 w3 h2 h3 =>
            (h3.cell (p := ⟨qb, 0, none⟩) (Nat.lt_of_lt_of_le hql h2.size) (fun e => by have h9 := OwR.lt (Rmk.own HR.out) e; rw [hqb] at h9; exact absurd h9 (Nat.lt_irrefl _))).trans ((h2.cell (p := ⟨qb, 0, none⟩) hql).trans e0)
          have HR1 : Hid (Rmk 33 w W1 (.slice ra k rc) Z) := Rmk.on HR.out HB1.out
          clear hW1 nb hqb
          by_cases hkq : k = q
          · have HV : Hid (wnt ts ls of q (k + 1) = x) := HV1.out hkq
            have dq : ((k : Int) != (q : Int)) = false := by simp [hkq]
            clear hkq
            go_wp2_with (at_builtin; refine wpList_append_R tyL (fun _ => True) _ rfl (.tmp 68) (.tmp 70) rfl (.slice ra k rc) _ _ Z [⟨true, ((k : Int) % 2 == 0), t, lk, 0, 7, 3⟩] rfl rfl ((Hid.out HR1).on (al _ _)).own (RdN.newAt cB _ _ _ _ _ (by simp) rfl trivial) (by rw [HX.out.2.1]; omega) (by simp) Y HX.out.1 ?_; intro ra' rc' w3 ho hm; have H3 : Hid (Rmk 33 w w3 (.slice ra' Y.length rc') Y) := ((Hid.out HR1).on (al _ _)).app ho hm; have ct3 := Hid.out HTC w3 (Hid.out H3).bel; have cb3 := Hid.out HX2 _ w3 (al _ _) hm.fr; clear ho hm)
            go_roundw
            case rel =>
              refine ⟨k + 1, ra', rc', by go_num, by omega, by rw [HX.out.2.2], by rw [HV.out], ?_⟩
              have := H3.out
              rw [HX.out.2.2, ← HYE.out] at this
              exact this
            case measure => simp [intOf]; omega
          · have HV : Hid (wnt ts ls of q (k + 1) = min x (t + lk)) := HV2.out hkq
            have dq : ((k : Int) != (q : Int)) = true := by simp; omega
            clear hkq
            go_wp2_with (at_builtin; refine wpList_append_R tyL (fun _ => True) _ rfl (.tmp 68) (.tmp 70) rfl (.slice ra k rc) _ _ Z [⟨true, ((k : Int) % 2 == 0), t, lk, 0, 7, 3⟩] rfl rfl ((Hid.out HR1).on (al _ _)).own (RdN.newAt cB _ _ _ _ _ (by simp) rfl trivial) (by rw [HX.out.2.1]; omega) (by simp) Y HX.out.1 ?_; intro ra' rc' w3 ho hm; have H3 : Hid (Rmk 33 w w3 (.slice ra' Y.length rc') Y) := ((Hid.out HR1).on (al _ _)).app ho hm; have ct3 := Hid.out HTC w3 (Hid.out H3).bel; have cb3 := Hid.out HX2 _ w3 (al _ _) hm.fr; clear ho hm)
            go_roundw
            case rel =>
              refine ⟨k + 1, ra', rc', by go_num, by omega, by rw [HX.out.2.2], by rw [HV.out], ?_⟩
              have := H3.out
              rw [HX.out.2.2, ← HYE.out] at this
              exact this
            case measure => simp [intOf]; omega
      · have c1' : ¬ (k : Int) < (ln : Int) := by omega
        have elk : (1 : Int) = lk := by rw [← hlk]; unfold lkI; rw [if_neg (by rw [HN.out.2.1]; exact c1)]
        clear hlk
        subst elk
        by_cases c2 : k < on
        · have c2' : ¬ (k : Int) ≥ (on : Int) := by omega
          have c2a : ¬ (on : Int) ≤ (k : Int) := by omega
          have c2b : (k : Int) < (on : Int) := by omega
          have c2n : ¬ on ≤ k := by omega
          obtain ⟨z, hz⟩ : ∃ z, of.getD k false = z := ⟨_, rfl⟩
          obtain ⟨ob, ooff, rfl, hob, hoc⟩ := HO.out.cell (by rw [HN.out.2.2]; exact c2) hz
          have co := hoc _ HR.out.bel
          have how : ob < wr.heap.size := clt co
          have ere : (!z) = re := by rw [← hre]; unfold reI; rw [if_pos (by rw [HN.out.2.2]; exact c2), hz]
          clear hz hoc hre
          subst ere
          cases z
          · have zz : True := trivial
            have HV1 : Hid (k = q → wnt ts ls of q (k + 1) = x) := fun e => HW.out.trans (if_neg (fun g => g.2 e))
            have HV2 : Hid (¬ k = q → wnt ts ls of q (k + 1) = min x (t + 1)) := fun e => HW.out.trans (if_pos ⟨rfl, e⟩)
            clear HW
            go_wp2_with fail
            go_region_held3 (fun w' => w'.cell? ⟨tb, toff + k, none⟩ = some (.int .u16 t) ∧ w'.cell? ⟨ob, ooff + k, none⟩ = some (.bool false)) (go_keep) (fail)
            rw [show IntKind.i64.wrap t = t by rw [IntKind.wrap_i64]; omega, show ((k : Int)).tmod 2 = (k : Int) % 2 from Int.tmod_eq_emod_of_nonneg (by omega)]
            obtain ⟨W1, hW1⟩ : ∃ W1, (wr.alloc (.cells #[.bool true, .bool ((k : Int) % 2 == 0), .int .i64 t, .int .i64 1, .int .i64 0, .int .i64 7, .int .i64 3] 33)).drew = W1 := ⟨_, rfl⟩
            have HB1 : Hid (Below wr.heap.size wr W1) := by rw [← hW1]; exact (al _ _).drew
            have nb : W1.heap[wr.heap.size]? = some (.cells #[.bool true, .bool ((k : Int) % 2 == 0), .int .i64 t, .int .i64 1, .int .i64 0, .int .i64 7, .int .i64 3] 33) := by rw [← hW1]; exact (MapKept.heap_alloc wr _).1
            have hql : wr.heap.size < W1.heap.size := by rw [← hW1]; simp
            obtain ⟨qb, hqb⟩ : ∃ qb, wr.heap.size = qb := ⟨_, rfl⟩
            rw [hW1]
            simp only [hqb] at nb hql ⊢
            have e0 : W1.cell? ⟨qb, 0, none⟩ = some (.bool true) := by simp [World.cell?, nb]
            have e1 : W1.cell? ⟨qb, 1, none⟩ = some (.bool ((k : Int) % 2 == 0)) := by simp [World.cell?, nb]
            have e2 : W1.cell? ⟨qb, 2, none⟩ = some (.int .i64 t) := by simp [World.cell?, nb]
            have e3 : W1.cell? ⟨qb, 3, none⟩ = some (.int .i64 1) := by simp [World.cell?, nb]
            have e4 : W1.cell? ⟨qb, 4, none⟩ = some (.int .i64 0) := by simp [World.cell?, nb]
            have e5 : W1.cell? ⟨qb, 5, none⟩ = some (.int .i64 7) := by simp [World.cell?, nb]
            have e6 : W1.cell? ⟨qb, 6, none⟩ = some (.int .i64 3) := by simp [World.cell?, nb]
            have HX2 : Hid (∀ W2 w3, Below W1.heap.size W1 W2 → Fr (fun g => (Value.slice ra k rc).ownBlock = some g) W2 w3 → w3.cell? ⟨qb, 0, none⟩ = some (.bool true)) := fun W2 w3 h2 h3 =>
              (h3.cell (p := ⟨qb, 0, none⟩) (Nat.lt_of_lt_of_le hql h2.size) (fun e => by have h9 := OwR.lt (Rmk.own HR.out) e; rw [hqb] at h9; exact absurd h9 (Nat.lt_irrefl _))).trans ((h2.cell (p := ⟨qb, 0, none⟩) hql).trans e0)
            have HR1 : Hid (Rmk 33 w W1 (.slice ra k rc) Z) := Rmk.on HR.out HB1.out
            clear hW1 nb hqb
            by_cases hkq : k = q
            · have HV : Hid (wnt ts ls of q (k + 1) = x) := HV1.out hkq
              have dq : ((k : Int) != (q : Int)) = false := by simp [hkq]
              clear hkq
              go_wp2_with (at_builtin; refine wpList_append_R tyL (fun _ => True) _ rfl (.tmp 68) (.tmp 70) rfl (.slice ra k rc) _ _ Z [⟨true, ((k : Int) % 2 == 0), t, 1, 0, 7, 3⟩] rfl rfl ((Hid.out HR1).on (al _ _)).own (RdN.newAt cB _ _ _ _ _ (by simp) rfl trivial) (by rw [HX.out.2.1]; omega) (by simp) Y HX.out.1 ?_; intro ra' rc' w3 ho hm; have H3 : Hid (Rmk 33 w w3 (.slice ra' Y.length rc') Y) := ((Hid.out HR1).on (al _ _)).app ho hm; have ct3 := Hid.out HTC w3 (Hid.out H3).bel; have cb3 := Hid.out HX2 _ w3 (al _ _) hm.fr; clear ho hm)
              go_roundw
              case rel =>
                refine ⟨k + 1, ra', rc', by go_num, by omega, by rw [HX.out.2.2], by rw [HV.out], ?_⟩
                have := H3.out
                rw [HX.out.2.2, ← HYE.out] at this
                exact this
              case measure => simp [intOf]; omega
            · have HV : Hid (wnt ts ls of q (k + 1) = min x (t + 1)) := HV2.out hkq
              have dq : ((k : Int) != (q : Int)) = true := by simp; omega
              clear hkq
              go_wp2_with (at_builtin; refine wpList_append_R tyL (fun _ => True) _ rfl (.tmp 68) (.tmp 70) rfl (.slice ra k rc) _ _ Z [⟨true, ((k : Int) % 2 == 0), t, 1, 0, 7, 3⟩] rfl rfl ((Hid.out HR1).on (al _ _)).own (RdN.newAt cB _ _ _ _ _ (by simp) rfl trivial) (by rw [HX.out.2.1]; omega) (by simp) Y HX.out.1 ?_; intro ra' rc' w3 ho hm; have H3 : Hid (Rmk 33 w w3 (.slice ra' Y.length rc') Y) := ((Hid.out HR1).on (al _ _)).app ho hm; have ct3 := Hid.out HTC w3 (Hid.out H3).bel; have cb3 := Hid.out HX2 _ w3 (al _ _) hm.fr; clear ho hm)
              go_roundw
              case rel =>
                refine ⟨k + 1, ra', rc', by go_num, by omega, by rw [HX.out.2.2], by rw [HV.out], ?_⟩
                have := H3.out
                rw [HX.out.2.2, ← HYE.out] at this
                exact this
              case measure => simp [intOf]; omega
          · have zz : True := trivial
            have HV1 : Hid (wnt ts ls of q (k + 1) = x) := HW.out.trans (if_neg (fun g => by cases g.1))
            clear HW
            go_wp2_with fail
            go_region_held3 (fun w' => w'.cell? ⟨tb, toff + k, none⟩ = some (.int .u16 t) ∧ w'.cell? ⟨ob, ooff + k, none⟩ = some (.bool true)) (go_keep) (fail)
            rw [show IntKind.i64.wrap t = t by rw [IntKind.wrap_i64]; omega, show ((k : Int)).tmod 2 = (k : Int) % 2 from Int.tmod_eq_emod_of_nonneg (by omega)]
            obtain ⟨W1, hW1⟩ : ∃ W1, (wr.alloc (.cells #[.bool false, .bool ((k : Int) % 2 == 0), .int .i64 t, .int .i64 1, .int .i64 0, .int .i64 7, .int .i64 3] 33)).drew = W1 := ⟨_, rfl⟩
            have HB1 : Hid (Below wr.heap.size wr W1) := by rw [← hW1]; exact (al _ _).drew
            have nb : W1.heap[wr.heap.size]? = some (.cells #[.bool false, .bool ((k : Int) % 2 == 0), .int .i64 t, .int .i64 1, .int .i64 0, .int .i64 7, .int .i64 3] 33) := by rw [← hW1]; exact (MapKept.heap_alloc wr _).1
            have hql : wr.heap.size < W1.heap.size := by rw [← hW1]; simp
            obtain ⟨qb, hqb⟩ : ∃ qb, wr.heap.size = qb := ⟨_, rfl⟩
            rw [hW1]
            simp only [hqb] at nb hql ⊢
            have e0 : W1.cell? ⟨qb, 0, none⟩ = some (.bool false) := by simp [World.cell?, nb]
            have e1 : W1.cell? ⟨qb, 1, none⟩ = some (.bool ((k : Int) % 2 == 0)) := by simp [World.cell?, nb]
            have e2 : W1.cell? ⟨qb, 2, none⟩ = some (.int .i64 t) := by simp [World.cell?, nb]
            have e3 : W1.cell? ⟨qb, 3, none⟩ = some (.int .i64 1) := by simp [World.cell?, nb]
            have e4 : W1.cell? ⟨qb, 4, none⟩ = some (.int .i64 0) := by simp [World.cell?, nb]
            have e5 : W1.cell? ⟨qb, 5, none⟩ = some (.int .i64 7) := by simp [World.cell?, nb]
            have e6 : W1.cell? ⟨qb, 6, none⟩ = some (.int .i64 3) := by simp [World.cell?, nb]
            have HX2 : Hid (∀ W2 w3, Below W1.heap.size W1 W2 → Fr (fun g => (Value.slice ra k rc).ownBlock = some g) W2 w3 → w3.cell? ⟨qb, 0, none⟩ = some (.bool false)) := fun W2 w3 h2 h3 =>
              (h3.cell (p := ⟨qb, 0, none⟩) (Nat.lt_of_lt_of_le hql h2.size) (fun e => by have h9 := OwR.lt (Rmk.own HR.out) e; rw [hqb] at h9; exact absurd h9 (Nat.lt_irrefl _))).trans ((h2.cell (p := ⟨qb, 0, none⟩) hql).trans e0)
            have HR1 : Hid (Rmk 33 w W1 (.slice ra k rc) Z) := Rmk.on HR.out HB1.out
            clear hW1 nb hqb
            have HV : Hid (wnt ts ls of q (k + 1) = x) := HV1.out
            go_wp2_with (at_builtin; refine wpList_append_R tyL (fun _ => True) _ rfl (.tmp 68) (.tmp 70) rfl (.slice ra k rc) _ _ Z [⟨false, ((k : Int) % 2 == 0), t, 1, 0, 7, 3⟩] rfl rfl ((Hid.out HR1).on (al _ _)).own (RdN.newAt cB _ _ _ _ _ (by simp) rfl trivial) (by rw [HX.out.2.1]; omega) (by simp) Y HX.out.1 ?_; intro ra' rc' w3 ho hm; have H3 : Hid (Rmk 33 w w3 (.slice ra' Y.length rc') Y) := ((Hid.out HR1).on (al _ _)).app ho hm; have ct3 := Hid.out HTC w3 (Hid.out H3).bel; have cb3 := Hid.out HX2 _ w3 (al _ _) hm.fr; clear ho hm)
            go_roundw
            case rel =>
              refine ⟨k + 1, ra', rc', by go_num, by omega, by rw [HX.out.2.2], by rw [HV.out], ?_⟩
              have := H3.out
              rw [HX.out.2.2, ← HYE.out] at this
              exact this
            case measure => simp [intOf]; omega
        · have c2' : (k : Int) ≥ (on : Int) := by omega
          have c2a : (on : Int) ≤ (k : Int) := by omega
          have c2n : on ≤ k := by omega
          have ere : true = re := by rw [← hre]; unfold reI; rw [if_neg (by rw [HN.out.2.2]; exact c2)]
          clear hre
          subst ere
          have HV1 : Hid (k = q → wnt ts ls of q (k + 1) = x) := fun e => HW.out.trans (if_neg (fun g => g.2 e))
          have HV2 : Hid (¬ k = q → wnt ts ls of q (k + 1) = min x (t + 1)) := fun e => HW.out.trans (if_pos ⟨rfl, e⟩)
          clear HW
          go_wp2_with fail
          go_region
          obtain ⟨W1, hW1⟩ : ∃ W1, (wr.alloc (.cells #[.bool true, .bool ((k : Int) % 2 == 0), .int .i64 t, .int .i64 1, .int .i64 0, .int .i64 7, .int .i64 3] 33)).drew = W1 := ⟨_, rfl⟩
          have HB1 : Hid (Below wr.heap.size wr W1) := by rw [← hW1]; exact (al _ _).drew
          have nb : W1.heap[wr.heap.size]? = some (.cells #[.bool true, .bool ((k : Int) % 2 == 0), .int .i64 t, .int .i64 1, .int .i64 0, .int .i64 7, .int .i64 3] 33) := by rw [← hW1]; exact (MapKept.heap_alloc wr _).1
          have hql : wr.heap.size < W1.heap.size := by rw [← hW1]; simp
          obtain ⟨qb, hqb⟩ : ∃ qb, wr.heap.size = qb := ⟨_, rfl⟩
          rw [hW1]
          simp only [hqb] at nb hql ⊢
          have e0 : W1.cell? ⟨qb, 0, none⟩ = some (.bool true) := by simp [World.cell?, nb]
          have e1 : W1.cell? ⟨qb, 1, none⟩ = some (.bool ((k : Int) % 2 == 0)) := by simp [World.cell?, nb]
          have e2 : W1.cell? ⟨qb, 2, none⟩ = some (.int .i64 t) := by simp [World.cell?, nb]
          have e3 : W1.cell? ⟨qb, 3, none⟩ = some (.int .i64 1) := by simp [World.cell?, nb]
          have e4 : W1.cell? ⟨qb, 4, none⟩ = some (.int .i64 0) := by simp [World.cell?, nb]
          have e5 : W1.cell? ⟨qb, 5, none⟩ = some (.int .i64 7) := by simp [World.cell?, nb]
          have e6 : W1.cell? ⟨qb, 6, none⟩ = some (.int .i64 3) := by simp [World.cell?, nb]
          have HX2 : Hid (∀ W2 w3, Below W1.heap.size W1 W2 → Fr (fun g => (Value.slice ra k rc).ownBlock = some g) W2 w3 → w3.cell? ⟨qb, 0, none⟩ = some (.bool true)) := fun W2 w3 h2 h3 =>
            (h3.cell (p := ⟨qb, 0, none⟩) (Nat.lt_of_lt_of_le hql h2.size) (fun e => by have h9 := OwR.lt (Rmk.own HR.out) e; rw [hqb] at h9; exact absurd h9 (Nat.lt_irrefl _))).trans ((h2.cell (p := ⟨qb, 0, none⟩) hql).trans e0)
          have HR1 : Hid (Rmk 33 w W1 (.slice ra k rc) Z) := Rmk.on HR.out HB1.out
          clear hW1 nb hqb
          by_cases hkq : k = q
          · have HV : Hid (wnt ts ls of q (k + 1) = x) := HV1.out hkq
            have dq : ((k : Int) != (q : Int)) = false := by simp [hkq]
            clear hkq
            go_wp2_with (at_builtin; refine wpList_append_R tyL (fun _ => True) _ rfl (.tmp 68) (.tmp 70) rfl (.slice ra k rc) _ _ Z [⟨true, ((k : Int) % 2 == 0), t, 1, 0, 7, 3⟩] rfl rfl ((Hid.out HR1).on (al _ _)).own (RdN.newAt cB _ _ _ _ _ (by simp) rfl trivial) (by rw [HX.out.2.1]; omega) (by simp) Y HX.out.1 ?_; intro ra' rc' w3 ho hm; have H3 : Hid (Rmk 33 w w3 (.slice ra' Y.length rc') Y) := ((Hid.out HR1).on (al _ _)).app ho hm; have ct3 := Hid.out HTC w3 (Hid.out H3).bel; have cb3 := Hid.out HX2 _ w3 (al _ _) hm.fr; clear ho hm)
            go_roundw
            case rel =>
              refine ⟨k + 1, ra', rc', by go_num, by omega, by rw [HX.out.2.2], by rw [HV.out], ?_⟩
              have := H3.out
              rw [HX.out.2.2, ← HYE.out] at this
              exact this
            case measure => simp [intOf]; omega
          · have HV : Hid (wnt ts ls of q (k + 1) = min x (t + 1)) := HV2.out hkq
            have dq : ((k : Int) != (q : Int)) = true := by simp; omega
            clear hkq
            go_wp2_with (at_builtin; refine wpList_append_R tyL (fun _ => True) _ rfl (.tmp 68) (.tmp 70) rfl (.slice ra k rc) _ _ Z [⟨true, ((k : Int) % 2 == 0), t, 1, 0, 7, 3⟩] rfl rfl ((Hid.out HR1).on (al _ _)).own (RdN.newAt cB _ _ _ _ _ (by simp) rfl trivial) (by rw [HX.out.2.1]; omega) (by simp) Y HX.out.1 ?_; intro ra' rc' w3 ho hm; have H3 : Hid (Rmk 33 w w3 (.slice ra' Y.length rc') Y) := ((Hid.out HR1).on (al _ _)).app ho hm; have ct3 := Hid.out HTC w3 (Hid.out H3).bel; have cb3 := Hid.out HX2 _ w3 (al _ _) hm.fr; clear ho hm)
            go_roundw
            case rel =>
              refine ⟨k + 1, ra', rc', by go_num, by omega, by rw [HX.out.2.2], by rw [HV.out], ?_⟩
              have := H3.out
              rw [HX.out.2.2, ← HYE.out] at this
              exact this
            case measure => simp [intOf]; omega
    · obtain rfl : k = n := by omega
      obtain ⟨O, hG⟩ := L.G_ex (mkL (idl ts ls of) k)
      have PB : Hid (Calls Try.prog 12 #[.slice ra k rc, .int .i64 q] wr fun e w' => e = .returned (.int .i64 (wnt ts ls of q k)) ∧ Mk w w' (.slice ra k rc) (idl ts ls of) k) := by
        have := HR.out.lb hG (by omega) (q : Int)
        unfold L.lbt at this
        rw [mkL_len, idle_is hG (fun j hj => by have := HT.out.1 j (by rw [HN.out.1]; exact hj); omega) (fun j => by
          unfold lkI
          split
          · have := HL.out.1 j (by assumption); omega
          · omega) k (Nat.le_refl _)] at this
        exact this
      clear hG
      go_wp2_with (go_at_call 12; refine (Hid.out PB).mono ?_; rintro e w1 ⟨rfl, h1⟩; have B1 : Hid _ := h1.bel; clear h1)
      go_ret
      exact ⟨rfl, B1.out⟩
end Go.Proofs.Ytmkhgihhledegaa
