/- Proved: the contract of the law's fit: whether a member's output is what the others' make of it. -/
import Derived.Test.YtmkhgihhledegaaLw0
namespace Go.Proofs.Ytmkhgihhledegaa
open Go.RowKit Go.Shelf
open L (Mb IsG lbt oth outM outF base cnt vadd)
set_option linter.unusedVariables false

theorem vadd_comm (a b : Int) : vadd a b = vadd b a := by unfold L.vadd; rw [Int.add_comm]
theorem vadd_cnt (a b : Int) : vadd (cnt a) b = vadd a b := by unfold L.vadd; rw [L.cnt_cnt]
theorem vadd_zero (t : Int) : vadd t 0 = cnt t := by
  unfold L.vadd
  rw [show cnt 0 = 0 by decide, Int.add_zero, L.cnt_cnt]
set_option maxRecDepth 100000 in
set_option maxHeartbeats 4000000 in
theorem fit_any {N N' : Nat → Prop} {w : World} {a oa : Option Addr} {c oc n : Nat} {l : List Mb} {o : List Int} (hl : RdN cB N w a l) (ho : RdN cI N' w oa o) (hn : l.length = n) (hno : o.length = n) (h1 : n ≤ 1000) {i : Nat} (hi : i < n) :
    Calls Try.prog 15 #[.slice a n c, .slice oa n oc, .int .i64 i] w fun e w' => e = .returned (.bool (o.getD i 0 == outF l (fn o) i)) ∧ Below w.heap.size w w' := by
  obtain ⟨m, hm⟩ : ∃ m, L.nth l i = m := ⟨_, rfl⟩
  obtain ⟨b, off, ea, hb, m0, m1, m2, m3, m4, m5, m6⟩ := RdN.mb hl (by rw [hn]; exact hi) hm
  obtain ⟨x, hx⟩ : ∃ x, o.getD i 0 = x := ⟨_, rfl⟩
  obtain ⟨ob, ooff, eo, hob, ox⟩ := RdN.int ho (by rw [hno]; exact hi) hx
  have HL : Hid (RdN cB N w a l) := hl
  have HO : Hid (RdN cI N' w oa o) := ho
  have HN : Hid (l.length = n ∧ o.length = n) := ⟨hn, hno⟩
  obtain ⟨lb, hlb⟩ : ∃ lb, lbt l (fn o) i = lb := ⟨_, rfl⟩
  have HLB : Hid (oth l (fn o) i n = lb) := by show _ = _; rw [← hlb]; unfold L.lbt; rw [hn]
  have eF : outF l (fn o) i = outM m lb := by unfold L.outF; rw [hm, hlb]
  obtain ⟨ou, hou⟩ : ∃ ou, outM m lb = ou := ⟨_, rfl⟩
  rw [hx, eF, hou]
  have hi' : (i : Int) < (n : Int) := by omega
  subst ea
  subst eo
  obtain ⟨r, co, ti, lo, ki, ak, fi⟩ := m
  simp only at m0 m1 m2 m3 m4 m5 m6
  obtain ⟨W0, hW0⟩ : ∃ W0, w.alloc (.cells #[.bool r, .bool co, .int .i64 ti, .int .i64 lo, .int .i64 ki, .int .i64 ak, .int .i64 fi] 33) = W0 := ⟨_, rfl⟩
  have HB : Hid (Below w.heap.size w W0) := by rw [← hW0]; exact al _ _
  have nb : W0.heap[w.heap.size]? = some (.cells #[.bool r, .bool co, .int .i64 ti, .int .i64 lo, .int .i64 ki, .int .i64 ak, .int .i64 fi] 33) := by rw [← hW0]; exact (MapKept.heap_alloc w _).1
  have ox0 : W0.cell? ⟨ob, ooff + i, none⟩ = some (.int .i64 x) := (HB.out.cell (p := ⟨ob, ooff + i, none⟩) hob).trans ox
  obtain ⟨q, hq⟩ : ∃ q, w.heap.size = q := ⟨_, rfl⟩
  rw [hq] at nb
  have e0 : W0.cell? ⟨q, 0, none⟩ = some (.bool r) := by simp [World.cell?, nb]
  have e1 : W0.cell? ⟨q, 1, none⟩ = some (.bool co) := by simp [World.cell?, nb]
  have e2 : W0.cell? ⟨q, 2, none⟩ = some (.int .i64 ti) := by simp [World.cell?, nb]
  have e3 : W0.cell? ⟨q, 3, none⟩ = some (.int .i64 lo) := by simp [World.cell?, nb]
  have e4 : W0.cell? ⟨q, 4, none⟩ = some (.int .i64 ki) := by simp [World.cell?, nb]
  have e5 : W0.cell? ⟨q, 5, none⟩ = some (.int .i64 ak) := by simp [World.cell?, nb]
  have e6 : W0.cell? ⟨q, 6, none⟩ = some (.int .i64 fi) := by simp [World.cell?, nb]
  obtain ⟨lk, hlk⟩ : ∃ lk, max 1 (min lo 1048576) = lk := ⟨_, rfl⟩
  obtain ⟨ct, hct⟩ : ∃ ct, cnt ti = ct := ⟨_, rfl⟩
  obtain ⟨ca, hca⟩ : ∃ ca, cnt ak = ca := ⟨_, rfl⟩
  obtain ⟨cf, hcf⟩ : ∃ cf, cnt fi = cf := ⟨_, rfl⟩
  have TM : ∀ t (W : World), Calls Try.prog 14 #[.int .i64 t, .int .i64 0] W fun e w' => e = .returned (.int .i64 (cnt t)) ∧ W = w' := fun t W => by
    rw [← vadd_zero]
    exact refadd_any t 0 W
  have T1 : Hid (∀ W : World, Calls Try.prog 14 #[.int .i64 ti, .int .i64 0] W fun e w' => e = .returned (.int .i64 ct) ∧ W = w') := fun W => by rw [← hct]; exact TM ti W
  have T2 : Hid (∀ W : World, Calls Try.prog 14 #[.int .i64 ak, .int .i64 0] W fun e w' => e = .returned (.int .i64 ca) ∧ W = w') := fun W => by rw [← hca]; exact TM ak W
  have T3 : Hid (∀ W : World, Calls Try.prog 14 #[.int .i64 fi, .int .i64 0] W fun e w' => e = .returned (.int .i64 cf) ∧ W = w') := fun W => by rw [← hcf]; exact TM fi W
  have AD : Hid (∀ bs (W : World), Calls Try.prog 14 #[.int .i64 bs, .int .i64 lk] W fun e w' => e = .returned (.int .i64 (vadd bs lk)) ∧ w' = W) := fun bs W => (refadd_any bs lk W).mono fun e w' ⟨he, hw⟩ => ⟨he, hw.symm⟩
  have eo : ∀ bs, base ⟨r, co, ti, lo, ki, ak, fi⟩ lb = bs → outM ⟨r, co, ti, lo, ki, ak, fi⟩ lb = if r = true then vadd bs lk else 1125899906842624 := fun bs hbs => by
    rw [← hbs, vadd_comm, ← hlk]
    rfl
  have ba : (ki = 1 ∨ (ki = 2 ∨ ki = 3) ∧ co = false) → base ⟨r, co, ti, lo, ki, ak, fi⟩ lb = ca := fun g => by
    rw [← hca]
    unfold L.base
    rw [if_pos g]
  have bb : ¬ (ki = 1 ∨ (ki = 2 ∨ ki = 3) ∧ co = false) → (ki = 2 ∨ ki = 3) → base ⟨r, co, ti, lo, ki, ak, fi⟩ lb = max ct (min (min ca cf) lb) := fun g g2 => by
    rw [← hca, ← hct, ← hcf]
    unfold L.base
    rw [if_neg g, if_pos g2]
  have bc : ¬ (ki = 1 ∨ (ki = 2 ∨ ki = 3) ∧ co = false) → ¬ (ki = 2 ∨ ki = 3) → base ⟨r, co, ti, lo, ki, ak, fi⟩ lb = ct := fun g g2 => by
    rw [← hct]
    unfold L.base
    rw [if_neg g, if_neg g2]
  have HBB : Hid _ := bb
  have HBA : Hid _ := ba
  have HBC : Hid _ := bc
  have HEO : Hid (∀ bs, base ⟨r, co, ti, lo, ki, ak, fi⟩ lb = bs → ou = if r = true then vadd bs lk else 1125899906842624) := fun bs hbs => by rw [← hou]; exact eo bs hbs
  have HQ : Hid (w.heap.size = q) := hq
  clear hou hct hca hcf eF hlb hm hl ho hn hno nb bb ba bc eo TM hx ox
  cases r
  · have HE : Hid (ou = 1125899906842624) := (HEO.out _ rfl).trans (if_neg (by decide))
    go_enter Try.func15, Try.ntmps15
    go_wp2
    go_ret
    exact ⟨by rw [HE.out]; rfl, HB.out⟩
  have HE1 : Hid (∀ bs, base ⟨true, co, ti, lo, ki, ak, fi⟩ lb = bs → ou = vadd bs lk) := fun bs h => (HEO.out bs h).trans (if_pos rfl)
  clear HEO
  go_enter Try.func15, Try.ntmps15
  go_wp2_with fail
  go_loop [8, 9] (fun s8 s9 => ∃ k : Nat, s9 = .int .i64 k ∧ k ≤ n ∧ s8 = .int .i64 (oth l (fn o) i k)) (fun _ s9 => n - (intOf s9).toNat)
  case atStart => exact ⟨0, rfl, Nat.zero_le _, rfl⟩
  case round =>
    obtain ⟨k, rfl, hk, rfl⟩ := hrel
    by_cases hlt : k < n
    · have hlt' : (k : Int) < (n : Int) := by omega
      obtain ⟨m', hm'⟩ : ∃ m', L.nth l k = m' := ⟨_, rfl⟩
      obtain ⟨b2, off2, e2', hb2, y0, _⟩ := RdN.mb HL.out (by rw [HN.out.1]; exact hlt) hm'
      simp at e2'
      obtain ⟨rfl, rfl⟩ := e2'
      have z0 : W0.cell? ⟨b, off + k * 7, none⟩ = some (.bool m'.re) := (HB.out.cell (p := ⟨b, off + k * 7, none⟩) hb2).trans y0
      obtain ⟨y, hy⟩ : ∃ y, o.getD k 0 = y := ⟨_, rfl⟩
      obtain ⟨b3, off3, e3', hb3, y3⟩ := RdN.int HO.out (by rw [HN.out.2]; exact hlt) hy
      simp at e3'
      obtain ⟨rfl, rfl⟩ := e3'
      have z3 : W0.cell? ⟨ob, ooff + k, none⟩ = some (.int .i64 y) := (HB.out.cell (p := ⟨ob, ooff + k, none⟩) hb3).trans y3
      obtain ⟨t, ht⟩ : ∃ t, oth l (fn o) i k = t := ⟨_, rfl⟩
      have HS : Hid (oth l (fn o) i (k + 1) = if (k : Int) ≠ i ∧ m'.re = true then min t y else t) := by
        show oth l (fn o) i (k + 1) = _
        rw [← ht, ← hy, ← hm']
        rfl
      rw [ht]
      obtain ⟨mr, hmr⟩ : ∃ mr, m'.re = mr := ⟨_, rfl⟩
      rw [hmr] at z0 HS
      clear hm' hy ht hmr y0 y3
      by_cases hki : (k : Int) = i
      · have d : ((k : Int) != i) = false := by simpa using hki
        have HS2 : Hid (oth l (fn o) i (k + 1) = t) := by rw [HS.out, if_neg (fun g => g.1 hki)]; rfl
        clear hki
        go_wp2_with fail
        go_round
        case rel => exact ⟨k + 1, by go_num, by omega, by rw [HS2.out]⟩
        case measure => simp [intOf]; omega
      · have d : ((k : Int) != i) = true := by simpa using hki
        cases mr
        · have HS2 : Hid (oth l (fn o) i (k + 1) = t) := by rw [HS.out, if_neg (fun g => by cases g.2)]; rfl
          clear hki
          go_wp2_with fail
          go_round
          case rel => exact ⟨k + 1, by go_num, by omega, by rw [HS2.out]⟩
          case measure => simp [intOf]; omega
        · have HS2 : Hid (oth l (fn o) i (k + 1) = min t y) := by rw [HS.out, if_pos ⟨hki, rfl⟩]; rfl
          clear hki
          go_wp2_with fail
          go_round
          case rel => exact ⟨k + 1, by go_num, by omega, by rw [HS2.out]⟩
          case measure => simp [intOf]; omega
    · obtain rfl : k = n := by omega
      rw [HLB.out]
      by_cases k1 : ki = 1
      · have HE : Hid (ou = vadd ca lk) := HE1.out _ (HBA.out (.inl k1))
        have d1 : (ki == 1) = true := by simpa using k1
        have d2 : (ki == 2) = false := by simp; omega
        have d3 : (ki == 3) = false := by simp; omega
        clear k1
        go_wp2_with (go_at_call 14; first | (refine (Hid.out T1 _).mono ?_; rintro e w' ⟨rfl, rfl⟩; clear T1) | (refine (Hid.out T2 _).mono ?_; rintro e w' ⟨rfl, rfl⟩; clear T2))
        go_quiet ((go_at_call 14; refine Calls.quiet_of_same (Hid.out AD _ _)))
        go_wp2_with fail
        go_ret
        exact ⟨by rw [HE.out]; rfl, Below.on HB.out ⟨rfl, rfl, rfl, Nat.le_refl _, fun _ _ => rfl⟩⟩
      have d1 : (ki == 1) = false := by simpa using k1
      by_cases k23 : ki = 2 ∨ ki = 3
      · have hk : ((ki == 2) = true ∧ (ki == 3) = false) ∨ ((ki == 2) = false ∧ (ki == 3) = true) := by
          rcases k23 with e | e
          · left; subst e; decide
          · right; subst e; decide
        cases co
        · have HE : Hid (ou = vadd ca lk) := HE1.out _ (HBA.out (.inr ⟨k23, rfl⟩))
          clear k1 k23
          rcases hk with ⟨d2, d3⟩ | ⟨d2, d3⟩
          all_goals
            go_wp2_with (go_at_call 14; first | (refine (Hid.out T1 _).mono ?_; rintro e w' ⟨rfl, rfl⟩; clear T1) | (refine (Hid.out T2 _).mono ?_; rintro e w' ⟨rfl, rfl⟩; clear T2))
            go_quiet ((go_at_call 14; refine Calls.quiet_of_same (Hid.out AD _ _)))
            go_wp2_with fail
            go_ret
            exact ⟨by rw [HE.out]; rfl, Below.on HB.out ⟨rfl, rfl, rfl, Nat.le_refl _, fun _ _ => rfl⟩⟩
        · obtain ⟨bs, hbs⟩ : ∃ bs, max ct (min (min ca cf) lb) = bs := ⟨_, rfl⟩
          obtain ⟨mm, hmm⟩ : ∃ mm, min (min ca cf) lb = mm := ⟨_, rfl⟩
          have HE : Hid (ou = vadd bs lk) := (HE1.out _ (HBB.out (fun g => by rcases g with g | g; exact k1 g; cases g.2) k23)).trans (by rw [hbs])
          rw [hmm] at hbs
          obtain ⟨z, hz⟩ : ∃ z, (if cf < ca then cf else ca) = z := ⟨_, rfl⟩
          have hzm : z = min ca cf := by rw [← hz]; split <;> omega
          clear k1 k23
          by_cases hlz : lb < z
          · have hb2 : max ct lb = bs := by omega
            clear hbs hmm hzm
            rcases hk with ⟨d2, d3⟩ | ⟨d2, d3⟩
            all_goals
              go_wp2_with (go_at_call 14; first | (refine (Hid.out T1 _).mono ?_; rintro e w' ⟨rfl, rfl⟩; clear T1) | (refine (Hid.out T2 _).mono ?_; rintro e w' ⟨rfl, rfl⟩; clear T2) | (refine (Hid.out T3 _).mono ?_; rintro e w' ⟨rfl, rfl⟩; clear T3))
              go_quiet ((go_at_call 14; refine Calls.quiet_of_same (Hid.out AD _ _)))
              go_wp2_with fail
              go_ret
              exact ⟨by rw [HE.out]; rfl, Below.on HB.out ⟨rfl, rfl, rfl, Nat.le_refl _, fun _ _ => rfl⟩⟩
          · have hb2 : max ct z = bs := by omega
            clear hbs hmm hzm
            rcases hk with ⟨d2, d3⟩ | ⟨d2, d3⟩
            all_goals
              go_wp2_with (go_at_call 14; first | (refine (Hid.out T1 _).mono ?_; rintro e w' ⟨rfl, rfl⟩; clear T1) | (refine (Hid.out T2 _).mono ?_; rintro e w' ⟨rfl, rfl⟩; clear T2) | (refine (Hid.out T3 _).mono ?_; rintro e w' ⟨rfl, rfl⟩; clear T3))
              go_quiet ((go_at_call 14; refine Calls.quiet_of_same (Hid.out AD _ _)))
              go_wp2_with fail
              go_ret
              exact ⟨by rw [HE.out]; rfl, Below.on HB.out ⟨rfl, rfl, rfl, Nat.le_refl _, fun _ _ => rfl⟩⟩
      · have HE : Hid (ou = vadd ct lk) := HE1.out _ (HBC.out (fun g => by rcases g with g | g; exact k1 g; exact k23 g.1) k23)
        have d2 : (ki == 2) = false := by simp; omega
        have d3 : (ki == 3) = false := by simp; omega
        clear k1 k23
        go_wp2_with (go_at_call 14; first | (refine (Hid.out T1 _).mono ?_; rintro e w' ⟨rfl, rfl⟩; clear T1) | (refine (Hid.out T2 _).mono ?_; rintro e w' ⟨rfl, rfl⟩; clear T2))
        go_quiet ((go_at_call 14; refine Calls.quiet_of_same (Hid.out AD _ _)))
        go_wp2_with fail
        go_ret
        exact ⟨by rw [HE.out]; rfl, Below.on HB.out ⟨rfl, rfl, rfl, Nat.le_refl _, fun _ _ => rfl⟩⟩
end Go.Proofs.Ytmkhgihhledegaa
