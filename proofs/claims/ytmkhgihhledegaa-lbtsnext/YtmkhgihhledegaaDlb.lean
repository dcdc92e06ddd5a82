/- Proved: contracts of the document's output, Outputs and Lbts: what is told is the greatest that fits. -/
import Derived.Test.YtmkhgihhledegaaMbr
namespace Go.Proofs.Ytmkhgihhledegaa
open Go.RowKit Go.Shelf
open L (Mb IsG lbt oth outM outF base cnt vadd Dn)
set_option linter.unusedVariables false

set_option maxRecDepth 100000 in
set_option maxHeartbeats 4000000 in
theorem output_any {N N' : Nat → Prop} {w : World} {a oa : Option Addr} {c oc : Nat} {l : List Mb} {o : List Int} (hl : RdN cB N w a l) (ho : RdN cI N' w oa o) (hn : o.length = l.length) (h1 : l.length ≤ 1000) {i : Nat} (hi : i < l.length) :
    Calls Try.prog 19 #[.slice a l.length c, .slice oa l.length oc, .int .i64 i] w fun e w' => e = .returned (.int .i64 (outF l (fn o) i)) ∧ Below w.heap.size w w' := by
  obtain ⟨m, hm⟩ : ∃ m, L.nth l i = m := ⟨_, rfl⟩
  obtain ⟨b, off, ea, hb, m0, m1, m2, m3, m4, m5, m6⟩ := RdN.mb hl hi hm
  obtain ⟨lb, hlb⟩ : ∃ lb, lbt l (fn o) i = lb := ⟨_, rfl⟩
  have OT : Hid (∀ W, Below w.heap.size w W → Calls Try.prog 21 #[.slice a l.length c, .slice oa l.length oc, .int .i64 i] W fun e w' => e = .returned (.int .i64 lb) ∧ w' = W) := fun W hW => by
    rw [← hlb]
    exact (others_any (hl.keep (S := fun _ => False) ⟨hW.os, hW.tape, hW.output, hW.size, fun k hk _ => hW.block k hk⟩ (fun _ _ g => ⟨fun e => e, g⟩)) (ho.keep (S := fun _ => False) ⟨hW.os, hW.tape, hW.output, hW.size, fun k hk _ => hW.block k hk⟩ (fun _ _ g => ⟨fun e => e, g⟩)) hn h1 i).mono fun e w' ⟨he, hw⟩ => ⟨he, hw.symm⟩
  have eF : outF l (fn o) i = outM m lb := by unfold L.outF; rw [hm, hlb]
  rw [eF]
  have hi' : (i : Int) < (l.length : Int) := by omega
  have h1' : (l.length : Int) ≤ 1000 := by omega
  generalize l.length = n at hi' h1' OT
  subst ea
  obtain ⟨r, co, ti, lo, ki, ak, fi⟩ := m
  simp only at m0 m1 m2 m3 m4 m5 m6
  obtain ⟨lk, hlk⟩ : ∃ lk, max 1 (min lo 1048576) = lk := ⟨_, rfl⟩
  have hlk1 : 1 ≤ lk ∧ lk ≤ 1048576 := by omega
  obtain ⟨W0, hW0⟩ : ∃ W0, w.alloc (.cells #[.bool r, .bool co, .int .i64 ti, .int .i64 lo, .int .i64 ki, .int .i64 ak, .int .i64 fi] 49) = W0 := ⟨_, rfl⟩
  have HB : Hid (Below w.heap.size w W0) := by rw [← hW0]; exact al _ _
  have nb : W0.heap[w.heap.size]? = some (.cells #[.bool r, .bool co, .int .i64 ti, .int .i64 lo, .int .i64 ki, .int .i64 ak, .int .i64 fi] 49) := by rw [← hW0]; exact (MapKept.heap_alloc w _).1
  obtain ⟨q, hq⟩ : ∃ q, w.heap.size = q := ⟨_, rfl⟩
  rw [hq] at nb
  have e0 : W0.cell? ⟨q, 0, none⟩ = some (.bool r) := by simp [World.cell?, nb]
  have e1 : W0.cell? ⟨q, 1, none⟩ = some (.bool co) := by simp [World.cell?, nb]
  have e2 : W0.cell? ⟨q, 2, none⟩ = some (.int .i64 ti) := by simp [World.cell?, nb]
  have e3 : W0.cell? ⟨q, 3, none⟩ = some (.int .i64 lo) := by simp [World.cell?, nb]
  have e4 : W0.cell? ⟨q, 4, none⟩ = some (.int .i64 ki) := by simp [World.cell?, nb]
  have e5 : W0.cell? ⟨q, 5, none⟩ = some (.int .i64 ak) := by simp [World.cell?, nb]
  have e6 : W0.cell? ⟨q, 6, none⟩ = some (.int .i64 fi) := by simp [World.cell?, nb]
  have HQ : Hid (w.heap.size = q) := hq
  have HBD : Hid (∀ n, Below w.heap.size w (W0.drewN n)) := fun n => Below.on HB.out ⟨rfl, rfl, rfl, Nat.le_refl _, fun _ _ => rfl⟩
  have OT2 : Hid (∀ n1, Calls Try.prog 21 #[.slice (some ⟨b, off, none⟩) n c, .slice oa n oc, .int .i64 i] (W0.drewN n1) fun e w' => e = .returned (.int .i64 lb) ∧ w' = W0.drewN n1) := fun n1 => OT.out _ (HBD.out n1)
  have TM : Hid (∀ t (W : World), Calls Try.prog 25 #[.int .i64 t] W fun e w' => e = .returned (.int .i64 (cnt t)) ∧ w' = W) := fun t W => (dtime_any t W).mono fun e w' ⟨he, hw⟩ => ⟨he, hw.symm⟩
  obtain ⟨ct, hct⟩ : ∃ ct, cnt ti = ct := ⟨_, rfl⟩
  obtain ⟨ca, hca⟩ : ∃ ca, cnt ak = ca := ⟨_, rfl⟩
  obtain ⟨cf, hcf⟩ : ∃ cf, cnt fi = cf := ⟨_, rfl⟩
  have T1 : Hid (∀ W : World, Calls Try.prog 25 #[.int .i64 ti] W fun e w' => e = .returned (.int .i64 ct) ∧ w' = W) := fun W => by rw [← hct]; exact TM.out ti W
  have T2 : Hid (∀ W : World, Calls Try.prog 25 #[.int .i64 ak] W fun e w' => e = .returned (.int .i64 ca) ∧ w' = W) := fun W => by rw [← hca]; exact TM.out ak W
  have T3 : Hid (∀ W : World, Calls Try.prog 25 #[.int .i64 fi] W fun e w' => e = .returned (.int .i64 cf) ∧ w' = W) := fun W => by rw [← hcf]; exact TM.out fi W
  have AD : Hid (∀ bs W, Calls Try.prog 14 #[.int .i64 lk, .int .i64 bs] W fun e w' => e = .returned (.int .i64 (vadd lk bs)) ∧ W = w') := fun bs W => refadd_any lk bs W
  have eo : ∀ bs, base ⟨r, co, ti, lo, ki, ak, fi⟩ lb = bs → outM ⟨r, co, ti, lo, ki, ak, fi⟩ lb = if r = true then vadd lk bs else 1125899906842624 := fun bs hbs => by
    rw [← hbs, ← hlk]
    rfl
  have ba : (ki = 1 ∨ (ki = 2 ∨ ki = 3) ∧ co = false) → base ⟨r, co, ti, lo, ki, ak, fi⟩ lb = ca := fun g => by
    rw [← hca]
    unfold L.base
    rw [if_pos g]
  have bb : ¬ (ki = 1 ∨ (ki = 2 ∨ ki = 3) ∧ co = false) → (ki = 2 ∨ ki = 3) → base ⟨r, co, ti, lo, ki, ak, fi⟩ lb = max ct (min (min ca cf) lb) := fun g g2 => by
    rw [← hca, ← hct, ← hcf]
    unfold L.base
    rw [if_neg g, if_pos g2]
  have bc : ¬ (ki = 1 ∨ (ki = 2 ∨ ki = 3) ∧ co = false) → ¬ (ki = 2 ∨ ki = 3) → base ⟨r, co, ti, lo, ki, ak, fi⟩ lb = ct := fun g g2 => by
    rw [← hct]
    unfold L.base
    rw [if_neg g, if_neg g2]
  clear TM hct hca hcf eF hlb hm hl ho OT HB h1 hn nb hi
  cases r
  · rw [eo _ rfl, if_neg (by decide)]
    clear eo ba bb bc
    go_enter Try.func19, Try.ntmps19
    go_wp2
    go_ret
    exact ⟨rfl, HBD.out 0⟩
  by_cases k1 : ki = 1
  · rw [eo _ (ba (.inl k1)), if_pos rfl]
    have d1 : (ki == 1) = true := by simpa using k1
    clear eo ba bb bc k1
    go_enter Try.func19, Try.ntmps19
    go_wp2_with (first | (go_at_call 25; first | (refine (Hid.out T1 _).mono ?_; rintro e w' ⟨rfl, rfl⟩) | (refine (Hid.out T2 _).mono ?_; rintro e w' ⟨rfl, rfl⟩)) | (go_at_call 14; refine (Hid.out AD _ _).mono ?_; rintro e w' ⟨rfl, rfl⟩))
    go_ret
    exact ⟨rfl, HBD.out 0⟩
  have d1 : (ki == 1) = false := by simpa using k1
  by_cases k23 : ki = 2 ∨ ki = 3
  · have hk : ((ki == 2) = true ∧ (ki == 3) = false) ∨ ((ki == 2) = false ∧ (ki == 3) = true) := by
      rcases k23 with e | e
      · left; subst e; decide
      · right; subst e; decide
    cases co
    · rw [eo _ (ba (.inr ⟨k23, rfl⟩)), if_pos rfl]
      clear eo ba bb bc k1 k23
      rcases hk with ⟨d2, d3⟩ | ⟨d2, d3⟩
      all_goals
        go_enter Try.func19, Try.ntmps19
        go_wp2_with (first | (go_at_call 25; first | (refine (Hid.out T1 _).mono ?_; rintro e w' ⟨rfl, rfl⟩) | (refine (Hid.out T2 _).mono ?_; rintro e w' ⟨rfl, rfl⟩)) | (go_at_call 14; refine (Hid.out AD _ _).mono ?_; rintro e w' ⟨rfl, rfl⟩))
        go_ret
        exact ⟨rfl, HBD.out 0⟩
    · obtain ⟨bs, hbs⟩ : ∃ bs, max ct (min (min ca cf) lb) = bs := ⟨_, rfl⟩
      obtain ⟨mm, hmm⟩ : ∃ mm, min (min ca cf) lb = mm := ⟨_, rfl⟩
      rw [eo _ (bb (fun g => by rcases g with g | g; exact k1 g; cases g.2) k23), if_pos rfl, hbs]
      rw [hmm] at hbs
      obtain ⟨z, hz⟩ : ∃ z, (if cf < ca then cf else ca) = z := ⟨_, rfl⟩
      have hzm : z = min ca cf := by rw [← hz]; split <;> omega
      clear eo ba bb bc k1 k23
      by_cases hlz : lb < z
      · have hb2 : max ct lb = bs := by omega
        clear hbs hmm hzm
        rcases hk with ⟨d2, d3⟩ | ⟨d2, d3⟩
        all_goals
          go_enter Try.func19, Try.ntmps19
          go_wp2_with (go_at_call 25; refine (Hid.out T1 _).mono ?_; rintro e w' ⟨rfl, rfl⟩)
          go_quiet (first | (go_at_call 25; first | refine Calls.quiet_of_same (Hid.out T2 _) | refine Calls.quiet_of_same (Hid.out T3 _)) | (go_at_call 21; refine Calls.quiet_of_same (Hid.out OT2 _)))
          go_wp2_with (go_at_call 14; refine (Hid.out AD _ _).mono ?_; rintro e w' ⟨rfl, rfl⟩)
          go_ret
          exact ⟨rfl, HBD.out _⟩
      · have hb2 : max ct z = bs := by omega
        clear hbs hmm hzm
        rcases hk with ⟨d2, d3⟩ | ⟨d2, d3⟩
        all_goals
          go_enter Try.func19, Try.ntmps19
          go_wp2_with (go_at_call 25; refine (Hid.out T1 _).mono ?_; rintro e w' ⟨rfl, rfl⟩)
          go_quiet (first | (go_at_call 25; first | refine Calls.quiet_of_same (Hid.out T2 _) | refine Calls.quiet_of_same (Hid.out T3 _)) | (go_at_call 21; refine Calls.quiet_of_same (Hid.out OT2 _)))
          go_wp2_with (go_at_call 14; refine (Hid.out AD _ _).mono ?_; rintro e w' ⟨rfl, rfl⟩)
          go_ret
          exact ⟨rfl, HBD.out _⟩
  · rw [eo _ (bc (fun g => by rcases g with g | g; exact k1 g; exact k23 g.1) k23), if_pos rfl]
    have d2 : (ki == 2) = false := by simp; omega
    have d3 : (ki == 3) = false := by simp; omega
    clear eo ba bb bc k1 k23
    go_enter Try.func19, Try.ntmps19
    go_wp2_with (first | (go_at_call 25; refine (Hid.out T1 _).mono ?_; rintro e w' ⟨rfl, rfl⟩) | (go_at_call 14; refine (Hid.out AD _ _).mono ?_; rintro e w' ⟨rfl, rfl⟩))
    go_ret
    exact ⟨rfl, HBD.out 0⟩
end Go.Proofs.Ytmkhgihhledegaa
