/- Proved: the walk of the law CalendarDays. -/
import Derived.Test.YtjkcdkoomipfkaaLaw0
namespace Go.Proofs.Ytjkcdkoomipfkaa
open Go.RowKit Go.Sort Go.Lib
set_option linter.unusedVariables false

/-- Eight integers in a block of their own. -/
def PR (B : Nat) (f : Nat → Value) : World → (Nat → Prop) → Prop := fun w G => w.rowIs B 3 8 f ∧ G = fun k => k = B
theorem thR (B : Nat) (f : Nat → Value) : Th (PR B f) where
  lt := by rintro w F ⟨h, rfl⟩ k rfl; exact h.lt
  keep := by rintro S w w' F ⟨h, rfl⟩ hf hd; exact ⟨h.of_block (hf.block B h.lt (hd B rfl)), rfl⟩
theorem L2.store {w W : World} {Z : Nat → Prop} {P : World → (Nat → Prop) → Prop} {B : Nat} {f : Nat → Value} (hP : Th P) (h : L2 w W Z P (PR B f)) (p : Nat) (v : Value) : L2 w (W.setCell ⟨B, p, none⟩ v) Z P (PR B (fun j => if j = p then v else f j)) := by
  obtain ⟨F, G, h1, ⟨h2, rfl⟩, h3, h4, h5, h6, h7⟩ := h
  have hf : Fr (fun k => k = B) W (W.setCell ⟨B, p, none⟩ v) := (Fr.refl _ W).setCell _ _ (.inl rfl)
  exact ⟨F, _, hP.keep h1 hf (fun k hk e => h3 k hk e), ⟨h2.set p v, rfl⟩, h3, h4, h5, h6.trans (hf.below h6.size (fun i e => h5 i e)), fun k hk => ⟨(h7 k hk).1, (h7 k hk).2.1, Nat.lt_of_lt_of_le (h7 k hk).2.2.1 hf.size, (h7 k hk).2.2.2⟩⟩
theorem L2.row {w W : World} {Z : Nat → Prop} {P : World → (Nat → Prop) → Prop} {B : Nat} {f : Nat → Value} (h : L2 w W Z P (PR B f)) : W.rowIs B 3 8 f := by
  obtain ⟨G, h, _⟩ := h.seeQ
  exact h
theorem L2.recount {w W : World} {Z : Nat → Prop} {P : World → (Nat → Prop) → Prop} {B : Nat} {f g : Nat → Value} (h : L2 w W Z P (PR B f)) (e : ∀ i, i < 8 → f i = g i) : L2 w W Z P (PR B g) := by
  obtain ⟨F, G, h1, ⟨h2, rfl⟩, h3, h4, h5, h6, h7⟩ := h
  exact ⟨F, _, h1, ⟨h2.congr e, rfl⟩, h3, h4, h5, h6, h7⟩
theorem ins_count {s : List M} (h : Srt s) (day i : Nat) (m : M) : (pg day i (ins s m)).length = (pg day i s).length + if pgN day m.1.1 = i then 1 else 0 := by
  rw [pg_ins h]
  by_cases e : pgN day m.1.1 = i
  · rw [if_pos e, if_pos e, ins_len]
  · rw [if_neg e, if_neg e]; rfl
theorem push_new {s : List M} {t : Int} {k : Nat} (ht : 0 ≤ t ∧ t ≤ 65535) (hl : s.length = k) (hk : k < 64) (hq : ∀ m ∈ s, m.1.2.2 < (k : Int)) : cpushC s 64 ((t, 0, (k : Int)), 0, 0, 0) = 0 ∧ cpushS s 64 ((t, 0, (k : Int)), 0, 0, 0) = ins s ((t, 0, (k : Int)), 0, 0, 0) := by
  have hv : vt t = true := by unfold vt; simp only [decide_eq_true_eq]; omega
  have hh : hasK s (t, 0, (k : Int)) = false := by
    simp only [hasK, List.any_eq_false, decide_eq_true_eq]
    intro x hx e
    have := hq x hx
    rw [e] at this
    simp at this
  unfold cpushC cpushS pushC pushS
  simp only [hv, if_true, hh, Bool.false_eq_true, if_false]
  rw [if_neg (by omega), if_neg (by omega)]
  exact ⟨rfl, rfl⟩

set_option maxRecDepth 100000 in
set_option maxHeartbeats 8000000 in
theorem days_walk (w : World) (r : Int) (hr : 0 ≤ r ∧ r ≤ 65535) (a : Option Addr) (n c : Nat) (l : List Int) (hn : n ≤ maxLen) (h : InB w a n l) :
    Calls Try.prog 5 #[.int .u16 r, .slice a n c] w fun e w' => e = .returned (.bool true) ∧ Below w.heap.size w w' := by
  have mixed : Try.prog.follows .mixedOrders = true := by kernel_rfl
  unfold maxLen at hn
  by_cases hbig : 64 < n
  · have g : (64 : Int) < (n : Int) := by omega
    clear h
    go_enter Try.func5, Try.ntmps5
    go_wp2
    go_ret
    exact ⟨rfl, Below.refl _ _⟩
  · have g : ¬ (64 : Int) < (n : Int) := by omega
    obtain ⟨A, rfl⟩ := Int.eq_ofNat_of_zero_le hr.1
    have NW := knew 64 (1 + (A : Int)) w i64_64 (by unfold i64; omega)
    have he : clampD (1 + (A : Int)) = 1 + A := by unfold clampD; omega
    rw [clamp64, he] at NW
    have hmk := fun W => run_make_row' 27 3 (.int .i64 0) 8 Try.underlying27 info3 rfl .i64 .i64 8 (by omega) (by omega) W
    have hmk' : ∀ W, (Instr.makeSlice 27 (.int .i64 8) (.int .i64 8)).run Try.prog W = .ok (.slice (some ⟨W.heap.size, 0, none⟩) 8 8) (W.alloc (.cells (madeCells #[.int .i64 0] 8) 3)) := hmk
    clear he hmk
    go_enter Try.func5, Try.ntmps5
    go_wp2_with fail
    refine NW.mono ?_
    rintro e w1 ⟨qb, F1, rfl, h1, hF1, hb1⟩
    have h2 : L2 w (w1.alloc (.cells (madeCells #[.int .i64 0] 8) 3)) (fun _ => False) (PK qb 64 (1 + A) []) (PR w1.heap.size (fun _ => .int .i64 0)) :=
      L2.start (thK _ _ _ _) h1 hF1 hb1 (W2 := w1.alloc (.cells (madeCells #[.int .i64 0] 8) 3)) (G := fun k => k = w1.heap.size) ⟨World.rowIs_made w1 (.int .i64 0) 8 3, rfl⟩ (fun k e => Nat.le_of_eq e.symm) ((Below.refl _ _).alloc (Nat.le_refl _) _)
    obtain ⟨wB, hwB⟩ : ∃ wB, w1.heap.size = wB := ⟨_, rfl⟩
    rw [hwB] at h2
    have h2' : Aside _ := h2.recount (g := fun i => .int .i64 ((pg (1 + A) i []).length : Int)) (fun i hi => rfl)
    have hmk1 := hmk' w1
    rw [hwB] at hmk1
    clear NW h1 hF1 hb1 h2 hmk'
    go_wp2_with fail
    go_loopw [8] (fun si wr => ∃ (k : Nat) (s : List M), k ≤ n ∧ si = .int .i64 k ∧ L2 w wr (fun _ => False) (PK qb 64 (1 + A) s) (PR wB (fun i => .int .i64 ((pg (1 + A) i s).length : Int))) ∧ s.length = k ∧ Aside (∀ m ∈ s, m.1.2.2 < (k : Int))) (fun si _ => n - (intOf si).toNat)
    case atStart => exact ⟨0, [], Nat.zero_le _, rfl, h2'.out, rfl, (by simp : ∀ m ∈ ([] : List M), m.1.2.2 < ((0 : Nat) : Int))⟩
    case round =>
      clear h2' hmk1 hwB
      obtain ⟨k, s, hk, rfl, hq, hsl, HQ⟩ := hrel
      by_cases hlt : k < n
      · obtain ⟨b, off, rfl, hB, hc⟩ := h.2 (by omega)
        have ht := h.1 k
        obtain ⟨t, htt⟩ : ∃ t, l.getD k 0 = t := ⟨_, rfl⟩
        have x0 := (hq.bel.cell (p := ⟨b, off + k, none⟩) hB).trans (hc k hlt)
        have CE := fun (W : World) (hW : Below w.heap.size w W) => (hW.cell (p := ⟨b, off + k, none⟩) hB).trans (hc k hlt)
        rw [htt] at ht x0
        simp only [htt] at CE
        have CA : Aside _ := CE
        obtain ⟨p1, p2⟩ := push_new (s := s) (t := t) ht hsl (by omega) HQ.out
        have P1 := hq.callP (thR _ _) (fun F hF => kpush hF ((t, 0, (k : Int)), 0, 0, 0))
        rw [p1, p2] at P1
        have hsrt : Srt s := by obtain ⟨F0, hF0⟩ := hq.seeP; exact (ksrt hF0).1
        have hcn := fun i => ins_count hsrt (1 + A) i ((t, 0, (k : Int)), 0, 0, 0)
        have hmod := pgN_int (1 + A) t ht.1
        rw [show ((1 + A : Nat) : Int) = 1 + (A : Int) by omega] at hmod
        obtain ⟨p, hp⟩ : ∃ p, pgN (1 + A) t = p := ⟨_, rfl⟩
        have hp8 : p < 8 := by rw [← hp]; exact pgN_lt _ _
        rw [hp] at hmod
        dsimp only at hcn
        rw [hp] at hcn
        have HCN : Aside _ := hcn
        have hl2 := ins_len s ((t, 0, (k : Int)), 0, 0, 0)
        have hmem : ∀ m ∈ ins s ((t, 0, (k : Int)), 0, 0, 0), m.1.2.2 < ((k + 1 : Nat) : Int) := by
          intro m hm
          rcases ins_mem.1 hm with g | rfl
          · have := HQ.out m g; omega
          · simp; omega
        obtain ⟨s2, hs2⟩ : ∃ s2, ins s ((t, 0, (k : Int)), 0, 0, 0) = s2 := ⟨_, rfl⟩
        rw [hs2] at P1 HCN hl2 hmem
        have HMEM : Aside _ := hmem
        have hlt' : (k : Int) < (n : Int) := by omega
        have hcl : (pg (1 + A) p s).length ≤ 1000 := by have := pg_len_le (1 + A) p s; omega
        have hd0 : ¬ ((1 : Int) + (A : Int) = 0) := by omega
        have hd1 : ((1 : Int) + (A : Int) == 0) = false := by simpa using hd0
        have hp8' : (p : Int) < 8 := by omega
        dsimp only [mv] at P1
        clear hq p1 p2 hcn hs2 hp hc htt hmem HQ hsrt h CE
        go_wp2_with fail
        refine P1.mono ?_
        rintro e w3 ⟨rfl, z3, f3⟩
        have y0 := CA.out w3 z3.bel
        have u1 := z3.row.cell hp8
        have u2 := z3.row.frozen p
        have Z4 : Aside (L2 w (w3.setCell ⟨wB, p, none⟩ (.int .i64 (((pg (1 + A) p s).length : Int) + 1))) (fun _ => False) (PK qb 64 (1 + A) s2) (PR wB (fun i => .int .i64 ((pg (1 + A) i s2).length : Int)))) := by
          refine (L2.store (thK _ _ _ _) z3 p _).recount ?_
          intro i hi
          show (if i = p then _ else _) = _
          rw [HCN.out i]
          by_cases e : i = p
          · subst e
            rw [if_pos rfl, if_pos rfl]
            rfl
          · rw [if_neg e, if_neg (Ne.symm e)]
            rfl
        clear P1 x0 z3 f3 HCN CA
        obtain ⟨cn, hcn⟩ : ∃ cn, (pg (1 + A) p s).length = cn := ⟨_, rfl⟩
        rw [hcn] at hcl u1 Z4
        clear hcn
        go_wp2_with fail
        go_roundw
        case rel => exact ⟨k + 1, s2, by omega, by go_num, Z4.out, by omega, HMEM.out⟩
        case measure => simp [intOf]; omega
      · have hkd : k = n := by omega
        subst hkd
        have hgt : ¬ ((k : Int) < (k : Int)) := by omega
        obtain ⟨F0, hF0⟩ := hq.seeP
        have D1 := kdays hF0
        obtain ⟨dB, hdB⟩ : ∃ dB, wr.heap.size = dB := ⟨_, rfl⟩
        rw [hdB] at D1
        have HH : Aside _ := hq
        have hwl : wB < wr.heap.size := hq.row.lt
        clear h hF0 hq
        go_wp2_with fail
        refine D1.mono ?_
        rintro e w3 ⟨rfl, r3, b3⟩
        have z3 := L2.below HH.out (thK _ _ _ _) (thR _ _) (by rw [hdB]; exact b3)
        obtain ⟨F1, hF1⟩ := z3.seeP
        have N1 := klen hF1
        rw [hsl] at N1
        have rw3 : Aside _ := z3.row
        have rd3 : Aside _ := r3
        have bel3 : Aside _ := z3.bel
        clear D1 b3 r3 z3 hF1 HH
        go_wp2_with fail
        refine N1.mono ?_
        rintro e wN ⟨rfl, hwN⟩
        have hwN' := hwN.symm
        subst hwN'
        clear hwN N1
        go_wp2_with fail
        go_loopw [11] (fun si wx => ∃ (j : Nat), j ≤ 8 ∧ si = .int .i64 j ∧ ∃ q, wx = w3.drewN q) (fun si _ => 8 - (intOf si).toNat)
        case atStart => exact ⟨0, Nat.zero_le _, rfl, 0, rfl⟩
        case round =>
          obtain ⟨j, hj, rfl, q, rfl⟩ := hrel
          by_cases hj8 : j < 8
          · have hj8' : (j : Int) < 8 := by omega
            have c1 : w3.cell? ⟨dB, j, none⟩ = some (.int .i64 ((pg (1 + A) j s).length : Int)) := by
              have := World.rowIs.cell rd3.out hj8
              rw [this]
              unfold dayF
              rw [if_pos hj8]
            have c2 : w3.cell? ⟨wB, j, none⟩ = some (.int .i64 ((pg (1 + A) j s).length : Int)) := World.rowIs.cell rw3.out hj8
            obtain ⟨cn, hcn⟩ : ∃ cn, (pg (1 + A) j s).length = cn := ⟨_, rfl⟩
            rw [hcn] at c1 c2
            clear hcn
            go_wp2_with fail
            go_quiet (fail)
            go_wp2_with fail
            go_roundw
            case rel => exact ⟨j + 1, by omega, by go_num, _, rfl⟩
            case measure => simp [intOf]; omega
          · obtain rfl : j = 8 := by omega
            go_wp2_with fail
            go_ret
            exact ⟨rfl, below_drewN bel3.out q⟩
end Go.Proofs.Ytjkcdkoomipfkaa
