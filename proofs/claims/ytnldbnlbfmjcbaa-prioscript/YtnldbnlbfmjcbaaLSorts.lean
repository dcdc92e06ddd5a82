/- Proved: the walk of the law PrioSorts. -/
import Derived.Test.YtnldbnlbfmjcbaaLaw0
namespace Go.Proofs.Ytnldbnlbfmjcbaa
open Go.RowKit Go.Sort
set_option linter.unusedVariables false

/-- A queue beside a variable of the law's own that holds a key. -/
def LK (w W : World) (qb room : Nat) (s : List M) (LB : Nat) (k1 k2 k3 : Int) : Prop :=
  ∃ F, IsQ W F qb room s ∧ (∀ k, F k → w.heap.size ≤ k) ∧ Below w.heap.size w W ∧ (W.cell? ⟨LB, 0, none⟩ = some (.int .i64 k1) ∧ W.cell? ⟨LB, 1, none⟩ = some (.int .i64 k2) ∧ W.cell? ⟨LB, 2, none⟩ = some (.int .i64 k3)) ∧ (∀ j, W.frozen? ⟨LB, j, none⟩ = false) ∧ ¬ F LB ∧ w.heap.size ≤ LB
theorem LK.q {w W : World} {qb room LB : Nat} {s : List M} {k1 k2 k3 : Int} (h : LK w W qb room s LB k1 k2 k3) : LQ w W qb room s := by
  obtain ⟨F, h1, h2, h3, h4⟩ := h
  exact ⟨F, h1, h2, h3⟩
theorem LK.cells {w W : World} {qb room LB : Nat} {s : List M} {k1 k2 k3 : Int} (h : LK w W qb room s LB k1 k2 k3) : (W.cell? ⟨LB, 0, none⟩ = some (.int .i64 k1) ∧ W.cell? ⟨LB, 1, none⟩ = some (.int .i64 k2) ∧ W.cell? ⟨LB, 2, none⟩ = some (.int .i64 k3)) ∧ (∀ j, W.frozen? ⟨LB, j, none⟩ = false) := by
  obtain ⟨F, h1, h2, h3, h4, h5, h6⟩ := h
  exact ⟨h4, h5⟩
theorem LK.below {w W W2 : World} {qb room LB : Nat} {s : List M} {k1 k2 k3 : Int} (h : LK w W qb room s LB k1 k2 k3) (hb : Below W.heap.size W W2) : LK w W2 qb room s LB k1 k2 k3 := by
  obtain ⟨F, h1, h2, h3, ⟨a, b, c⟩, h5, h6, h7⟩ := h
  have hl := cell_lt a
  exact ⟨F, h1.below hb, h2, h3.trans (hb.mono h3.size), ⟨(hb.cell (p := ⟨LB, 0, none⟩) hl).trans a, (hb.cell (p := ⟨LB, 1, none⟩) hl).trans b, (hb.cell (p := ⟨LB, 2, none⟩) hl).trans c⟩, fun j => (hb.frozen (p := ⟨LB, j, none⟩) hl).trans (h5 j), h6, h7⟩
theorem kpop {w W : World} {qb room LB : Nat} {s : List M} {k1 k2 k3 : Int} (h : LK w W qb room s LB k1 k2 k3) : Calls Try.prog 15 #[.pointer (some ⟨qb, 0, none⟩)] W fun e w' => e = .returned (.tuple #[mv (s.headD zeroM), .bool (!s.isEmpty)]) ∧ LK w w' qb room s.tail LB k1 k2 k3 := by
  obtain ⟨F, h1, h2, h3, ⟨a, b, c⟩, h5, h6, h7⟩ := h
  refine (qpop_any h1).mono fun e w' ⟨he, F2, hq, hs⟩ => ⟨he, ?_⟩
  have hl := cell_lt a
  exact ⟨F2, hq, fun k hk => (hs.2 k hk).elim (h2 k) (fun g => Nat.le_trans h3.size g), h3.trans (hs.1.below h3.size h2), ⟨(hs.1.cell (p := ⟨LB, 0, none⟩) hl h6).trans a, (hs.1.cell (p := ⟨LB, 1, none⟩) hl h6).trans b, (hs.1.cell (p := ⟨LB, 2, none⟩) hl h6).trans c⟩, fun j => (hs.1.frozen (p := ⟨LB, j, none⟩) hl h6).trans (h5 j), fun e => (hs.2 LB e).elim h6 (fun g => by omega), h7⟩
theorem LK.put {w W : World} {qb room LB : Nat} {s : List M} {k1 k2 k3 : Int} (h : LK w W qb room s LB k1 k2 k3) (a1 a2 a3 : Int) : LK w (((W.setCell ⟨LB, 0, none⟩ (.int .i64 a1)).setCell ⟨LB, 1, none⟩ (.int .i64 a2)).setCell ⟨LB, 2, none⟩ (.int .i64 a3)) qb room s LB a1 a2 a3 := by
  obtain ⟨F, h1, h2, h3, ⟨a, b, c⟩, h5, h6, h7⟩ := h
  have f : Fr (fun k => k = LB) W (((W.setCell ⟨LB, 0, none⟩ (.int .i64 a1)).setCell ⟨LB, 1, none⟩ (.int .i64 a2)).setCell ⟨LB, 2, none⟩ (.int .i64 a3)) := (((Fr.refl (fun k => k = LB) W).setCell _ _ (.inl rfl)).setCell _ _ (.inl rfl)).setCell _ _ (.inl rfl)
  refine ⟨F, h1.keep f (fun k hk e => h6 (e ▸ hk)), h2, h3.trans (f.below h3.size (fun i e => by rw [e]; exact h7)), ⟨?_, ?_, ?_⟩, fun j => ?_, h6, h7⟩
  · go_simp
  · go_simp
  · go_simp
  · rw [World.frozen?_setCell, World.frozen?_setCell, World.frozen?_setCell]; exact h5 j
theorem LQ.key {w W : World} {qb room : Nat} {s : List M} (h : LQ w W qb room s) (k1 k2 k3 : Int) : LK w (W.alloc (.cells #[.int .i64 k1, .int .i64 k2, .int .i64 k3] 28)) qb room s W.heap.size k1 k2 k3 := by
  obtain ⟨F, h1, h2, h3⟩ := h
  have hb : Below W.heap.size W (W.alloc (.cells #[.int .i64 k1, .int .i64 k2, .int .i64 k3] 28)) := (Below.refl _ _).alloc (Nat.le_refl _) _
  refine ⟨F, h1.below hb, h2, h3.trans (hb.mono h3.size), ⟨?_, ?_, ?_⟩, fun j => ?_, fun e => by have := h1.lt _ e; omega, h3.size⟩
  · rw [World.cell?_alloc_new]; rfl
  · rw [World.cell?_alloc_new]; rfl
  · rw [World.cell?_alloc_new]; rfl
  · unfold World.frozen?
    rw [heap_alloc_new]
    simp
theorem LR.q {w W : World} {qb room rb room2 : Nat} {s t : List M} (h : LR w W qb room rb room2 s t) : LQ w W qb room s := by
  obtain ⟨F, G, h1, h2, h3, h4, h5, h6⟩ := h
  exact ⟨F, h1, h4, h6⟩
theorem clamp64 : clampR 64 = 64 := by decide
theorem clamp1 : clampR 1 = 1 := by decide

set_option maxRecDepth 100000 in
set_option maxHeartbeats 2000000 in
theorem sorts_walk (w : World) (a : Option Addr) (n c : Nat) (l : List M) (hn : n ≤ maxLen) (h : InM w a n l) :
    Calls Try.prog 4 #[.slice a n c] w fun e w' => e = .returned (.bool true) ∧ Below w.heap.size w w' := by
  unfold maxLen at hn
  by_cases hbig : 64 < n
  · have g : (64 : Int) < (n : Int) := by omega
    clear h
    go_enter Try.func4, Try.ntmps4
    go_wp2
    go_ret
    exact ⟨rfl, Below.refl _ _⟩
  · have g : ¬ (64 : Int) < (n : Int) := by omega
    have hl := h.1
    have NW := lnew (w := w) (W := w) 64 (by unfold i64; omega) (Below.refl _ _)
    rw [clamp64] at NW
    go_enter Try.func4, Try.ntmps4
    go_wp2_with fail
    refine NW.mono ?_
    rintro e w1 ⟨qb, rfl, h1, _⟩
    have NR := rnew h1 64 (by unfold i64; omega)
    rw [clamp64] at NR
    clear NW
    go_wp2_with fail
    refine NR.mono ?_
    rintro e w2 ⟨rb, rfl, h2⟩
    clear NR h1
    go_wp2_with fail
    go_loopw [5, 6] (fun sn si wr => ∃ (k : Nat) (s : List M), k ≤ n ∧ si = .int .i64 k ∧ sn = .int .i64 s.length ∧ LR w wr qb 64 rb 64 s s) (fun _ si _ => n - (intOf si).toNat)
    case atStart => exact ⟨0, [], Nat.zero_le _, rfl, rfl, h2⟩
    case round =>
      obtain ⟨k, s, hk, rfl, rfl, hq⟩ := hrel
      have hsr := hq.srt
      by_cases hlt : k < n
      · obtain ⟨x, hx⟩ : ∃ x, nth l k = x := ⟨_, rfl⟩
        have hxw : mwf x := by rw [← hx, nth_get l k (by omega)]; exact h.2.1 _ (List.getElem_mem _)
        obtain ⟨b, off, rfl, x0, x1, x2, x3, x4, x5⟩ := h.cells hq.bel (i := k) (by omega) hx
        have P1 := pq hq x hxw
        have hlt' : (k : Int) < (n : Int) := by omega
        have hsl : s.length ≤ 64 := by omega
        have P2 := fun (W : World) (hW : LR w W qb 64 rb 64 (pushS s 64 x) s) => pr hW x
        have CE := fun (W : World) (hW : Below w.heap.size w W) => h.cells hW (i := k) (by omega) hx
        have hcase : (pushC s 64 x = 0 ∧ (pushS s 64 x).length = s.length + 1) ∨ (pushC s 64 x = 2 ∧ (pushS s 64 x).length = s.length) ∨ (pushC s 64 x = 3 ∧ (pushS s 64 x).length = s.length) := by
          rcases pushC_lt (s := s) (room := 64) (m := x) with e | e | e
          · exact .inr (.inr ⟨e, by rw [pushS_ne (by omega)]⟩)
          · exact .inr (.inl ⟨e, by rw [pushS_ne (by omega)]⟩)
          · exact .inl ⟨e, by rw [(pushC_zero e).2.2, ins_len]⟩
        obtain ⟨s2, hs2⟩ : ∃ s2, pushS s 64 x = s2 := ⟨_, rfl⟩
        obtain ⟨C1, hC1⟩ : ∃ C1, pushC s 64 x = C1 := ⟨_, rfl⟩
        rw [hs2, hC1] at P1 P2 hcase
        clear hs2 hC1 hx hsr
        obtain ⟨⟨b1, b2, b3⟩, b4, b5, b6⟩ := x
        dsimp only [mv] at P1 P2 x0 x1 x2 x3 x4 x5
        dsimp only at CE
        have PP2 : Aside _ := P2
        have CA : Aside _ := CE
        clear P2 CE
        rcases hcase with ⟨rfl, hl2⟩ | ⟨rfl, hl2⟩ | ⟨rfl, hl2⟩
        all_goals
          have HL : Hid _ := hl2
          clear hl2
          go_wp2_with fail
          refine P1.mono ?_
          rintro e w3 ⟨rfl, q2⟩
          obtain ⟨_, _, hab, y0, y1, y2, y3, y4, y5⟩ := CA.out w3 q2.bel
          simp only [Option.some.injEq, Addr.mk.injEq] at hab
          obtain ⟨rfl, rfl, _⟩ := hab
          clear x0 x1 x2 x3 x4 x5 P1
          go_wp2_with fail
          refine (PP2.out _ q2).mono ?_
          rintro e w4 ⟨rfl, q3⟩
          clear y0 y1 y2 y3 y4 y5
          go_wp2_with fail
          go_roundw
          case rel => exact ⟨k + 1, s2, by omega, by go_num, by first | (rw [HL.out]; done) | (rw [HL.out]; go_num), q3⟩
          case measure => simp [intOf]; omega
      · have hkd : k = n := by omega
        subst hkd
        have hgt : ¬ ((k : Int) < (k : Int)) := by omega
        have hq1 := hq.q
        have hK := hq1.key 0 0 0
        obtain ⟨LB, hLB⟩ : ∃ LB, wr.heap.size = LB := ⟨_, rfl⟩
        rw [hLB] at hK
        have hsl : s.length ≤ 64 := by omega
        have hs0 : Srt s := hsr.1
        have KA : Aside _ := hK
        clear hK hsr hq h hq1
        go_wp2_with fail
        have hK := KA.out
        go_loopw [9] (fun si wr => ∃ (j : Nat) (t : List M) (k1 k2 k3 : Int), si = .int .i64 j ∧ j + t.length = s.length ∧ Srt t ∧ LK w wr qb 64 t LB k1 k2 k3 ∧ (0 < j → ∀ y ∈ t, klt (k1, k2, k3) y.1 = true)) (fun si _ => s.length - (intOf si).toNat)
        case atStart => exact ⟨0, s, 0, 0, 0, rfl, by omega, hs0, hK, fun g => absurd g (Nat.lt_irrefl _)⟩
        case round =>
          obtain ⟨j, t, k1, k2, k3, rfl, hjt, ht, hk1, hbe⟩ := hrel
          have PO := kpop hk1
          cases t with
          | nil =>
            simp only [List.length_nil, Nat.add_zero] at hjt
            have hge : ¬ ((j : Int) < (s.length : Int)) := by omega
            dsimp only [List.headD, List.isEmpty, List.tail, mv, Bool.not_true] at PO
            clear hk1 hbe ht
            go_wp2_with fail
            refine PO.mono ?_
            rintro e w5 ⟨rfl, hk5⟩
            have hk6 : ∀ o, LQ w (w5.alloc o) qb 64 [] := fun o => hk5.q.below ((Below.refl _ _).alloc (Nat.le_refl _) o)
            have L6 := fun o => llen (hk6 o)
            have P6 := fun o => lpush (hk6 o) zeroM zero_wf
            have e6 : pushC [] 64 zeroM = 0 := by decide
            have e7 : pushS [] 64 zeroM = [zeroM] := by decide
            rw [e6, e7] at P6
            simp only [List.length_nil] at L6
            dsimp only [mv] at P6
            clear PO e6 e7
            go_wp2_with fail
            refine (L6 _).mono ?_
            rintro e w7 ⟨rfl, hw7⟩
            have hw7' := hw7.symm
            subst hw7'
            clear hw7 L6
            go_wp2_with fail
            refine (P6 _).mono ?_
            rintro e w8 ⟨rfl, hk8⟩
            have L8 := llen hk8
            simp only [List.length_cons, List.length_nil, Nat.zero_add] at L8
            have hbel := hk8.bel
            clear P6 hk6 hk5
            go_wp2_with fail
            refine L8.mono ?_
            rintro e w9 ⟨rfl, hw9⟩
            have hw9' := hw9.symm
            subst hw9'
            go_wp2_with fail
            go_ret
            exact ⟨rfl, hbel⟩
          | cons x r =>
            simp only [List.length_cons] at hjt
            have hjl : (j : Int) < (s.length : Int) := by omega
            have hj0 : (0 : Int) ≤ (j : Int) := by omega
            obtain ⟨t1, t2⟩ := List.pairwise_cons.1 ht
            dsimp only [List.headD, List.isEmpty, List.tail, mv, Bool.not_false] at PO
            obtain ⟨⟨b1, b2, b3⟩, b4, b5, b6⟩ := x
            have HB : Hid (0 < j → klt (k1, k2, k3) (b1, b2, b3) = true) := fun g => hbe g _ (List.mem_cons_self ..)
            dsimp only at PO t1
            clear hk1 hbe ht
            go_wp2_with fail
            refine PO.mono ?_
            rintro e w5 ⟨rfl, hk5⟩
            have hk6 : LK w (w5.alloc (.cells #[.int .i64 b1, .int .i64 b2, .int .i64 b3, .int .i64 b4, .int .i64 b5, .int .i64 b6] 30)) qb 64 r LB k1 k2 k3 := hk5.below ((Below.refl _ _).alloc (Nat.le_refl _) _)
            obtain ⟨⟨z0, z1, z2⟩, zf⟩ := hk5.cells
            have hlb := cell_lt z0
            by_cases j0 : j = 0
            · subst j0
              have KP : ∀ o, LK w ((((w5.setCell ⟨LB, 0, none⟩ (.int .i64 b1)).setCell ⟨LB, 1, none⟩ (.int .i64 b2)).setCell ⟨LB, 2, none⟩ (.int .i64 b3)).alloc o) qb 64 r LB b1 b2 b3 := fun o => (hk5.put b1 b2 b3).below ((Below.refl _ _).alloc (Nat.le_refl _) _)
              have KA : Aside _ := KP
              clear hk5 hk6 PO KP
              go_wp2_with fail
              go_roundw
              case rel => exact ⟨1, r, b1, b2, b3, rfl, by omega, t2, KA.out _, fun _ => t1⟩
              case measure => simp [intOf]; omega
            · have j1 : (0 : Int) < (j : Int) := by omega
              have CC := fun W => refcmp_any (k1, k2, k3) (b1, b2, b3) W
              have hc : kcmp (k1, k2, k3) (b1, b2, b3) < 0 := (kcmp_neg _ _).2 (HB.out (by omega))
              obtain ⟨rr, hrr⟩ : ∃ rr, kcmp (k1, k2, k3) (b1, b2, b3) = rr := ⟨_, rfl⟩
              rw [hrr] at CC hc
              have hc' : ¬ (0 ≤ rr) := by omega
              dsimp only [kv] at CC
              have KA : Aside _ := hk6
              clear hk5 hk6 PO hrr hc
              go_wp2_with fail
              refine (CC _).mono ?_
              rintro e w6 ⟨rfl, hb6⟩
              have hk7 : LK w w6 qb 64 r LB k1 k2 k3 := LK.below KA.out hb6
              obtain ⟨⟨u0, u1, u2⟩, uf⟩ := hk7.cells
              have KP := hk7.put b1 b2 b3
              have bx := hb6
              have v0 : w6.cell? ⟨w5.heap.size, 0, none⟩ = some (.int .i64 b1) := (hb6.cell (p := ⟨w5.heap.size, 0, none⟩) (by simp)).trans (by rw [World.cell?_alloc_new]; rfl)
              have v1 : w6.cell? ⟨w5.heap.size, 1, none⟩ = some (.int .i64 b2) := (hb6.cell (p := ⟨w5.heap.size, 1, none⟩) (by simp)).trans (by rw [World.cell?_alloc_new]; rfl)
              have v2 : w6.cell? ⟨w5.heap.size, 2, none⟩ = some (.int .i64 b3) := (hb6.cell (p := ⟨w5.heap.size, 2, none⟩) (by simp)).trans (by rw [World.cell?_alloc_new]; rfl)
              have KA2 : Aside _ := KP
              clear hk7 KP hb6 bx CC z0 z1 z2 zf
              go_wp2_with fail
              go_roundw
              case rel => exact ⟨j + 1, r, b1, b2, b3, by go_num, by omega, t2, KA2.out, fun _ => t1⟩
              case measure => simp [intOf]; omega
end Go.Proofs.Ytnldbnlbfmjcbaa
