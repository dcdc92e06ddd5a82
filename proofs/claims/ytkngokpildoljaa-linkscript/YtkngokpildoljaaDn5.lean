/- Proved: the contract of Send of the document's net: its walk. -/
import Derived.Test.YtkngokpildoljaaDn4
namespace Go.Proofs.Ytkngokpildoljaa
open Go.RowKit Go.Shelf Go.Sort
set_option linter.unusedVariables false

set_option maxRecDepth 100000 in
set_option maxHeartbeats 4000000 in
theorem dsend_any {n room : Nat} {L : Ln} {tb pu : Nat} {w : World} {F : Nat → Prop} (h : DN n room L tb pu w F) (a b : Int) (x : It) :
    Calls Try.prog 11 #[.pointer (some ⟨tb, 0, none⟩), .int .i64 a, .int .i64 b, iv x] w fun e w' => e = .returned (.int .i64 (sndE n room L a b x)) ∧ ∃ F2, DN n room (sndL n room L a b x) tb pu w' F2 ∧ Stp2 F F2 w w' := by
  have I : ∀ W, Below w.heap.size w W → Calls Try.prog 29 #[.pointer (some ⟨tb, 0, none⟩), .int .i64 a, .int .i64 b] W fun e w' => e = .returned (.bool (isL n a b)) ∧ W = w' := fun W hW => dis_any W tb n a b (h.below hW).c0
  have HH : Hid (DN n room L tb pu w F) := h
  have bad : isL n a b = false ∨ okI x = false → sndE n room L a b x = 1 ∧ sndL n room L a b x = L := fun g => by
    have e : sndE n room L a b x = 1 := by
      unfold sndE
      rw [if_neg (fun k => by rcases g with g | g <;> rw [g] at k <;> simp at k)]
    exact ⟨e, by unfold sndL; rw [e]; rfl⟩
  have fin1 : ∃ F2, DN n room L tb pu (w.alloc (.cells (ics x) 35)) F2 ∧ Stp2 F F2 w (w.alloc (.cells (ics x) 35)) := ⟨F, h.below (al w _), Stp2.same (al w _)⟩
  have HF1 : Hid _ := fin1
  obtain ⟨c0, c1, c2, c3, c4, c5, c6, c7⟩ := (BoxT.new w x).cells
  clear fin1
  cases hx : isL n a b
  · obtain ⟨e1, e2⟩ := bad (.inl hx)
    rw [e1, e2]
    rw [hx] at I
    have HI : Hid _ := I
    clear I h hx bad e1 e2
    go_enter Try.func11, Try.ntmps11
    go_wp2_with (go_at_call 29; refine (Hid.out HI _ (al _ _)).mono ?_; rintro e w' ⟨rfl, rfl⟩; clear HI)
    go_ret
    exact ⟨rfl, HF1.out⟩
  · rw [hx] at I
    have HI : Hid _ := I
    by_cases hk1 : x.k < 0
    · have d1 : decide (x.k < 0) = true := by simpa using hk1
      obtain ⟨e1, e2⟩ := bad (.inr (by simp [okI]; omega))
      rw [e1, e2]
      clear I h hx bad e1 e2
      go_enter Try.func11, Try.ntmps11
      go_wp2_with (go_at_call 29; refine (Hid.out HI _ (al _ _)).mono ?_; rintro e w' ⟨rfl, rfl⟩; clear HI)
      go_ret
      exact ⟨rfl, HF1.out⟩
    · have d1 : decide (x.k < 0) = false := by simpa using hk1
      by_cases hk2 : 2 < x.k
      · have d2 : decide (2 < x.k) = true := by simpa using hk2
        obtain ⟨e1, e2⟩ := bad (.inr (by simp [okI]; omega))
        rw [e1, e2]
        clear I h hx bad e1 e2
        go_enter Try.func11, Try.ntmps11
        go_wp2_with (go_at_call 29; refine (Hid.out HI _ (al _ _)).mono ?_; rintro e w' ⟨rfl, rfl⟩; clear HI)
        go_ret
        exact ⟨rfl, HF1.out⟩
      · have d2 : decide (2 < x.k) = false := by simpa using hk2
        by_cases hc1 : x.co < 0
        · have d3 : decide (x.co < 0) = true := by simpa using hc1
          obtain ⟨e1, e2⟩ := bad (.inr (by simp [okI]; omega))
          rw [e1, e2]
          clear I h hx bad e1 e2
          go_enter Try.func11, Try.ntmps11
          go_wp2_with (go_at_call 29; refine (Hid.out HI _ (al _ _)).mono ?_; rintro e w' ⟨rfl, rfl⟩; clear HI)
          go_ret
          exact ⟨rfl, HF1.out⟩
        · have d3 : decide (x.co < 0) = false := by simpa using hc1
          by_cases hc2 : 1 < x.co
          · have d4 : decide (1 < x.co) = true := by simpa using hc2
            obtain ⟨e1, e2⟩ := bad (.inr (by simp [okI]; omega))
            rw [e1, e2]
            clear I h hx bad e1 e2
            go_enter Try.func11, Try.ntmps11
            go_wp2_with (go_at_call 29; refine (Hid.out HI _ (al _ _)).mono ?_; rintro e w' ⟨rfl, rfl⟩; clear HI)
            go_ret
            exact ⟨rfl, HF1.out⟩
          · have d4 : decide (1 < x.co) = false := by simpa using hc2
            have hok : okI x = true := by simp [okI]; omega
            have R : ∀ W, Below w.heap.size w W → Calls Try.prog 19 #[.pointer (some ⟨tb, 0, none⟩), .int .i64 a, .int .i64 b] W fun e w' => e = .returned (.int .i64 (roomN n room L a b)) ∧ Below W.heap.size W w' := fun W hW => droom_any (h.below hW) a b
            have hrn : roomN n room L a b = (room : Int) - ((L a b).length : Int) := by unfold roomN; rw [if_pos hx]
            have hle := h.ok.len a b
            by_cases hfull : (L a b).length = room
            · have e1 : sndE n room L a b x = 2 := by unfold sndE; rw [if_pos ⟨hx, hok⟩, if_pos hfull]
              have e2 : sndL n room L a b x = L := by unfold sndL; rw [e1]; rfl
              rw [e1, e2]
              have hr0 : roomN n room L a b = 0 := by rw [hrn, hfull]; omega
              rw [hr0] at R
              have HR : Hid _ := R
              clear I R h hx bad e1 e2 hrn hr0 hfull hle
              go_enter Try.func11, Try.ntmps11
              go_wp2_with (first | (go_at_call 29; refine (Hid.out HI _ (al _ _)).mono ?_; rintro e w' ⟨rfl, rfl⟩; clear HI) | (go_at_call 19; refine (Hid.out HR _ (al _ _)).mono ?_; rintro e w3 ⟨rfl, h3⟩; have H3 : Hid _ := Below.on (al w _) h3; clear h3 HR))
              go_ret
              exact ⟨rfl, F, HH.out.below H3.out, Stp2.same H3.out⟩
            · have e1 : sndE n room L a b x = 0 := by unfold sndE; rw [if_pos ⟨hx, hok⟩, if_neg hfull]
              have e2 : sndL n room L a b x = updL L a b (L a b ++ [x]) := by unfold sndL; rw [if_pos e1]
              rw [e1, e2]
              obtain ⟨r, hr⟩ : ∃ r, roomN n room L a b = r := ⟨_, rfl⟩
              have dr : (r == 0) = false := by simp; omega
              simp only [hr] at R
              have HR : Hid _ := R
              have h16 := h.ok.r16
              have h8 := h.ok.n8
              obtain ⟨⟨h1, h2⟩, ⟨h3, h4⟩, _⟩ := (isL_iff n a b).1 hx
              obtain ⟨k, rfl⟩ := Int.eq_ofNat_of_zero_le h1
              obtain ⟨m, rfl⟩ := Int.eq_ofNat_of_zero_le h3
              obtain ⟨p, q, q1, q2, hq, g1, g2, g3, g4, g5, g6, g7⟩ := place_of h8 (a := k) (b := m) (by omega) (by omega)
              have g8 : IntKind.i64.wrap (p : Int) = (p : Int) := by rw [IntKind.wrap_i64]; omega
              have g9 : IntKind.i64.wrap (q : Int) = (q : Int) := by rw [IntKind.wrap_i64]; omega
              have hqe : k * n + m = q := by omega
              have hlk : lk n L q = L k m := by rw [← hqe]; exact lk_at L (by omega)
              have hpu := h.lt _ h.fp
              have htb := h.lt _ h.ft
              obtain ⟨nn, hnn⟩ : ∃ nn, n * n = nn := ⟨_, rfl⟩
              have hq' : (q : Int) < (nn : Int) := by omega
              have hq0 : (0 : Int) ≤ (q : Int) := by omega
              obtain ⟨l, hl⟩ : ∃ l, L k m = l := ⟨_, rfl⟩
              -- the two appends, whatever world the call of Room leaves
              have AP : ∀ w3, Below w.heap.size w w3 → BoxT w3 w.heap.size x → ∃ sa sc a1 s1 w5 a2 s2 w6, w3.cell? ⟨tb, 0, none⟩ = some (.int .i64 n) ∧ w3.cell? ⟨tb, 2, none⟩ = some (.slice (some ⟨pu, 0, none⟩) nn nn) ∧ w3.cell? ⟨pu, q, none⟩ = some (.slice sa l.length sc) ∧
                  (Builtin.append_ #[45, 45] 45 #[.slice (some ⟨w3.heap.size, 0, none⟩) 0 0, .slice sa l.length sc]).run Try.prog (w3.alloc (.cells #[] 35)).drew = .ok (.slice a1 l.length s1) w5 ∧
                  (w5.cell? ⟨tb, 0, none⟩ = some (.int .i64 n) ∧ w5.cell? ⟨tb, 2, none⟩ = some (.slice (some ⟨pu, 0, none⟩) nn nn) ∧ tb < w5.heap.size ∧ BoxT w5 w.heap.size x) ∧
                  (Builtin.append_ #[45, 45] 45 #[.slice a1 l.length s1, .slice (some ⟨w5.heap.size, 0, none⟩) 1 1]).run Try.prog (w5.drew.alloc (.cells (ics x) 35)) = .ok (.slice a2 (l.length + 1) s2) w6 ∧
                  (w6.cell? ⟨tb, 0, none⟩ = some (.int .i64 n) ∧ w6.cell? ⟨tb, 2, none⟩ = some (.slice (some ⟨pu, 0, none⟩) nn nn) ∧ w6.cell? ⟨pu, q, none⟩ = some (.slice sa l.length sc) ∧ w6.frozen? ⟨pu, q, none⟩ = false) ∧
                  ∃ F2, DN n room (updL L k m (l ++ [x])) tb pu (w6.setCell ⟨pu, q, none⟩ (.slice a2 (l.length + 1) s2)) F2 ∧ Stp2 F F2 w (w6.setCell ⟨pu, q, none⟩ (.slice a2 (l.length + 1) s2)) := fun w3 hw3 hbx => by
                have hd := h.below hw3
                obtain ⟨sa, sc, k1, k2, k3⟩ := hd.ls q (by omega)
                rw [hlk, hl] at k1 k3
                have hs3 := hw3.size
                have b4 : Below w3.heap.size w3 (w3.alloc (.cells #[] 35)).drew := (al w3 _).drew
                obtain ⟨a1, s1, w5, r1, rw1, gr1, ow1⟩ := append_T (c := sc) ((RwT.empty w.heap.size w3 hs3).below ((Below.refl _ _).drew)) (by simp; omega) (RdG.keep k3 (Fr.of_below (S := fun _ => False) b4) (fun _ _ g => g)).rd (by simp) (by rw [hl] at hle; omega) 45 l (by simp)
                have f5 : Below w3.heap.size w3 w5 := b4.grown gr1 (by simp) (fun k e => by simp [Value.ownBlock] at e; omega)
                have b5 : Below w.heap.size w w5 := Below.on hw3 f5
                have bx5 := hbx.below f5
                have hs5 := b5.size
                obtain ⟨a2, s2, w6, r2, rw2, gr2, ow2⟩ := append_T (c := 1) ((rw1.below ((Below.refl _ _).drew)).below (al w5.drew (.cells (ics x) 35))) (by simp; omega) (BoxT.new w5.drew x).rd (by rw [hl] at hle; omega) (by simp) 45 (l ++ [x]) rfl
                have b6 : Below w.heap.size w w6 := (Below.on (Below.on b5 ((Below.refl _ _).drew)) (al w5.drew (.cells (ics x) 35))).grown gr2 (by simp; omega) (fun k e => (rw1.ge e).1)
                have hd5 := h.below b5
                have hd6 := h.below b6
                obtain ⟨sa', sc', j1, j2, j3⟩ := hd6.ls q (by omega)
                have j1' := (b6.cell (p := ⟨pu, q, none⟩) hpu)
                have k1' := (hw3.cell (p := ⟨pu, q, none⟩) hpu)
                rw [← k1', k1] at j1'
                have e9 : (l ++ [x]).length = l.length + 1 := by simp
                rw [e9] at r2
                refine ⟨sa, sc, a1, s1, w5, a2, s2, w6, hd.c0, by rw [← hnn]; exact hd.c2, k1, r1, ⟨hd5.c0, by rw [← hnn]; exact hd5.c2, hd5.lt _ hd5.ft, bx5⟩, r2, ⟨hd6.c0, by rw [← hnn]; exact hd6.c2, j1', j2⟩, _, h.upd (l := l ++ [x]) (sa := a2) (sc := s2) (W := w6) (by omega) (by omega) hx (by rw [e9]; rw [hl] at hle hfull; omega) b6 ?_ (by rw [hqe, e9]) rw2.cap⟩
                intro hne
                rcases rw2.2 with ⟨g, hn0⟩ | ⟨gb, cap, cur, ge, gb0, gh, _⟩
                · exact absurd (List.length_eq_zero_iff.1 hn0) hne
                · obtain ⟨a3, c3, e3, hr3⟩ := RwT.rd rw2
                  obtain ⟨bb, off, e4, hb4, hc4⟩ := hr3 hne
                  simp at e3
                  simp at ge
                  obtain ⟨e31, _⟩ := e3
                  rw [ge.1] at e31
                  rw [← e31] at e4
                  simp at e4
                  obtain ⟨rfl, rfl⟩ := e4
                  exact ⟨gb, 0, ge.1, gb0, hb4, hc4⟩
              rw [hl]
              have HAP : Hid _ := AP
              clear I R h hx bad e1 e2 hrn hr hfull hle AP hl hlk hqe q1 q2 hnn hq
              go_enter Try.func11, Try.ntmps11
              go_wp2_with (first | (go_at_call 29; refine (Hid.out HI _ (al _ _)).mono ?_; rintro e w' ⟨rfl, rfl⟩; clear HI) | (go_at_call 19; refine (Hid.out HR _ (al _ _)).mono ?_; rintro e w3 ⟨rfl, h3⟩; obtain ⟨sa, sc, a1, s1, w5, a2, s2, w6, t0, t2, t1, r1, t5, r2, t6, hfin⟩ := HAP.out w3 (Below.on (al w _) h3) ((BoxT.new w x).below h3); have hs3 := h3.size; simp only [World.size_alloc] at hs3; have HR1 : Hid _ := r1; have HR2 : Hid _ := r2; have HT5 : Hid _ := t5; have HT6 : Hid _ := t6; have HFIN : Hid _ := hfin; clear h3 HR HAP r1 r2 t5 t6 hfin))
              have hpu3 : pu < w3.heap.size := by omega
              have htb3 : tb < w3.heap.size := by omega
              clear c0 c1 c2 c3 c4 c5 c6 c7
              go_region_law (refine step_append_run rfl (.tmp 41) (.tmp 55) 45 rfl (by simp [Act.eval]) (by simp [Act.eval]) HR1.out ?_)
              all_goals (
                obtain ⟨u0, u2, htb5, bx5⟩ := HT5.out
                obtain ⟨e0, e1, e2, e3, e4, e5, e6, e7⟩ := bx5.cells
                obtain ⟨v0, v2, v1, vf⟩ := HT6.out
                have hbl : w.heap.size < w5.heap.size := bx5.lt
                have hv6 : tb < w6.heap.size := clt v0
                clear t0 t1 t2 HR1 HT5 HT6 bx5
                go_wp2_with fail
                go_region_law (refine step_append_run rfl (.tmp 69) (.tmp 71) 45 rfl (by simp [Act.eval, Act.put]) (by simp [Act.eval, Act.put]) HR2.out ?_)
                all_goals go_wp2
                all_goals go_ret
                all_goals exact ⟨rfl, HFIN.out⟩)
end Go.Proofs.Ytkngokpildoljaa
