/- Proved: the contract of Recv of the document's net. -/
import Derived.Test.YtkngokpildoljaaDn4
namespace Go.Proofs.Ytkngokpildoljaa
open Go.RowKit Go.Shelf Go.Sort
set_option linter.unusedVariables false

theorem RdT.tail {w : World} {b off : Nat} {l : List It} (h : RdT w (some ⟨b, off, none⟩) l) : RdT w (some ⟨b, off + 8, none⟩) l.tail := fun hne => by
  have hl : l ≠ [] := by intro e; rw [e] at hne; exact hne rfl
  obtain ⟨b', off', e, hb, hc⟩ := h hl
  simp at e
  obtain ⟨rfl, rfl⟩ := e
  refine ⟨b, off + 8, rfl, hb, fun i hi c h8 => ?_⟩
  rw [nthT_tail, show off + 8 + i * 8 + c = off + (i + 1) * 8 + c by omega]
  exact hc (i + 1) (by simp at hi; omega) c h8
/-- The answer's block, written behind all else. -/
theorem recv_end {n room : Nat} {L : Ln} {tb pu : Nat} {F F2 : Nat → Prop} {w w4 W6 : World} (hb : Below w.heap.size w w4) (hd : DN n room L tb pu W6 F2) (hs : Stp2 F F2 w4 W6) (hlt : ∀ k, F k → k < w.heap.size) (hz : w.heap.size < w4.heap.size) (x : It) :
    ∃ F2, DN n room L tb pu (se8 W6 w.heap.size x) F2 ∧ Stp2 F F2 w (se8 W6 w.heap.size x) := by
  have h1 : Fr F w W6 := (Fr.of_below (S := F) hb).then hs.1
  refine ⟨F2, hd.keep (S := fun k => k = w.heap.size) (fre8 (B := w.heap.size) (Fr.refl (fun k => k = w.heap.size) W6) (.inl rfl) x) (fun k hk e => ?_), fre8 h1 (.inr (Nat.le_refl _)) x, fun k hk => ?_⟩
  · subst e
    rcases hs.2 _ hk with g | g
    · have := hlt _ g; omega
    · omega
  · rcases hs.2 _ hk with g | g
    · exact .inl g
    · exact .inr (by omega)
set_option maxRecDepth 100000 in
set_option maxHeartbeats 16000000 in
theorem drecv_any {n room : Nat} {L : Ln} {tb pu : Nat} {w : World} {F : Nat → Prop} (h : DN n room L tb pu w F) (a b : Int) :
    Calls Try.prog 15 #[.pointer (some ⟨tb, 0, none⟩), .int .i64 a, .int .i64 b] w fun e w' => e = .returned (.tuple #[iv (nthT (L a b) 0), .bool (fstB (L a b))]) ∧ ∃ F2, DN n room (rcvL L a b) tb pu w' F2 ∧ Stp2 F F2 w w' := by
  have FI : ∀ W, Below w.heap.size w W → _ := fun W hb => dfirst_any (h.below hb) a b
  have HH : Hid (DN n room L tb pu w F) := h
  obtain ⟨x, hx⟩ : ∃ x, nthT (L a b) 0 = x := ⟨_, rfl⟩
  obtain ⟨y, hy⟩ : ∃ y, fstB (L a b) = y := ⟨_, rfl⟩
  simp only [hx, hy] at FI ⊢
  have HF : Hid _ := FI
  clear FI hx
  cases y
  · have he : rcvL L a b = L := by
      have : (L a b).length = 0 := by unfold fstB at hy; simp at hy; simpa using hy
      have e : L a b = [] := List.eq_nil_of_length_eq_zero this
      have e2 : (L a b).tail = L a b := by rw [e]; rfl
      unfold rcvL
      rw [e2, updL_self]
    rw [he]
    clear he hy h
    go_enter Try.func15, Try.ntmps15
    go_wp2_with (go_at_call 13; refine (Hid.out HF _ (al _ _)).mono ?_; rintro e w' ⟨rfl, hb2⟩; have bx := (BoxT.zero w).below (Below.on hb2 (al w' (.cells (ics x) 35))); obtain ⟨c0, c1, c2, c3, c4, c5, c6, c7⟩ := bx.cells; obtain ⟨z0, z1, z2, z3, z4, z5, z6, z7⟩ := bx.frozs; dsimp only [it0] at c0 c1 c2 c3 c4 c5 c6 c7; have by2 := BoxT.new w' x; obtain ⟨k0, k1, k2, k3, k4, k5, k6, k7⟩ := by2.cells; have hbw := hb2.size; have HX : Hid _ := bx.set8 x; have HB2 : Hid _ := below8 (Below.on (Below.on (al w _) hb2) (al w' (.cells (ics x) 35))) (Nat.le_refl _) x; simp only [World.size_alloc] at hbw; clear bx by2 hb2)
    obtain ⟨W9, hW⟩ : ∃ W9, W9 = se8 (w'.alloc (.cells (ics x) 35)) w.heap.size x := ⟨_, rfl⟩
    rw [← hW] at HX HB2
    simp only [se8, ics] at hW
    rw [← hW]
    obtain ⟨c0, c1, c2, c3, c4, c5, c6, c7⟩ := HX.out.cells
    exact bodyPost_ret (v := .tuple #[iv x, .bool false]) (by simp [results, Try.results15, go_sem, c0, c1, c2, c3, c4, c5, c6, c7]) rfl ⟨rfl, F, HH.out.below HB2.out, Stp2.same HB2.out⟩
  · have hne : 0 < (L a b).length := by unfold fstB at hy; simpa using hy
    have hx2 : isL n a b = true := by
      cases e : isL n a b
      · rw [h.ok.no a b e] at hne; simp at hne
      · rfl
    obtain ⟨⟨h1, h2⟩, ⟨h3, h4⟩, _⟩ := (isL_iff n a b).1 hx2
    have h16 := h.ok.r16
    have h8 := h.ok.n8
    have hle := h.ok.len a b
    obtain ⟨k, rfl⟩ := Int.eq_ofNat_of_zero_le h1
    obtain ⟨m, rfl⟩ := Int.eq_ofNat_of_zero_le h3
    obtain ⟨p, q, q1, q2, hq, g1, g2, g3, g4, g5, g6, g7⟩ := place_of h8 (a := k) (b := m) (by omega) (by omega)
    have g8 : IntKind.i64.wrap (p : Int) = (p : Int) := by rw [IntKind.wrap_i64]; omega
    have g9 : IntKind.i64.wrap (q : Int) = (q : Int) := by rw [IntKind.wrap_i64]; omega
    have hqe : k * n + m = q := by omega
    have hlk : lk n L q = L k m := by rw [← hqe]; exact lk_at L (by omega)
    have hpu := h.lt _ h.fp
    have htb := h.lt _ h.ft
    obtain ⟨nn, hnn⟩ : ∃ nn, n * n = nn := ⟨_, rfl⟩
    have hq' : (q : Int) < (nn : Int) := by omega
    have hq0 : (0 : Int) ≤ (q : Int) := by omega
    obtain ⟨l, hl⟩ : ∃ l, L k m = l := ⟨_, rfl⟩
    have hrl : rcvL L k m = updL L k m l.tail := by unfold rcvL; rw [hl]
    rw [hl] at hne hle
    have AP : ∀ w4, Below w.heap.size w w4 → ∃ gb go sc s6 a1 s1 w5, (if sc = 1 then (some ⟨gb, go, none⟩ : Option Addr) else some ⟨gb, go + 8, none⟩) = s6 ∧ (w4.cell? ⟨tb, 0, none⟩ = some (.int .i64 n) ∧ w4.cell? ⟨tb, 2, none⟩ = some (.slice (some ⟨pu, 0, none⟩) nn nn) ∧ w4.cell? ⟨pu, q, none⟩ = some (.slice (some ⟨gb, go, none⟩) l.length sc)) ∧
        (Builtin.append_ #[45, 45] 45 #[.slice (some ⟨w4.heap.size, 0, none⟩) 0 0, .slice s6 (l.length - 1) (sc - 1)]).run Try.prog (w4.alloc (.cells #[] 35)).drew = .ok (.slice a1 (l.length - 1) s1) w5 ∧
        (w5.cell? ⟨tb, 0, none⟩ = some (.int .i64 n) ∧ w5.cell? ⟨tb, 2, none⟩ = some (.slice (some ⟨pu, 0, none⟩) nn nn) ∧ w5.cell? ⟨pu, q, none⟩ = some (.slice (some ⟨gb, go, none⟩) l.length sc) ∧ w5.frozen? ⟨pu, q, none⟩ = false) ∧ Below w4.heap.size w4 w5 ∧
        ∃ F2, DN n room (updL L k m l.tail) tb pu (w5.setCell ⟨pu, q, none⟩ (.slice a1 (l.length - 1) s1)) F2 ∧ Stp2 F F2 w4 (w5.setCell ⟨pu, q, none⟩ (.slice a1 (l.length - 1) s1)) := fun w4 hw4 => by
      have hd := h.below hw4
      obtain ⟨sa, sc, k1, k2, k3⟩ := hd.ls q (by omega)
      have hcp := hd.cp q (by omega) sa sc k1
      rw [hlk, hl] at k1 k3 hcp
      obtain ⟨gb, go, rfl, _⟩ := k3.rd (by intro e; rw [e] at hne; simp at hne)
      have hs4 := hw4.size
      have b4 : Below w4.heap.size w4 (w4.alloc (.cells #[] 35)).drew := (al w4 _).drew
      have hrd4 := (RdG.keep k3 (Fr.of_below (S := fun _ => False) b4) (fun _ _ g => g)).rd
      obtain ⟨s6, hif⟩ : ∃ s6, (if sc = 1 then (some ⟨gb, go, none⟩ : Option Addr) else some ⟨gb, go + 8, none⟩) = s6 := ⟨_, rfl⟩
      have hrd6 : RdT (w4.alloc (.cells #[] 35)).drew s6 l.tail := by
        rw [← hif]
        by_cases e : sc = 1
        · rw [if_pos e]
          intro hn
          have : l.tail.length = 0 := by simp; omega
          exact absurd (List.eq_nil_of_length_eq_zero this) hn
        · rw [if_neg e]
          exact hrd4.tail
      obtain ⟨a1, s1, w5, r1, rw1, gr1, ow1⟩ := append_T (c := sc - 1) ((RwT.empty w4.heap.size w4 (Nat.le_refl _)).below ((Below.refl _ _).drew)) (by simp) hrd6 (by simp) (by simp; omega) 45 l.tail (by simp)
      have f5 : Below w4.heap.size w4 w5 := b4.grown gr1 (by simp) (fun k e => by simp [Value.ownBlock] at e; omega)
      have b5 : Below w.heap.size w w5 := Below.on hw4 f5
      have hd5 := h.below b5
      obtain ⟨sa', sc', j1, j2, j3⟩ := hd5.ls q (by omega)
      have j1' := (b5.cell (p := ⟨pu, q, none⟩) hpu)
      have k1' := (hw4.cell (p := ⟨pu, q, none⟩) hpu)
      rw [← k1', k1] at j1'
      have e9 : l.tail.length = l.length - 1 := by simp
      have hup := hd.upd (l := l.tail) (sa := a1) (sc := s1) (W := w5) (by omega) (by omega) hx2 (by rw [e9]; omega) f5 (by
        intro hne2
        rcases rw1.2 with ⟨g, hn0⟩ | ⟨gb2, cap, cur, ge, gb0, gh, _⟩
        · exact absurd (List.length_eq_zero_iff.1 hn0) hne2
        · obtain ⟨a3, c3, e3, hr3⟩ := RwT.rd rw1
          obtain ⟨bb, off, e4, hb4, hc4⟩ := hr3 hne2
          simp at e3
          simp at ge
          obtain ⟨e31, _⟩ := e3
          rw [ge.1] at e31
          rw [← e31] at e4
          simp at e4
          obtain ⟨rfl, rfl⟩ := e4
          exact ⟨gb2, 0, ge.1, gb0, hb4, hc4⟩) rfl rw1.cap
      rw [hqe, e9] at hup
      rw [e9] at r1
      exact ⟨gb, go, sc, s6, a1, s1, w5, hif, ⟨hd.c0, by rw [← hnn]; exact hd.c2, k1⟩, r1, ⟨hd5.c0, by rw [← hnn]; exact hd5.c2, j1', j2⟩, f5, _, hup⟩
    rw [hrl]
    have HAP : Hid _ := AP
    have HLT : Hid _ := h.lt
    have hl1' : (1 : Int) ≤ (l.length : Int) := by omega
    have hl16 : (l.length : Int) ≤ 16 := by omega
    clear AP h hx2 hl hlk hqe q1 q2 hnn hq hrl hy
    go_enter Try.func15, Try.ntmps15
    go_wp2_with (go_at_call 13; refine (Hid.out HF _ (al _ _)).mono ?_; rintro e w3 ⟨rfl, hb3⟩; have hb4 := Below.on hb3 (al w3 (.cells (ics x) 35)); have bz := (BoxT.zero w).below hb4; have by1 := BoxT.new w3 x; obtain ⟨gb, go, sc, s6, a1, s1, w5, hif, t4, r1, t5, f5, F2, hd6, hs6⟩ := HAP.out _ (Below.on (al w _) hb4); have hs4 := hb4.size; have hs3 := hb3.size; have hfin := recv_end (Below.on (al w _) hb4) hd6 hs6 (Hid.out HLT) (by simp at hs4 ⊢; omega) x; have hpw : pu < w.heap.size := hpu; have HZ : Hid _ := (bz.below f5).keep (S := fun k => k = pu) ((Fr.refl (fun k => k = pu) w5).setCell ⟨pu, q, none⟩ (.slice a1 (l.length - 1) s1) (.inl rfl)) (by omega); have HY : Hid _ := (by1.below f5).keep (S := fun k => k = pu) ((Fr.refl (fun k => k = pu) w5).setCell ⟨pu, q, none⟩ (.slice a1 (l.length - 1) s1) (.inl rfl)) (by simp at hs4; omega); have HR1 : Hid _ := r1; have HT4 : Hid _ := t4; have HT5 : Hid _ := t5; have HFIN : Hid _ := hfin; clear hb3 hb4 HF HAP r1 t4 t5 f5 hfin bz by1 hd6 hs6)
    simp only [World.size_alloc] at hs4 hs3
    obtain ⟨w4, hw4⟩ : ∃ w4, w4 = w3.alloc (.cells (ics x) 35) := ⟨_, rfl⟩
    have hs5 : w4.heap.size = w3.heap.size + 1 := by rw [hw4]; simp
    rw [← hw4] at HR1 HT4
    simp only [ics] at hw4
    rw [← hw4]
    simp only [hs5] at HR1
    obtain ⟨t0, t2, t1⟩ := HT4.out
    obtain ⟨v0, v2, v1, vf⟩ := HT5.out
    have hpu4 : pu < w4.heap.size := by omega
    have htb4 : tb < w4.heap.size := by omega
    have hw3 : ¬ w.heap.size = w3.heap.size := by omega
    have hw3' : ¬ w3.heap.size = w.heap.size := by omega
    clear hw4 HT4 HT5 hne hs5
    go_region_law (refine step_append_run rfl (.tmp 32) (.tmp 47) 45 rfl (by simp [Act.eval, Act.put]) (by simp [Act.eval, Act.put]) HR1.out ?_)
    all_goals (
      clear t0 t1 t2 v0 v1 v2 vf HR1
      obtain ⟨W6, hW6⟩ : ∃ W6, W6 = w5.setCell ⟨pu, q, none⟩ (.slice a1 (l.length - 1) s1) := ⟨_, rfl⟩
      rw [← hW6] at HZ HY HFIN
      rw [← hW6]
      clear hW6
      obtain ⟨c0, c1, c2, c3, c4, c5, c6, c7⟩ := HZ.out.cells
      obtain ⟨z0, z1, z2, z3, z4, z5, z6, z7⟩ := HZ.out.frozs
      obtain ⟨y0, y1, y2, y3, y4, y5, y6, y7⟩ := HY.out.cells
      have HX : Hid _ := HZ.out.set8 x
      clear HZ HY
      go_wp2
      obtain ⟨W9, hW⟩ : ∃ W9, W9 = se8 W6 w.heap.size x := ⟨_, rfl⟩
      rw [← hW] at HX HFIN
      simp only [se8] at hW
      rw [← hW]
      obtain ⟨j0, j1, j2, j3, j4, j5, j6, j7⟩ := HX.out.cells
      exact bodyPost_ret (v := .tuple #[iv x, .bool true]) (by simp [results, Try.results15, go_sem, j0, j1, j2, j3, j4, j5, j6, j7]) rfl ⟨rfl, HFIN.out⟩)
end Go.Proofs.Ytkngokpildoljaa
