/- Proved: contracts of the document's queue: Pop and Remove. -/
import Derived.Test.YtjkcdkoomipfkaaRef3
import Derived.Test.YtjkcdkoomipfkaaQueue3
namespace Go.Proofs.Ytjkcdkoomipfkaa
open Go.RowKit Go.Sort
set_option linter.unusedVariables false

theorem del_head {x : M} {r : List M} (h : Srt (x :: r)) : del (x :: r) x.1 = r := by
  have h1 := (List.pairwise_cons.1 h).1
  unfold del
  rw [List.filter_cons_of_neg (by simp), List.filter_eq_self]
  intro y hy
  simp only [ne_eq, decide_eq_true_eq]
  intro e
  have := h1 y hy
  rw [e, klt_irrefl] at this
  cases this

theorem six_cell {W : World} {B : Nat} (hz : ∀ j, j < 6 → ∃ u, W.cell? ⟨B, j, none⟩ = some u) (a1 a2 a3 a4 a5 a6 : Value) (o : Obj) (hB : B < W.heap.size) :
    ((six W B a1 a2 a3 a4 a5 a6).alloc o).cell? ⟨B, 0, none⟩ = some a1 ∧ ((six W B a1 a2 a3 a4 a5 a6).alloc o).cell? ⟨B, 1, none⟩ = some a2 ∧ ((six W B a1 a2 a3 a4 a5 a6).alloc o).cell? ⟨B, 2, none⟩ = some a3 ∧
    ((six W B a1 a2 a3 a4 a5 a6).alloc o).cell? ⟨B, 3, none⟩ = some a4 ∧ ((six W B a1 a2 a3 a4 a5 a6).alloc o).cell? ⟨B, 4, none⟩ = some a5 ∧ ((six W B a1 a2 a3 a4 a5 a6).alloc o).cell? ⟨B, 5, none⟩ = some a6 := by
  obtain ⟨u0, z0⟩ := hz 0 (by omega)
  obtain ⟨u1, z1⟩ := hz 1 (by omega)
  obtain ⟨u2, z2⟩ := hz 2 (by omega)
  obtain ⟨u3, z3⟩ := hz 3 (by omega)
  obtain ⟨u4, z4⟩ := hz 4 (by omega)
  obtain ⟨u5, z5⟩ := hz 5 (by omega)
  have hs : B < (six W B a1 a2 a3 a4 a5 a6).heap.size := by simpa using hB
  have al := fun j => World.cell?_alloc_lt (six W B a1 a2 a3 a4 a5 a6) o ⟨B, j, none⟩ hs
  simp only [al]
  refine ⟨?_, ?_, ?_, ?_, ?_, ?_⟩ <;> go_simp

set_option maxRecDepth 100000 in
set_option maxHeartbeats 1000000 in
theorem rpop_any {w : World} {G : Nat → Prop} {rb room : Nat} {s : List M} (h : IsR w G rb room s) :
    Calls Try.prog 16 #[.pointer (some ⟨rb, 0, none⟩)] w fun e w' => e = .returned (.tuple #[mv (s.headD zeroM), .bool (!s.isEmpty)]) ∧ ∃ G2, IsR w' G2 rb room s.tail ∧ Step G G2 w w' := by
  have mixed : Try.prog.follows .mixedOrders = true := by kernel_rfl
  have h00 := h
  obtain ⟨v, c0, c1, f1, ho, hs, hn, hr, hl, rfl⟩ := h
  have hrb := cell_lt c1
  have hb0 : Below w.heap.size w (w.alloc zobj) := (Below.refl _ _).alloc (Nat.le_refl _) _
  have FI := rfirst_any (h00.below hb0)
  have hlt := h00.lt
  have CF : ∀ W : World, Below w.heap.size w W → W.cell? ⟨rb, 0, none⟩ = some (.int .i64 room) ∧ W.cell? ⟨rb, 1, none⟩ = some v ∧ W.frozen? ⟨rb, 1, none⟩ = false ∧ Own W v s := fun W hW =>
    ⟨(hW.cell (p := ⟨rb, 0, none⟩) hrb).trans c0, (hW.cell (p := ⟨rb, 1, none⟩) hrb).trans c1, (hW.frozen (p := ⟨rb, 1, none⟩) hrb).trans f1, ho.keep (S := fun _ => False) (Fr.of_below hW) (fun _ _ g => g)⟩
  cases s with
  | nil =>
    have RA : Aside (∀ W : World, Below w.heap.size w W → ∀ b1 b2 b3 b4 b5 b6 o, IsR ((six W w.heap.size b1 b2 b3 b4 b5 b6).alloc o) (fun k => k = rb ∨ v.ownBlock = some k) rb room [] ∧ Step (fun k => k = rb ∨ v.ownBlock = some k) (fun k => k = rb ∨ v.ownBlock = some k) w ((six W w.heap.size b1 b2 b3 b4 b5 b6).alloc o)) := fun W hW b1 b2 b3 b4 b5 b6 o =>
      ⟨(h00.below hW).keep ((fr6 W w.heap.size b1 b2 b3 b4 b5 b6).alloc o) (fun k hk e => by have := hlt k hk; omega), (show Step _ _ w W from ⟨Fr.of_below hW, fun k hk => .inl hk⟩).out (Nat.le_refl _) ((fr6 W w.heap.size b1 b2 b3 b4 b5 b6).alloc o)⟩
    dsimp only [List.headD, List.isEmpty, mv, Bool.not_true] at FI
    clear h00 ho hs CF
    go_enter Try.func16, Try.ntmps16
    go_wp2_with fail
    refine FI.mono ?_
    rintro e w1 ⟨rfl, hb1⟩
    have hb1' : Below w.heap.size w w1 := hb0.trans (hb1.mono (by simp))
    have zc : ∀ j, j < 6 → w1.cell? ⟨w.heap.size, j, none⟩ = some (.int .i64 0) := fun j hj => (hb1.cell (p := ⟨w.heap.size, j, none⟩) (by simp)).trans (zcell w j hj)
    have zf : ∀ j, w1.frozen? ⟨w.heap.size, j, none⟩ = false := fun j => (hb1.frozen (p := ⟨w.heap.size, j, none⟩) (by simp)).trans (zfrozen w j)
    have z0 := zc 0 (by omega)
    have z1 := zc 1 (by omega)
    have z2 := zc 2 (by omega)
    have z3 := zc 3 (by omega)
    have z4 := zc 4 (by omega)
    have z5 := zc 5 (by omega)
    have hz1 : w.heap.size < w1.heap.size := by have := hb1.size; simp at this; omega
    have SC : Aside _ := fun a1 a2 a3 a4 a5 a6 o => six_cell (W := w1) (B := w.heap.size) (fun j hj => ⟨_, zc j hj⟩) a1 a2 a3 a4 a5 a6 o hz1
    clear zc FI
    go_wp2_with fail
    obtain ⟨q0, q1, q2, q3, q4, q5⟩ := SC.out (.int .i64 0) (.int .i64 0) (.int .i64 0) (.int .i64 0) (.int .i64 0) (.int .i64 0) zobj
    exact bodyPost_ret (v := .tuple #[mv zeroM, .bool false]) (by simp [results, Try.results16, go_sem, q0, q1, q2, q3, q4, q5]) rfl ⟨rfl, _, RA.out _ hb1' _ _ _ _ _ _ _⟩
  | cons x r =>
    have hdh := del_head hs
    have WA : Aside (∀ W : World, Below w.heap.size w W → w.heap.size < W.heap.size → Calls Try.prog 41 #[v, .agg #[.int .i64 x.1.1, .int .i64 x.1.2.1, .int .i64 x.1.2.2]] W fun e w' => ∃ a' cap', e = .returned (.slice a' r.length cap') ∧ (w'.cell? ⟨rb, 1, none⟩ = some v ∧ w'.frozen? ⟨rb, 1, none⟩ = false) ∧ Below W.heap.size W w' ∧
        (∃ G2, ∀ b1 b2 b3 b4 b5 b6, IsR (six (w'.setCell ⟨rb, 1, none⟩ (.slice a' r.length cap')) w.heap.size b1 b2 b3 b4 b5 b6) G2 rb room r ∧ Step (fun k => k = rb ∨ v.ownBlock = some k) G2 w (six (w'.setCell ⟨rb, 1, none⟩ (.slice a' r.length cap')) w.heap.size b1 b2 b3 b4 b5 b6))) := fun W hW hWs => by
      refine (without_any (CF W hW).2.2.2 (by omega) x.1.1 x.1.2.1 x.1.2.2).mono ?_
      rintro e w' ⟨v', rfl, ho', hblk', hb'⟩
      have ho'' : Own w' v' r := by rw [← hdh]; exact ho'
      obtain ⟨a', cap', rfl, _⟩ := ho''.rd
      have hbb : Below w.heap.size w w' := hW.trans (hb'.mono hW.size)
      obtain ⟨d0, d1, d2, _⟩ := CF w' hbb
      obtain ⟨R1, R2⟩ := IsR.put hbb hrb d0 d1 d2 ho'' (fun k hk => Nat.le_trans hW.size (hblk' k hk)) (List.pairwise_cons.1 hs).2 hr (by simp at hl; omega)
      refine ⟨a', cap', rfl, ⟨d1, d2⟩, hb', _, fun b1 b2 b3 b4 b5 b6 => ⟨R1.keep (fr6 _ w.heap.size b1 b2 b3 b4 b5 b6) ?_, R2.out (Nat.le_refl _) (fr6 _ w.heap.size b1 b2 b3 b4 b5 b6)⟩⟩
      rintro k (rfl | hk) e
      · omega
      · have := hblk' k hk; omega
    obtain ⟨a, cap, rfl, _⟩ := ho.rd
    dsimp only [List.headD, List.isEmpty, mv, Bool.not_false] at FI
    clear h00 ho hs hdh
    obtain ⟨⟨a1, a2, a3⟩, a4, a5, a6⟩ := x
    dsimp only at FI WA
    go_enter Try.func16, Try.ntmps16
    go_wp2_with fail
    refine FI.mono ?_
    rintro e w1 ⟨rfl, hb1⟩
    have hb1' : Below w.heap.size w w1 := hb0.trans (hb1.mono (by simp))
    have zc : ∀ j, j < 6 → w1.cell? ⟨w.heap.size, j, none⟩ = some (.int .i64 0) := fun j hj => (hb1.cell (p := ⟨w.heap.size, j, none⟩) (by simp)).trans (zcell w j hj)
    have zf : ∀ j, w1.frozen? ⟨w.heap.size, j, none⟩ = false := fun j => (hb1.frozen (p := ⟨w.heap.size, j, none⟩) (by simp)).trans (zfrozen w j)
    have hz1 : w.heap.size < w1.heap.size := by have := hb1.size; simp at this; omega
    clear FI
    go_wp2_with fail
    generalize hwq : World.alloc w1 _ = wq
    have hbq1 : Below w1.heap.size w1 wq := by rw [← hwq]; exact (Below.refl _ _).alloc (Nat.le_refl _) _
    have hbq : Below w.heap.size w wq := hb1'.trans (hbq1.mono (by omega))
    have hqs : w1.heap.size < wq.heap.size := by rw [← hwq]; simp
    have mc : ∀ j, j < 6 → wq.cell? ⟨w1.heap.size, j, none⟩ = (enc ((a1, a2, a3), a4, a5, a6))[j]? := fun j hj => by
      rw [← hwq]
      simp only [World.cell?, heap_alloc_new]
      simp [enc]
    have y0 : wq.cell? ⟨w1.heap.size, 0, none⟩ = some (.int .i64 a1) := mc 0 (by omega)
    have y1 : wq.cell? ⟨w1.heap.size, 1, none⟩ = some (.int .i64 a2) := mc 1 (by omega)
    have y2 : wq.cell? ⟨w1.heap.size, 2, none⟩ = some (.int .i64 a3) := mc 2 (by omega)
    obtain ⟨e0, e1, e2, _⟩ := CF wq hbq
    have HH := WA.out wq.drew hbq.drew (show w.heap.size < wq.heap.size by omega)
    have hsd : wq.drew.heap.size = wq.heap.size := rfl
    have zq : ∀ W : World, Below wq.drew.heap.size wq.drew W → (∀ j, j < 6 → W.cell? ⟨w.heap.size, j, none⟩ = some (.int .i64 0)) ∧ (∀ j, W.frozen? ⟨w.heap.size, j, none⟩ = false) ∧ (∀ j, j < 6 → W.cell? ⟨w1.heap.size, j, none⟩ = (enc ((a1, a2, a3), a4, a5, a6))[j]?) := fun W hW =>
      ⟨fun j hj => (hW.cell (p := ⟨w.heap.size, j, none⟩) (by rw [hsd]; show w.heap.size < wq.heap.size; omega)).trans ((hbq1.cell (p := ⟨w.heap.size, j, none⟩) hz1).trans (zc j hj)), fun j => (hW.frozen (p := ⟨w.heap.size, j, none⟩) (by rw [hsd]; show w.heap.size < wq.heap.size; omega)).trans ((hbq1.frozen (p := ⟨w.heap.size, j, none⟩) hz1).trans (zf j)), fun j hj => (hW.cell (p := ⟨w1.heap.size, j, none⟩) (by rw [hsd]; exact hqs)).trans (mc j hj)⟩
    have ZQ : Aside _ := zq
    have hne1 : rb ≠ w.heap.size := by omega
    have hne2 : rb ≠ w1.heap.size := by omega
    clear hwq zc zf CF mc zq
    go_region_with (go_at_call 41; refine HH.mono ?_; rintro e w' ⟨a', cap', rfl, ⟨f1, f2⟩, hbw, hR⟩)
    all_goals
      obtain ⟨zc, zf, mc⟩ := ZQ.out _ hbw
      have z0 := zc 0 (by omega)
      have z1 := zc 1 (by omega)
      have z2 := zc 2 (by omega)
      have z3 := zc 3 (by omega)
      have z4 := zc 4 (by omega)
      have z5 := zc 5 (by omega)
      have m0 : w'.cell? ⟨w1.heap.size, 0, none⟩ = some (.int .i64 a1) := mc 0 (by omega)
      have m1 : w'.cell? ⟨w1.heap.size, 1, none⟩ = some (.int .i64 a2) := mc 1 (by omega)
      have m2 : w'.cell? ⟨w1.heap.size, 2, none⟩ = some (.int .i64 a3) := mc 2 (by omega)
      have m3 : w'.cell? ⟨w1.heap.size, 3, none⟩ = some (.int .i64 a4) := mc 3 (by omega)
      have m4 : w'.cell? ⟨w1.heap.size, 4, none⟩ = some (.int .i64 a5) := mc 4 (by omega)
      have m5 : w'.cell? ⟨w1.heap.size, 5, none⟩ = some (.int .i64 a6) := mc 5 (by omega)
      obtain ⟨G2, hR⟩ := hR
      have RA : Aside _ := hR
      clear zc mc hR hbw y0 y1 y2 e0 e1 e2
      go_wp2_with fail
      exact bodyPost_ret (v := .tuple #[mv ((a1, a2, a3), a4, a5, a6), .bool true]) (by simp [results, Try.results16, go_sem, z0, z1, z2, z3, z4, z5]) rfl ⟨rfl, _, RA.out _ _ _ _ _ _⟩

set_option maxRecDepth 100000 in
set_option maxHeartbeats 1000000 in
theorem rremove_any {w : World} {G : Nat → Prop} {rb room : Nat} {s : List M} (h : IsR w G rb room s) (k1 k2 k3 : Int) :
    Calls Try.prog 18 #[.pointer (some ⟨rb, 0, none⟩), .agg #[.int .i64 k1, .int .i64 k2, .int .i64 k3]] w fun e w' => e = .returned (.tuple #[mv (fnd s (k1, k2, k3)), .bool (hasK s (k1, k2, k3))]) ∧ ∃ G2, IsR w' G2 rb room (del s (k1, k2, k3)) ∧ Step G G2 w w' := by
  have mixed : Try.prog.follows .mixedOrders = true := by kernel_rfl
  have h00 := h
  obtain ⟨v, c0, c1, f1, ho, hs, hn, hr, hl, rfl⟩ := h
  have hrb := cell_lt c1
  have hlt := h00.lt
  obtain ⟨W00, hW00⟩ : ∃ W00, W00 = w.alloc (.cells #[.int .i64 k1, .int .i64 k2, .int .i64 k3] 30) := ⟨_, rfl⟩
  obtain ⟨W0, hW0⟩ : ∃ W0, W0 = W00.alloc zobj := ⟨_, rfl⟩
  have s00 : W00.heap.size = w.heap.size + 1 := by rw [hW00]; simp
  have s0 : W0.heap.size = w.heap.size + 2 := by rw [hW0]; simp [s00]
  have hb00 : Below w.heap.size w W00 := by rw [hW00]; exact (Below.refl _ _).alloc (Nat.le_refl _) _
  have hb0 : Below w.heap.size w W0 := by rw [hW0]; exact hb00.alloc hb00.size _
  have CF : ∀ W : World, Below w.heap.size w W → W.cell? ⟨rb, 0, none⟩ = some (.int .i64 room) ∧ W.cell? ⟨rb, 1, none⟩ = some v ∧ W.frozen? ⟨rb, 1, none⟩ = false ∧ Own W v s := fun W hW =>
    ⟨(hW.cell (p := ⟨rb, 0, none⟩) hrb).trans c0, (hW.cell (p := ⟨rb, 1, none⟩) hrb).trans c1, (hW.frozen (p := ⟨rb, 1, none⟩) hrb).trans f1, ho.keep (S := fun _ => False) (Fr.of_below hW) (fun _ _ g => g)⟩
  have xc : ∀ j, j < 3 → W0.cell? ⟨w.heap.size, j, none⟩ = [Value.int .i64 k1, .int .i64 k2, .int .i64 k3][j]? := fun j hj => by
    rw [hW0, World.cell?_alloc_lt _ _ _ (by simp [s00]), hW00]
    simp only [World.cell?, heap_alloc_new]
    simp
  have KF : ∀ W : World, Below W0.heap.size W0 W → W.cell? ⟨w.heap.size, 0, none⟩ = some (.int .i64 k1) ∧ W.cell? ⟨w.heap.size, 1, none⟩ = some (.int .i64 k2) ∧ W.cell? ⟨w.heap.size, 2, none⟩ = some (.int .i64 k3) := fun W hW => by
    have c := fun j (hj : j < 3) => (hW.cell (p := ⟨w.heap.size, j, none⟩) (by rw [s0]; show w.heap.size < w.heap.size + 2; omega)).trans (xc j hj)
    exact ⟨c 0 (by omega), c 1 (by omega), c 2 (by omega)⟩
  obtain ⟨x0, x1, x2⟩ := KF W0 (Below.refl _ _)
  have ZF : ∀ W : World, Below W0.heap.size W0 W → (∀ j, j < 6 → W.cell? ⟨w.heap.size + 1, j, none⟩ = some (.int .i64 0)) ∧ (∀ j, W.frozen? ⟨w.heap.size + 1, j, none⟩ = false) := fun W hW => by
    have hlt1 : w.heap.size + 1 < W0.heap.size := by omega
    exact ⟨fun j hj => (hW.cell (p := ⟨w.heap.size + 1, j, none⟩) hlt1).trans (by rw [hW0, ← s00]; exact zcell W00 j hj), fun j => (hW.frozen (p := ⟨w.heap.size + 1, j, none⟩) hlt1).trans (by rw [hW0, ← s00]; exact zfrozen W00 j)⟩
  have HW : Hid (W0 = (w.alloc (.cells #[.int .i64 k1, .int .i64 k2, .int .i64 k3] 30)).alloc zobj) := by rw [hW0, hW00]; rfl
  have FI := find_any (CF W0 hb0).2.1 (CF W0 hb0).2.2.2 (by omega) k1 k2 k3
  have ZA : Aside _ := ZF
  clear hW0 hW00 xc ZF
  cases hkk : hasK s (k1, k2, k3)
  · rw [fnd_none hkk, del_none hkk]
    have RA : Aside (∀ W : World, Below w.heap.size w W → ∀ b1 b2 b3 b4 b5 b6, IsR (six W (w.heap.size + 1) b1 b2 b3 b4 b5 b6) (fun k => k = rb ∨ v.ownBlock = some k) rb room s ∧ Step (fun k => k = rb ∨ v.ownBlock = some k) (fun k => k = rb ∨ v.ownBlock = some k) w (six W (w.heap.size + 1) b1 b2 b3 b4 b5 b6)) := fun W hW b1 b2 b3 b4 b5 b6 =>
      ⟨(h00.below hW).keep (fr6 W (w.heap.size + 1) b1 b2 b3 b4 b5 b6) (fun k hk e => by have := hlt k hk; omega), (show Step _ _ w W from ⟨Fr.of_below hW, fun k hk => .inl hk⟩).out (by omega) (fr6 W (w.heap.size + 1) b1 b2 b3 b4 b5 b6)⟩
    clear h00 ho hs CF KF
    go_enter Try.func18, Try.ntmps18
    go_wp2_with fail
    rw [← HW.out]
    go_wp2_with fail
    refine FI.mono ?_
    rintro e w1 ⟨r, rfl, _, hr1, hb1⟩
    have hr1' := hr1 hkk
    subst hr1'
    have hb1' : Below w.heap.size w w1 := hb0.trans (hb1.mono (by omega))
    obtain ⟨zc, zf⟩ := ZA.out w1 hb1
    have z0 := zc 0 (by omega)
    have z1 := zc 1 (by omega)
    have z2 := zc 2 (by omega)
    have z3 := zc 3 (by omega)
    have z4 := zc 4 (by omega)
    have z5 := zc 5 (by omega)
    clear zc FI hr1 hkk x0 x1 x2
    go_wp2_with fail
    exact bodyPost_ret (v := .tuple #[mv zeroM, .bool false]) (by simp [results, Try.results18, go_sem, z0, z1, z2, z3, z4, z5]) rfl ⟨rfl, _, RA.out _ hb1' _ _ _ _ _ _⟩
  · have hdl := del_len s (k1, k2, k3)
    have hds := hs.del (k1, k2, k3)
    have fe : ∀ i, i < s.length → (nth s i).1 = (k1, k2, k3) → fnd s (k1, k2, k3) = nth s i := fun i hi e => by rw [← e]; exact fnd_of hs.nodup (by rw [nth_get s i hi]; exact List.getElem_mem hi)
    have WA : Aside (∀ W : World, Below w.heap.size w W → w.heap.size + 1 < W.heap.size → Calls Try.prog 41 #[v, .agg #[.int .i64 k1, .int .i64 k2, .int .i64 k3]] W fun e w' => ∃ a' n' cap', e = .returned (.slice a' n' cap') ∧ (w'.cell? ⟨rb, 1, none⟩ = some v ∧ w'.frozen? ⟨rb, 1, none⟩ = false) ∧ Below W.heap.size W w' ∧
        (∃ G2, ∀ b1 b2 b3 b4 b5 b6, IsR (six (w'.setCell ⟨rb, 1, none⟩ (.slice a' n' cap')) (w.heap.size + 1) b1 b2 b3 b4 b5 b6) G2 rb room (del s (k1, k2, k3)) ∧ Step (fun k => k = rb ∨ v.ownBlock = some k) G2 w (six (w'.setCell ⟨rb, 1, none⟩ (.slice a' n' cap')) (w.heap.size + 1) b1 b2 b3 b4 b5 b6))) := fun W hW hWs => by
      refine (without_any (CF W hW).2.2.2 (by omega) k1 k2 k3).mono ?_
      rintro e w' ⟨v', rfl, ho'', hblk', hb'⟩
      obtain ⟨a', cap', rfl, _⟩ := ho''.rd
      have hbb : Below w.heap.size w w' := hW.trans (hb'.mono hW.size)
      obtain ⟨d0, d1, d2, _⟩ := CF w' hbb
      obtain ⟨R1, R2⟩ := IsR.put hbb hrb d0 d1 d2 ho'' (fun k hk => Nat.le_trans hW.size (hblk' k hk)) hds hr (by omega)
      refine ⟨a', _, cap', rfl, ⟨d1, d2⟩, hb', _, fun b1 b2 b3 b4 b5 b6 => ⟨R1.keep (fr6 _ (w.heap.size + 1) b1 b2 b3 b4 b5 b6) ?_, R2.out (by omega) (fr6 _ (w.heap.size + 1) b1 b2 b3 b4 b5 b6)⟩⟩
      rintro k (rfl | hk) e
      · omega
      · have := hblk' k hk; omega
    have hown := ho
    obtain ⟨a, cap, rfl, _⟩ := ho.rd
    obtain ⟨x, hxf⟩ : ∃ x, fnd s (k1, k2, k3) = x := ⟨_, rfl⟩
    rw [hxf]
    have XA : Aside (∀ i, i < s.length → (nth s i).1 = (k1, k2, k3) → ∀ W : World, Below w.heap.size w W → ∃ g, a = some ⟨g, 0, none⟩ ∧ (W.cell? ⟨g, i * 6, none⟩ = some (.int .i64 x.1.1) ∧ W.cell? ⟨g, i * 6 + 1, none⟩ = some (.int .i64 x.1.2.1) ∧ W.cell? ⟨g, i * 6 + 2, none⟩ = some (.int .i64 x.1.2.2) ∧
        W.cell? ⟨g, i * 6 + 3, none⟩ = some (.int .i64 x.2.1) ∧ W.cell? ⟨g, i * 6 + 4, none⟩ = some (.int .i64 x.2.2.1) ∧ W.cell? ⟨g, i * 6 + 5, none⟩ = some (.int .i64 x.2.2.2))) := fun i hi e W hW => by
      have hoW := (CF W hW).2.2.2
      obtain ⟨g, cap', hv, hg⟩ := own_nonempty hoW hi
      obtain ⟨rfl, rfl⟩ : a = some ⟨g, 0, none⟩ ∧ cap = cap' := by simpa using hv
      exact ⟨g, rfl, own_cell hoW hi (by rw [← nth_get, ← fe i hi e]; exact hxf)⟩
    clear h00 ho hs hown hds fe hxf
    obtain ⟨⟨a1, a2, a3⟩, a4, a5, a6⟩ := x
    dsimp only at XA
    go_enter Try.func18, Try.ntmps18
    go_wp2_with fail
    rw [← HW.out]
    go_wp2_with fail
    refine FI.mono ?_
    rintro e w1 ⟨r, rfl, hr1, _, hb1⟩
    obtain ⟨i, hi, hr1', hik⟩ := hr1 hkk
    subst hr1'
    have hb1' : Below w.heap.size w w1 := hb0.trans (hb1.mono (by omega))
    obtain ⟨g, hga, y0, y1, y2, y3, y4, y5⟩ := XA.out i hi hik w1 hb1'
    subst hga
    obtain ⟨d0, d1, d2, _⟩ := CF w1 hb1'
    have hi' : (i : Int) < (s.length : Int) := by omega
    clear FI hr1 hkk x0 x1 x2 XA hik
    go_wp2_with fail
    generalize hwq : World.alloc w1 _ = wq
    have hbq1 : Below w1.heap.size w1 wq := by rw [← hwq]; exact (Below.refl _ _).alloc (Nat.le_refl _) _
    have h1s := hb1.size
    have hbq : Below w.heap.size w wq := hb1'.trans (hbq1.mono (by omega))
    have hbq0 : Below W0.heap.size W0 wq := hb1.trans (hbq1.mono h1s)
    have hqs : w1.heap.size < wq.heap.size := by rw [← hwq]; simp
    have mc : ∀ j, j < 6 → wq.cell? ⟨w1.heap.size, j, none⟩ = (enc ((a1, a2, a3), a4, a5, a6))[j]? := fun j hj => by
      rw [← hwq]
      simp only [World.cell?, heap_alloc_new]
      simp [enc]
    obtain ⟨x0, x1, x2⟩ := KF wq hbq0
    obtain ⟨e0, e1, e2, _⟩ := CF wq hbq
    have HH := WA.out wq.drew hbq.drew (show w.heap.size + 1 < wq.heap.size by omega)
    have hsd : wq.drew.heap.size = wq.heap.size := rfl
    have zq : ∀ W : World, Below wq.drew.heap.size wq.drew W → (∀ j, j < 6 → W.cell? ⟨w.heap.size + 1, j, none⟩ = some (.int .i64 0)) ∧ (∀ j, W.frozen? ⟨w.heap.size + 1, j, none⟩ = false) ∧ (∀ j, j < 6 → W.cell? ⟨w1.heap.size, j, none⟩ = (enc ((a1, a2, a3), a4, a5, a6))[j]?) := fun W hW => by
      have hWW : Below W0.heap.size W0 W := hbq0.drew.trans (hW.mono (by rw [hsd]; omega))
      exact ⟨(ZA.out W hWW).1, (ZA.out W hWW).2, fun j hj => (hW.cell (p := ⟨w1.heap.size, j, none⟩) (by rw [hsd]; exact hqs)).trans (mc j hj)⟩
    have ZQ : Aside _ := zq
    have hne1 : rb ≠ w.heap.size + 1 := by omega
    have hne2 : rb ≠ w1.heap.size := by omega
    have hne3 : w1.heap.size ≠ w.heap.size + 1 := by omega
    clear hwq CF mc zq KF ZA y0 y1 y2 y3 y4 y5 d0 d1 d2
    go_region_with (go_at_call 41; refine HH.mono ?_; rintro e w' ⟨a', n', cap', rfl, ⟨f1, f2⟩, hbw, hR⟩)
    all_goals
      obtain ⟨zc, zf, mc⟩ := ZQ.out _ hbw
      have z0 := zc 0 (by omega)
      have z1 := zc 1 (by omega)
      have z2 := zc 2 (by omega)
      have z3 := zc 3 (by omega)
      have z4 := zc 4 (by omega)
      have z5 := zc 5 (by omega)
      have m0 : w'.cell? ⟨w1.heap.size, 0, none⟩ = some (.int .i64 a1) := mc 0 (by omega)
      have m1 : w'.cell? ⟨w1.heap.size, 1, none⟩ = some (.int .i64 a2) := mc 1 (by omega)
      have m2 : w'.cell? ⟨w1.heap.size, 2, none⟩ = some (.int .i64 a3) := mc 2 (by omega)
      have m3 : w'.cell? ⟨w1.heap.size, 3, none⟩ = some (.int .i64 a4) := mc 3 (by omega)
      have m4 : w'.cell? ⟨w1.heap.size, 4, none⟩ = some (.int .i64 a5) := mc 4 (by omega)
      have m5 : w'.cell? ⟨w1.heap.size, 5, none⟩ = some (.int .i64 a6) := mc 5 (by omega)
      obtain ⟨G2, hR⟩ := hR
      have RA : Aside _ := hR
      clear zc mc hR hbw x0 x1 x2 e0 e1 e2
      go_wp2_with fail
      exact bodyPost_ret (v := .tuple #[mv ((a1, a2, a3), a4, a5, a6), .bool true]) (by simp [results, Try.results18, go_sem, z0, z1, z2, z3, z4, z5]) rfl ⟨rfl, _, RA.out _ _ _ _ _ _⟩
end Go.Proofs.Ytjkcdkoomipfkaa
