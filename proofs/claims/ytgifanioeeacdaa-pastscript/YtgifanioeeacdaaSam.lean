/- Proved: contracts of what compares entries: sameEntry and same, where they are the same. -/
import Derived.Test.YtgifanioeeacdaaDc0
import Derived.BigQuiet
import Derived.Deep.QuietTactic
namespace Go.Proofs.Ytgifanioeeacdaa
open Go.RowKit Go.Shelf Go.Sort
set_option linter.unusedVariables false

/-- The cells of a message of a slice. -/
theorem RdN.msg {N : Nat → Prop} {W : World} {a : Option Addr} {l : List M} (h : RdN cM N W a l) {i : Nat} (hi : i < l.length) {x : M} (hx : nth cM l i = x) :
    ∃ b off, a = some ⟨b, off, none⟩ ∧ b < W.heap.size ∧ W.cell? ⟨b, off + i * 6, none⟩ = some (.int .i64 x.1.1) ∧ W.cell? ⟨b, off + i * 6 + 1, none⟩ = some (.int .i64 x.1.2.1) ∧ W.cell? ⟨b, off + i * 6 + 2, none⟩ = some (.int .i64 x.1.2.2) ∧ W.cell? ⟨b, off + i * 6 + 3, none⟩ = some (.int .i64 x.2.1) ∧ W.cell? ⟨b, off + i * 6 + 4, none⟩ = some (.int .i64 x.2.2.1) ∧ W.cell? ⟨b, off + i * 6 + 5, none⟩ = some (.int .i64 x.2.2.2) := by
  obtain ⟨b, off, rfl, hB, hb, hc⟩ := h (by intro e; simp [e] at hi)
  subst hx
  have g := hc i hi
  exact ⟨b, off, rfl, hB, g 0 (by decide), g 1 (by decide), g 2 (by decide), g 3 (by decide), g 4 (by decide), g 5 (by decide)⟩
set_option maxRecDepth 100000 in
set_option maxHeartbeats 4000000 in
theorem same_entry {N N' : Nat → Prop} {w : World} {x z : E} (hx : Out N w x) (hz : Out N' w z) (he : x.p = z.p) :
    Calls Try.prog 22 #[ev x, ev z] w fun e w' => e = .returned (.bool true) ∧ Below w.heap.size w w' := by
  have mixed : Try.prog.follows .mixedOrders = true := by kernel_rfl
  obtain ⟨⟨⟨⟨y1, y2, y3⟩, y4, y5, y6⟩, y7, y8, y9, yos⟩, xa, xc⟩ := x
  obtain ⟨zp, za, zc⟩ := z
  dsimp only at he
  subst he
  obtain ⟨m, hm⟩ : ∃ m, yos.length = m := ⟨_, rfl⟩
  have hm20 : m ≤ 20 := by rw [← hm]; exact hx.2
  obtain ⟨w2, hw2⟩ : ∃ w2, w2 = (w.alloc (.cells #[.int .i64 y1, .int .i64 y2, .int .i64 y3, .int .i64 y4, .int .i64 y5, .int .i64 y6, .int .i64 y7, .int .i64 y8, .int .i64 y9, .slice xa m xc] 34)).alloc (.cells #[.int .i64 y1, .int .i64 y2, .int .i64 y3, .int .i64 y4, .int .i64 y5, .int .i64 y6, .int .i64 y7, .int .i64 y8, .int .i64 y9, .slice za m zc] 40) := ⟨_, rfl⟩
  obtain ⟨B, hB⟩ : ∃ B, w.heap.size = B := ⟨_, rfl⟩
  have hb2 : Below w.heap.size w w2 := by rw [hw2]; exact Below.on (al _ _) (al _ _)
  have B0 : w2.heap[B]? = some (.cells #[.int .i64 y1, .int .i64 y2, .int .i64 y3, .int .i64 y4, .int .i64 y5, .int .i64 y6, .int .i64 y7, .int .i64 y8, .int .i64 y9, .slice xa m xc] 34) := by rw [hw2, ← hB, (al _ _).block _ (by simp)]; exact newB _ _
  have B1 : w2.heap[B + 1]? = some (.cells #[.int .i64 y1, .int .i64 y2, .int .i64 y3, .int .i64 y4, .int .i64 y5, .int .i64 y6, .int .i64 y7, .int .i64 y8, .int .i64 y9, .slice za m zc] 40) := by rw [hw2, ← hB]; have h1 := newB (w.alloc (.cells #[.int .i64 y1, .int .i64 y2, .int .i64 y3, .int .i64 y4, .int .i64 y5, .int .i64 y6, .int .i64 y7, .int .i64 y8, .int .i64 y9, .slice xa m xc] 34)) (.cells #[.int .i64 y1, .int .i64 y2, .int .i64 y3, .int .i64 y4, .int .i64 y5, .int .i64 y6, .int .i64 y7, .int .i64 y8, .int .i64 y9, .slice za m zc] 40); simpa using h1
  have HRD : Hid (∀ W, Below w2.heap.size w2 W → (W.cell? ⟨B, 0, none⟩ = some (.int .i64 y1) ∧ W.cell? ⟨B, 1, none⟩ = some (.int .i64 y2) ∧ W.cell? ⟨B, 2, none⟩ = some (.int .i64 y3) ∧ W.cell? ⟨B, 3, none⟩ = some (.int .i64 y4) ∧ W.cell? ⟨B, 4, none⟩ = some (.int .i64 y5) ∧ W.cell? ⟨B, 5, none⟩ = some (.int .i64 y6) ∧ W.cell? ⟨B, 6, none⟩ = some (.int .i64 y7) ∧ W.cell? ⟨B, 7, none⟩ = some (.int .i64 y8) ∧ W.cell? ⟨B, 8, none⟩ = some (.int .i64 y9) ∧ W.cell? ⟨B, 9, none⟩ = some (.slice xa m xc)) ∧ (W.cell? ⟨B + 1, 0, none⟩ = some (.int .i64 y1) ∧ W.cell? ⟨B + 1, 1, none⟩ = some (.int .i64 y2) ∧ W.cell? ⟨B + 1, 2, none⟩ = some (.int .i64 y3) ∧ W.cell? ⟨B + 1, 3, none⟩ = some (.int .i64 y4) ∧ W.cell? ⟨B + 1, 4, none⟩ = some (.int .i64 y5) ∧ W.cell? ⟨B + 1, 5, none⟩ = some (.int .i64 y6) ∧ W.cell? ⟨B + 1, 6, none⟩ = some (.int .i64 y7) ∧ W.cell? ⟨B + 1, 7, none⟩ = some (.int .i64 y8) ∧ W.cell? ⟨B + 1, 8, none⟩ = some (.int .i64 y9) ∧ W.cell? ⟨B + 1, 9, none⟩ = some (.slice za m zc)) ∧ RdN cM N W xa yos ∧ RdN cM N' W za yos) := fun W hW => by
    have b0 := (hW.block B (Array.getElem?_eq_some_iff.1 B0).1).trans B0
    have b1 := (hW.block (B + 1) (Array.getElem?_eq_some_iff.1 B1).1).trans B1
    exact ⟨⟨cellB b0 0, cellB b0 1, cellB b0 2, cellB b0 3, cellB b0 4, cellB b0 5, cellB b0 6, cellB b0 7, cellB b0 8, cellB b0 9⟩, ⟨cellB b1 0, cellB b1 1, cellB b1 2, cellB b1 3, cellB b1 4, cellB b1 5, cellB b1 6, cellB b1 7, cellB b1 8, cellB b1 9⟩, hx.1.below (Below.on hb2 hW), hz.1.below (Below.on hb2 hW)⟩
  have HW : Hid (w2 = (w.alloc (.cells #[.int .i64 y1, .int .i64 y2, .int .i64 y3, .int .i64 y4, .int .i64 y5, .int .i64 y6, .int .i64 y7, .int .i64 y8, .int .i64 y9, .slice xa m xc] 34)).alloc (.cells #[.int .i64 y1, .int .i64 y2, .int .i64 y3, .int .i64 y4, .int .i64 y5, .int .i64 y6, .int .i64 y7, .int .i64 y8, .int .i64 y9, .slice za m zc] 40)) := hw2
  have HBB : Hid (w.heap.size = B) := hB
  have HB2 : Hid (Below w.heap.size w w2) := hb2
  have HM : Hid (yos.length = m) := hm
  have e1 : (y7 != y7) = false := by simp
  have e2 : (y8 != y8) = false := by simp
  have e3 : (y9 != y9) = false := by simp
  have e4 : ((m : Int) != (m : Int)) = false := by simp
  dsimp only [ev]
  rw [hm]
  clear hw2 hB hb2 B0 B1 hx hz hm
  go_enter Try.func22, Try.ntmps22
  go_wp2_with fail
  rw [← HW.out]
  try simp only [HBB.out]
  go_loopw [5] (fun s5 wr => ∃ i : Nat, s5 = .int .i64 i ∧ i ≤ m ∧ Hid (Below w2.heap.size w2 wr)) (fun s5 _ => m - (intOf s5).toNat)
  case atStart => exact ⟨0, rfl, Nat.zero_le _, Below.refl _ _⟩
  case round =>
    obtain ⟨i, rfl, hi, HB⟩ := hrel
    obtain ⟨⟨_, _, _, _, _, _, _, _, _, p9⟩, ⟨_, _, _, _, _, _, _, _, _, q9⟩, h1, h2⟩ := HRD.out wr HB.out
    by_cases hlt : i < m
    · have hlt' : (i : Int) < (m : Int) := by omega
      have hil : i < yos.length := by rw [HM.out]; exact hlt
      obtain ⟨⟨⟨a1, a2, a3⟩, a4, a5, a6⟩, hx⟩ : ∃ x, nth cM yos i = x := ⟨_, rfl⟩
      obtain ⟨b1, o1, rfl, l1, u0, u1, u2, u3, u4, u5⟩ := h1.msg hil hx
      obtain ⟨b2, o2, rfl, l2, v0, v1, v2, v3, v4, v5⟩ := h2.msg hil hx
      dsimp only at u0 u1 u2 u3 u4 u5 v0 v1 v2 v3 v4 v5
      clear hx h1 h2 hil
      go_wp2_with fail
      go_quiet (fail)
      go_wp2
      go_roundw
      case rel => exact ⟨i + 1, by go_num, by omega, HB.out.trans ⟨rfl, rfl, rfl, Nat.le_refl _, fun _ _ => rfl⟩⟩
      case measure => simp [intOf]; omega
    · obtain rfl : i = m := by omega
      clear h1 h2
      go_wp2
      go_ret
      exact ⟨rfl, Below.on HB2.out HB.out⟩
set_option maxRecDepth 100000 in
set_option maxHeartbeats 4000000 in
theorem same_any {N N' : Nat → Prop} {w : World} {a a2 : Option Addr} {c c2 n : Nat} {G : List P} (h1 : Gon N w a G) (h2 : Gon N' w a2 G) (hG : G.length = n) (hn : n ≤ 1000) :
    Calls Try.prog 13 #[.slice a n c, .slice a2 n c2] w fun e w' => e = .returned (.bool true) ∧ Below w.heap.size w w' := by
  have mixed : Try.prog.follows .mixedOrders = true := by kernel_rfl
  obtain ⟨l1, e1, r1, o1'⟩ := h1
  obtain ⟨l2, e2, r2, o2'⟩ := h2
  have n1 : l1.length = n := by rw [← hG, ← e1]; simp
  have n2 : l2.length = n := by rw [← hG, ← e2]; simp
  have HSE : Hid (∀ i, i < n → ∀ W, Below w.heap.size w W → Calls Try.prog 22 #[ev (nth cE l1 i), ev (nth cE l2 i)] W.drew fun e w' => e = .returned (.bool true) ∧ Below w.heap.size w w') := fun i hi W hW => by
    have hp : (nth cE l1 i).p = (nth cE l2 i).p := by rw [← nthP_map, ← nthP_map, e1, e2]
    exact (same_entry ((o1' _ (nth_mem (by omega))).below hW.drew) ((o2' _ (nth_mem (by omega))).below hW.drew) hp).mono fun e w' ⟨he, hb⟩ => ⟨he, Below.on hW.drew hb⟩
  have HRD : Hid (∀ W, Below w.heap.size w W → RdN cE N W a l1 ∧ RdN cE N' W a2 l2) := fun W hW => ⟨r1.below hW, r2.below hW⟩
  have HNN : Hid (l1.length = n ∧ l2.length = n) := ⟨n1, n2⟩
  have HEQ : Hid (l1.map E.p = G ∧ l2.map E.p = G) := ⟨e1, e2⟩
  have e4 : ((n : Int) != (n : Int)) = false := by simp
  clear r1 r2 o1' o2' n1 n2 e1 e2 hG
  go_enter Try.func13, Try.ntmps13
  go_wp2_with fail
  go_loopw [5] (fun s5 wr => ∃ i : Nat, s5 = .int .i64 i ∧ i ≤ n ∧ Hid (Below w.heap.size w wr)) (fun s5 _ => n - (intOf s5).toNat)
  case atStart => exact ⟨0, rfl, Nat.zero_le _, Below.refl _ _⟩
  case round =>
    obtain ⟨i, rfl, hi, HB⟩ := hrel
    by_cases hlt : i < n
    · have hlt' : (i : Int) < (n : Int) := by omega
      obtain ⟨x, hx⟩ : ∃ x, nth cE l1 i = x := ⟨_, rfl⟩
      obtain ⟨z, hz⟩ : ∃ z, nth cE l2 i = z := ⟨_, rfl⟩
      have hp : x.p = z.p := by rw [← hx, ← hz, ← nthP_map, ← nthP_map, HEQ.out.1, HEQ.out.2]
      have SE := HSE.out i hlt wr HB.out
      rw [hx, hz] at SE
      obtain ⟨⟨⟨⟨y1, y2, y3⟩, y4, y5, y6⟩, y7, y8, y9, yos⟩, xa, xc⟩ := x
      obtain ⟨zp, za, zc⟩ := z
      dsimp only at hp
      subst hp
      obtain ⟨m, hm⟩ : ∃ m, yos.length = m := ⟨_, rfl⟩
      dsimp only [ev] at SE
      rw [hm] at SE
      obtain ⟨b1, o1, rfl, lb1, _⟩ := (HRD.out wr HB.out).1.entry (i := i) (by rw [HNN.out.1]; exact hlt) hx
      obtain ⟨b2, o2, rfl, lb2, _⟩ := (HRD.out wr HB.out).2.entry (i := i) (by rw [HNN.out.2]; exact hlt) hz
      have HFC : Hid (∀ W, Below w.heap.size w W → (W.cell? ⟨b1, o1 + i * 10, none⟩ = some (.int .i64 y1) ∧ W.cell? ⟨b1, o1 + i * 10 + 1, none⟩ = some (.int .i64 y2) ∧ W.cell? ⟨b1, o1 + i * 10 + 2, none⟩ = some (.int .i64 y3) ∧ W.cell? ⟨b1, o1 + i * 10 + 3, none⟩ = some (.int .i64 y4) ∧ W.cell? ⟨b1, o1 + i * 10 + 4, none⟩ = some (.int .i64 y5) ∧ W.cell? ⟨b1, o1 + i * 10 + 5, none⟩ = some (.int .i64 y6) ∧ W.cell? ⟨b1, o1 + i * 10 + 6, none⟩ = some (.int .i64 y7) ∧ W.cell? ⟨b1, o1 + i * 10 + 7, none⟩ = some (.int .i64 y8) ∧ W.cell? ⟨b1, o1 + i * 10 + 8, none⟩ = some (.int .i64 y9) ∧ W.cell? ⟨b1, o1 + i * 10 + 9, none⟩ = some (.slice xa m xc)) ∧ (W.cell? ⟨b2, o2 + i * 10, none⟩ = some (.int .i64 y1) ∧ W.cell? ⟨b2, o2 + i * 10 + 1, none⟩ = some (.int .i64 y2) ∧ W.cell? ⟨b2, o2 + i * 10 + 2, none⟩ = some (.int .i64 y3) ∧ W.cell? ⟨b2, o2 + i * 10 + 3, none⟩ = some (.int .i64 y4) ∧ W.cell? ⟨b2, o2 + i * 10 + 4, none⟩ = some (.int .i64 y5) ∧ W.cell? ⟨b2, o2 + i * 10 + 5, none⟩ = some (.int .i64 y6) ∧ W.cell? ⟨b2, o2 + i * 10 + 6, none⟩ = some (.int .i64 y7) ∧ W.cell? ⟨b2, o2 + i * 10 + 7, none⟩ = some (.int .i64 y8) ∧ W.cell? ⟨b2, o2 + i * 10 + 8, none⟩ = some (.int .i64 y9) ∧ W.cell? ⟨b2, o2 + i * 10 + 9, none⟩ = some (.slice za m zc))) := fun W hW => by
        obtain ⟨b', o', e, _, _, u⟩ := (HRD.out W hW).1.entry (i := i) (by rw [HNN.out.1]; exact hlt) hx
        obtain ⟨b'', o'', e', _, _, v⟩ := (HRD.out W hW).2.entry (i := i) (by rw [HNN.out.2]; exact hlt) hz
        simp at e e'
        obtain ⟨rfl, rfl⟩ := e
        obtain ⟨rfl, rfl⟩ := e'
        rw [← hm]
        exact ⟨u, v⟩
      have HSE2 : Hid (Calls Try.prog 22 #[.agg #[.int .i64 y1, .int .i64 y2, .int .i64 y3, .int .i64 y4, .int .i64 y5, .int .i64 y6, .int .i64 y7, .int .i64 y8, .int .i64 y9, .slice xa m xc], .agg #[.int .i64 y1, .int .i64 y2, .int .i64 y3, .int .i64 y4, .int .i64 y5, .int .i64 y6, .int .i64 y7, .int .i64 y8, .int .i64 y9, .slice za m zc]] wr.drew fun e w' => e = .returned (.bool true) ∧ Below w.heap.size w w') := SE
      have KEEP0 : Hid ((wr.drew.cell? ⟨b1, o1 + i * 10, none⟩ = some (.int .i64 y1) ∧ wr.drew.cell? ⟨b1, o1 + i * 10 + 1, none⟩ = some (.int .i64 y2) ∧ wr.drew.cell? ⟨b1, o1 + i * 10 + 2, none⟩ = some (.int .i64 y3) ∧ wr.drew.cell? ⟨b1, o1 + i * 10 + 3, none⟩ = some (.int .i64 y4) ∧ wr.drew.cell? ⟨b1, o1 + i * 10 + 4, none⟩ = some (.int .i64 y5) ∧ wr.drew.cell? ⟨b1, o1 + i * 10 + 5, none⟩ = some (.int .i64 y6) ∧ wr.drew.cell? ⟨b1, o1 + i * 10 + 6, none⟩ = some (.int .i64 y7) ∧ wr.drew.cell? ⟨b1, o1 + i * 10 + 7, none⟩ = some (.int .i64 y8) ∧ wr.drew.cell? ⟨b1, o1 + i * 10 + 8, none⟩ = some (.int .i64 y9) ∧ wr.drew.cell? ⟨b1, o1 + i * 10 + 9, none⟩ = some (.slice xa m xc)) ∧ (wr.drew.cell? ⟨b2, o2 + i * 10, none⟩ = some (.int .i64 y1) ∧ wr.drew.cell? ⟨b2, o2 + i * 10 + 1, none⟩ = some (.int .i64 y2) ∧ wr.drew.cell? ⟨b2, o2 + i * 10 + 2, none⟩ = some (.int .i64 y3) ∧ wr.drew.cell? ⟨b2, o2 + i * 10 + 3, none⟩ = some (.int .i64 y4) ∧ wr.drew.cell? ⟨b2, o2 + i * 10 + 4, none⟩ = some (.int .i64 y5) ∧ wr.drew.cell? ⟨b2, o2 + i * 10 + 5, none⟩ = some (.int .i64 y6) ∧ wr.drew.cell? ⟨b2, o2 + i * 10 + 6, none⟩ = some (.int .i64 y7) ∧ wr.drew.cell? ⟨b2, o2 + i * 10 + 7, none⟩ = some (.int .i64 y8) ∧ wr.drew.cell? ⟨b2, o2 + i * 10 + 8, none⟩ = some (.int .i64 y9) ∧ wr.drew.cell? ⟨b2, o2 + i * 10 + 9, none⟩ = some (.slice za m zc))) := HFC.out wr.drew HB.out.drew
      obtain ⟨⟨u0, u1, u2, u3, u4, u5, u6, u7, u8, u9⟩, v0, v1, v2, v3, v4, v5, v6, v7, v8, v9⟩ := HFC.out wr HB.out
      clear hx hz hm SE
      go_wp2_with fail
      go_region_held3 (fun w' => (w'.cell? ⟨b1, o1 + i * 10, none⟩ = some (.int .i64 y1) ∧ w'.cell? ⟨b1, o1 + i * 10 + 1, none⟩ = some (.int .i64 y2) ∧ w'.cell? ⟨b1, o1 + i * 10 + 2, none⟩ = some (.int .i64 y3) ∧ w'.cell? ⟨b1, o1 + i * 10 + 3, none⟩ = some (.int .i64 y4) ∧ w'.cell? ⟨b1, o1 + i * 10 + 4, none⟩ = some (.int .i64 y5) ∧ w'.cell? ⟨b1, o1 + i * 10 + 5, none⟩ = some (.int .i64 y6) ∧ w'.cell? ⟨b1, o1 + i * 10 + 6, none⟩ = some (.int .i64 y7) ∧ w'.cell? ⟨b1, o1 + i * 10 + 7, none⟩ = some (.int .i64 y8) ∧ w'.cell? ⟨b1, o1 + i * 10 + 8, none⟩ = some (.int .i64 y9) ∧ w'.cell? ⟨b1, o1 + i * 10 + 9, none⟩ = some (.slice xa m xc)) ∧ (w'.cell? ⟨b2, o2 + i * 10, none⟩ = some (.int .i64 y1) ∧ w'.cell? ⟨b2, o2 + i * 10 + 1, none⟩ = some (.int .i64 y2) ∧ w'.cell? ⟨b2, o2 + i * 10 + 2, none⟩ = some (.int .i64 y3) ∧ w'.cell? ⟨b2, o2 + i * 10 + 3, none⟩ = some (.int .i64 y4) ∧ w'.cell? ⟨b2, o2 + i * 10 + 4, none⟩ = some (.int .i64 y5) ∧ w'.cell? ⟨b2, o2 + i * 10 + 5, none⟩ = some (.int .i64 y6) ∧ w'.cell? ⟨b2, o2 + i * 10 + 6, none⟩ = some (.int .i64 y7) ∧ w'.cell? ⟨b2, o2 + i * 10 + 7, none⟩ = some (.int .i64 y8) ∧ w'.cell? ⟨b2, o2 + i * 10 + 8, none⟩ = some (.int .i64 y9) ∧ w'.cell? ⟨b2, o2 + i * 10 + 9, none⟩ = some (.slice za m zc))) (first | (go_keep; done) | exact Hid.out KEEP2 | exact Hid.out KEEP0) (first
        | (go_at_call 22; refine (Hid.out HSE2).mono ?_; rintro e w7 ⟨rfl, h7⟩; have HB7 : Hid (Below w.heap.size w w7) := h7; have KEEP2 : Hid ((w7.cell? ⟨b1, o1 + i * 10, none⟩ = some (.int .i64 y1) ∧ w7.cell? ⟨b1, o1 + i * 10 + 1, none⟩ = some (.int .i64 y2) ∧ w7.cell? ⟨b1, o1 + i * 10 + 2, none⟩ = some (.int .i64 y3) ∧ w7.cell? ⟨b1, o1 + i * 10 + 3, none⟩ = some (.int .i64 y4) ∧ w7.cell? ⟨b1, o1 + i * 10 + 4, none⟩ = some (.int .i64 y5) ∧ w7.cell? ⟨b1, o1 + i * 10 + 5, none⟩ = some (.int .i64 y6) ∧ w7.cell? ⟨b1, o1 + i * 10 + 6, none⟩ = some (.int .i64 y7) ∧ w7.cell? ⟨b1, o1 + i * 10 + 7, none⟩ = some (.int .i64 y8) ∧ w7.cell? ⟨b1, o1 + i * 10 + 8, none⟩ = some (.int .i64 y9) ∧ w7.cell? ⟨b1, o1 + i * 10 + 9, none⟩ = some (.slice xa m xc)) ∧ (w7.cell? ⟨b2, o2 + i * 10, none⟩ = some (.int .i64 y1) ∧ w7.cell? ⟨b2, o2 + i * 10 + 1, none⟩ = some (.int .i64 y2) ∧ w7.cell? ⟨b2, o2 + i * 10 + 2, none⟩ = some (.int .i64 y3) ∧ w7.cell? ⟨b2, o2 + i * 10 + 3, none⟩ = some (.int .i64 y4) ∧ w7.cell? ⟨b2, o2 + i * 10 + 4, none⟩ = some (.int .i64 y5) ∧ w7.cell? ⟨b2, o2 + i * 10 + 5, none⟩ = some (.int .i64 y6) ∧ w7.cell? ⟨b2, o2 + i * 10 + 6, none⟩ = some (.int .i64 y7) ∧ w7.cell? ⟨b2, o2 + i * 10 + 7, none⟩ = some (.int .i64 y8) ∧ w7.cell? ⟨b2, o2 + i * 10 + 8, none⟩ = some (.int .i64 y9) ∧ w7.cell? ⟨b2, o2 + i * 10 + 9, none⟩ = some (.slice za m zc))) := Hid.out HFC _ h7; clear h7))
      go_wp2
      go_roundw
      case rel => exact ⟨i + 1, by go_num, by omega, HB7.out⟩
      case measure => simp [intOf]; omega
    · obtain rfl : i = n := by omega
      go_wp2
      go_ret
      exact ⟨rfl, HB.out⟩
end Go.Proofs.Ytgifanioeeacdaa
