/- Joined: the texts that follow, each with its own sentence. -/
import Derived.Test.YtiaopafkfadmkaaGreatZVb
import Derived.Test.YtiaopafkfadmkaaGreatZAc
import Derived.Test.YtiaopafkfadmkaaGreatZGb
import Derived.Test.YtiaopafkfadmkaaGreatZQd
set_option linter.unusedVariables false
set_option maxRecDepth 100000
namespace Go.Proofs.YtiaopafkfadmkaaGreat.V
open Go.RowKit Go.Shelf
theorem rdK {N : Nat → Prop} {W : World} {a : Option Addr} {l : List Kg} (h : B.RdN A.cK N W a l) {i : Nat} (hi : i < l.length) {x : Kg} (hx : B.nth A.cK l i = x) :
  ∃ b off, a = some ⟨b, off, none⟩ ∧ b < W.heap.size ∧ N b ∧ W.cell? ⟨b, off + i * 3, none⟩ = some (.int .i64 x.1) ∧ W.cell? ⟨b, off + i * 3 + 1, none⟩ = some (.int .i64 x.2.1) ∧ W.cell? ⟨b, off + i * 3 + 2, none⟩ = some (.int .i64 x.2.2) := by
 obtain ⟨b, off, rfl, hB, hb, hc⟩ := h (by intro e; simp [e] at hi)
 subst hx
 have g := hc i hi
 exact ⟨b, off, rfl, hB, hb, g 0 (by decide), g 1 (by decide), g 2 (by decide)⟩
theorem sameK_eq (a b : Kg) : G.sameK a b = decide (a = b) := by
 rw [G.sameK_of, decide_eq_decide]
 constructor
 ·rintro ⟨h1, h2, h3⟩
  exact Prod.ext h1 (Prod.ext h2 h3)
 ·rintro rfl
  exact ⟨rfl, rfl, rfl⟩
theorem mem_nthK {l : List Kg} {k : Kg} : k ∈ l ↔ ∃ i, i < l.length ∧ B.nth A.cK l i = k := ⟨fun h => B.mem_nth A.cK h, fun ⟨i, hi, e⟩ => e ▸ B.nth_mem hi⟩
set_option maxHeartbeats 1000000 in
theorem idxK_any {N : Nat → Prop} {w : World} {a : Option Addr} {n c : Nat} {l : List Kg} (hr : B.RdN A.cK N w a l) (hn : l.length = n) (hl : n ≤ 1000) (k : Kg) :
  Calls Tryz.prog 222 #[.slice a n c, B.kv k] w fun e w' => ∃ r : Int, e = .returned (.int .i64 r) ∧ (0 ≤ r ↔ k ∈ l) ∧ Below w.heap.size w w' := by
 have mixed : Tryz.prog.follows .mixedOrders = true := by kernel_rfl
 obtain ⟨k1, k2, k3⟩ := k
 obtain ⟨W0, hW0⟩ : ∃ W0, W0 = w.alloc (.cells #[.int .i64 k1, .int .i64 k2, .int .i64 k3] 37) := ⟨_, rfl⟩
 have hb0 : Below w.heap.size w W0 := by rw [hW0]; exact B.al _ _
 have bx : W0.heap[w.heap.size]? = some (.cells #[.int .i64 k1, .int .i64 k2, .int .i64 k3] 37 (0, 0)) := by rw [hW0]; exact G.newB _ _
 obtain ⟨Q0, hQ0⟩ : ∃ q, w.heap.size = q := ⟨_, rfl⟩
 have HR : Hid (B.RdN A.cK N W0 a l) := hr.below hb0
 have HN : Hid (l.length = n) := hn
 have HB0 : Hid (Below w.heap.size w W0) := hb0
 rw [hQ0] at bx
 have HBX : Hid (∀ W, Below W0.heap.size W0 W → Q0 < W.heap.size ∧ W.cell? ⟨Q0, 0, none⟩ = some (.int .i64 k1) ∧ W.cell? ⟨Q0, 1, none⟩ = some (.int .i64 k2) ∧ W.cell? ⟨Q0, 2, none⟩ = some (.int .i64 k3)) := fun W hW => by
  have hl := (Array.getElem?_eq_some_iff.1 bx).1
  have g := (hW.block Q0 hl).trans bx
  exact ⟨Nat.lt_of_lt_of_le hl hW.size, cellB g 0, cellB g 1, cellB g 2⟩
 clear hr hn hb0 bx
 go_enter Tryz.func222, Tryz.ntmps222
 go_wp2_with fail
 rw [← hW0]
 try simp only [hQ0]
 clear hW0 hQ0
 go_loopw [8] (fun s8 wr => ∃ i : Nat, s8 = .int .i64 i ∧ i ≤ n ∧ Hid (Below W0.heap.size W0 wr) ∧ Hid (∀ j, j < i → B.nth A.cK l j ≠ (k1, k2, k3))) (fun s8 _ => n - (intOf s8).toNat)
 case atStart => exact ⟨0, rfl, Nat.zero_le _, Below.refl _ _, (fun j hj => absurd hj (Nat.not_lt_zero j) : ∀ j, j < 0 → B.nth A.cK l j ≠ (k1, k2, k3))⟩
 case round =>
  obtain ⟨i, rfl, hi, HW, HJ⟩ := hrel
  by_cases hlt : i < n
  ·have hlt' : (i : Int) < (n : Int) := by omega
   have hil : i < l.length := by rw [HN.out]; exact hlt
   obtain ⟨⟨x1, x2, x3⟩, hx⟩ : ∃ x, B.nth A.cK l i = x := ⟨_, rfl⟩
   obtain ⟨b1, o1, rfl, l1, _, u0, u1, u2⟩ := rdK (HR.out.below HW.out) hil hx
   obtain ⟨lQ, v0, v1, v2⟩ := HBX.out _ HW.out
   dsimp only at u0 u1 u2
   have HX : Hid (B.nth A.cK l i = (x1, x2, x3)) := hx
   obtain ⟨b, hb⟩ : ∃ b, G.sameK (k1, k2, k3) (x1, x2, x3) = b := ⟨_, rfl⟩
   have eq : ∀ W : World, (binOp .eql 37 (.agg #[.int .i64 k1, .int .i64 k2, .int .i64 k3]) (.agg #[.int .i64 x1, .int .i64 x2, .int .i64 x3])).run Tryz.prog W = .ok (.bool b) W := fun W => by rw [← hb]; exact G.eqlK (k1, k2, k3) (x1, x2, x3) W
   rw [sameK_eq] at hb
   have HBQ : Hid (decide ((k1, k2, k3) = (x1, x2, x3)) = b) := hb
   clear hx hil hb
   cases b
   ·go_wp2_with fail
    go_quiet (fail)
    go_wp2
    go_roundw
    case rel =>
     refine ⟨i + 1, by go_num, by omega, HW.out.trans ⟨rfl, rfl, rfl, Nat.le_refl _, fun _ _ => rfl⟩, ?_⟩
     show ∀ j, j < i + 1 → B.nth A.cK l j ≠ (k1, k2, k3)
     intro j hj e
     rcases Nat.lt_or_ge j i with g | g
     ·exact HJ.out j g e
     ·obtain rfl : j = i := by omega
      rw [HX.out] at e
      have := HBQ.out
      rw [e] at this
      simp at this
    case measure => simp [intOf]; omega
   ·go_wp2_with fail
    go_quiet (fail)
    go_wp2
    go_ret
    have h1 := HBQ.out
    rw [decide_eq_true_iff] at h1
    exact ⟨(i : Int), rfl, ⟨fun _ => mem_nthK.2 ⟨i, by rw [HN.out]; exact hlt, by rw [HX.out, h1]⟩, fun _ => by omega⟩, Below.trans (HB0.out.trans (HW.out.mono HB0.out.size)) ⟨rfl, rfl, rfl, Nat.le_refl _, fun _ _ => rfl⟩⟩
  ·obtain rfl : i = n := by omega
   go_wp2
   go_ret
   exact ⟨-1, rfl, ⟨fun g => by omega, fun g => by
    obtain ⟨j, hj, e⟩ := mem_nthK.1 g
    exact absurd e (HJ.out j (by rw [← HN.out]; exact hj))⟩, HB0.out.trans (HW.out.mono HB0.out.size)⟩
set_option maxHeartbeats 1000000 in
theorem contK_any {N : Nat → Prop} {w : World} {a : Option Addr} {n c : Nat} {l : List Kg} (hr : B.RdN A.cK N w a l) (hn : l.length = n) (hl : n ≤ 1000) (k : Kg) :
  Calls Tryz.prog 201 #[.slice a n c, B.kv k] w fun e w' => e = .returned (.bool (decide (k ∈ l))) ∧ Below w.heap.size w w' := by
 obtain ⟨k1, k2, k3⟩ := k
 obtain ⟨W0, hW0⟩ : ∃ W0, W0 = w.alloc (.cells #[.int .i64 k1, .int .i64 k2, .int .i64 k3] 37) := ⟨_, rfl⟩
 have hb0 : Below w.heap.size w W0 := by rw [hW0]; exact B.al _ _
 have C := idxK_any (c := c) (hr.below hb0) hn hl (k1, k2, k3)
 rw [hW0] at C
 have HB0 : Hid (Below w.heap.size w (w.alloc (.cells #[.int .i64 k1, .int .i64 k2, .int .i64 k3] 37))) := B.al _ _
 clear hr hn hb0 hW0
 go_enter Tryz.func201, Tryz.ntmps201
 go_wp2_with (go_at_call 222; refine C.mono ?_; rintro e w1 ⟨r, rfl, hm, hb⟩; have HM : Hid (0 ≤ r ↔ (k1, k2, k3) ∈ l) := hm; have HB : Hid _ := hb; clear hm hb C)
 go_ret
 refine ⟨?_, HB0.out.trans (HB.out.mono HB0.out.size)⟩
 have h1 := HM.out
 by_cases g : (k1, k2, k3) ∈ l
 ·have g2 := h1.2 g
  simp [g, g2]
 ·have g2 : ¬ 0 ≤ r := fun e => g (h1.1 e)
  simp [g, g2]
def GoesM (w : World) (g : Nat) (bs : Array Value) (p : Mg → Bool) : Prop :=
 (∀ args w, (callFunc g args).run Tryz.prog w = .ok (.enter g args) w) ∧ ∀ W, Below w.heap.size w W → ∀ x : Mg, Calls Tryz.prog g (#[B.mv x] ++ bs) W fun e w' => e = .returned (.bool (p x)) ∧ Below W.heap.size W w'
set_option maxHeartbeats 1000000 in
theorem waits_fn {w : World} {kb : Nat} (k : Kg) (hb : w.heap[kb]? = some (.cells #[.int .i64 k.1, .int .i64 k.2.1, .int .i64 k.2.2] 37 (0, 0))) : GoesM w 207 #[.pointer (some ⟨kb, 0, none⟩)] (fun x => decide (x.1 = k)) := by
 refine ⟨enters_of Tryz.func207 (by kernel_rfl) rfl, fun W hW x => ?_⟩
 obtain ⟨k1, k2, k3⟩ := k
 have hbW := (hW.block kb (Array.getElem?_eq_some_iff.1 hb).1).trans hb
 have c0 := cellB hbW 0
 have c1 := cellB hbW 1
 have c2 := cellB hbW 2
 have hlt : kb < W.heap.size := (Array.getElem?_eq_some_iff.1 hbW).1
 simp only [List.getElem?_toArray, List.getElem?_cons_zero, List.getElem?_cons_succ] at c0 c1 c2
 obtain ⟨⟨a1, a2, a3⟩, a4, a5, a6⟩ := x
 obtain ⟨b, hbb⟩ : ∃ b, decide ((a1, a2, a3) = (k1, k2, k3)) = b := ⟨_, rfl⟩
 have eq : ∀ W : World, (binOp .eql 37 (.agg #[.int .i64 a1, .int .i64 a2, .int .i64 a3]) (.agg #[.int .i64 k1, .int .i64 k2, .int .i64 k3])).run Tryz.prog W = .ok (.bool b) W := fun W => by rw [← hbb, ← sameK_eq]; exact G.eqlK (a1, a2, a3) (k1, k2, k3) W
 show Calls Tryz.prog 207 #[B.mv ((a1, a2, a3), a4, a5, a6), .pointer (some ⟨kb, 0, none⟩)] W fun e w' => e = .returned (.bool (decide ((a1, a2, a3) = (k1, k2, k3)))) ∧ Below W.heap.size W w'
 rw [hbb]
 clear hb hbW hW hbb
 go_enter Tryz.func207, Tryz.ntmps207
 go_wp2
 go_ret
 exact ⟨rfl, B.al _ _⟩
theorem mem_nthM {l : List Mg} {p : Mg → Bool} : l.any p = true ↔ ∃ i, i < l.length ∧ p (B.nth B.cM l i) = true := by
 rw [List.any_eq_true]
 constructor
 ·rintro ⟨x, hx, e⟩
  obtain ⟨i, hi, rfl⟩ := B.mem_nth B.cM hx
  exact ⟨i, hi, e⟩
 ·rintro ⟨i, hi, e⟩
  exact ⟨_, B.nth_mem hi, e⟩
set_option maxHeartbeats 1000000 in
theorem idxM_any {N : Nat → Prop} {w : World} {a : Option Addr} {n c : Nat} {l : List Mg} (hr : B.RdN B.cM N w a l) (hn : l.length = n) (hl : n ≤ 1000) {g : Nat} {bs : Array Value} {p : Mg → Bool} (hg : GoesM w g bs p) :
  Calls Tryz.prog 226 #[.slice a n c, .func (.func g) #[] bs] w fun e w' => ∃ r : Int, e = .returned (.int .i64 r) ∧ (0 ≤ r ↔ l.any p = true) ∧ Below w.heap.size w w' := by
 obtain ⟨P, hP⟩ : ∃ P, (l.any p = true) = P := ⟨_, rfl⟩
 rw [hP]
 have HPP : Hid ((l.any p = true) = P) := hP
 clear hP
 obtain ⟨eg, hG⟩ := hg
 have HG : Aside _ := hG
 have HR : Hid (B.RdN B.cM N w a l) := hr
 have HN : Hid (l.length = n) := hn
 clear hr hn hG
 go_enter Tryz.func226, Tryz.ntmps226
 go_wp2
 go_loopw [8] (fun s8 wr => ∃ i : Nat, s8 = .int .i64 i ∧ i ≤ n ∧ Hid (Below w.heap.size w wr) ∧ Hid (∀ j, j < i → p (B.nth B.cM l j) = false)) (fun s8 _ => n - (intOf s8).toNat)
 case atStart => exact ⟨0, rfl, Nat.zero_le _, Below.refl _ _, (fun j hj => absurd hj (Nat.not_lt_zero j) : ∀ j, j < 0 → p (B.nth B.cM l j) = false)⟩
 case round =>
  obtain ⟨i, rfl, hi, HW, HJ⟩ := hrel
  by_cases hlt : i < n
  ·have hlt' : (i : Int) < (n : Int) := by omega
   have hil : i < l.length := by rw [HN.out]; exact hlt
   obtain ⟨x, hx⟩ : ∃ x, B.nth B.cM l i = x := ⟨_, rfl⟩
   obtain ⟨b1, o1, rfl, l1, _, u0, u1, u2, u3, u4, u5⟩ := (HR.out.below HW.out).msg hil hx
   obtain ⟨b, hb⟩ : ∃ b, p x = b := ⟨_, rfl⟩
   have HX : Hid (p (B.nth B.cM l i) = b) := by rw [hx]; exact hb
   have HGX : Aside (∀ W, Below w.heap.size w W → Calls Tryz.prog g (#[B.mv x] ++ bs) W fun e w' => e = .returned (.bool b) ∧ Below W.heap.size W w') := fun W hW => by
    have := HG.out W hW x
    rw [hb] at this
    exact this
   obtain ⟨⟨x1, x2, x3⟩, x4, x5, x6⟩ := x
   dsimp only at u0 u1 u2 u3 u4 u5
   clear hx hil hb
   cases b
   ·go_wp2_with (go_at_fn g; refine (HGX.out _ (Hid.out HW)).mono ?_; rintro e w2 ⟨rfl, hb2⟩; have HB2 : Hid _ := (Hid.out HW).trans (hb2.mono (Hid.out HW).size); clear hb2)
    go_roundw
    case rel =>
     refine ⟨i + 1, by go_num, by omega, HB2.out, ?_⟩
     show ∀ j, j < i + 1 → p (B.nth B.cM l j) = false
     intro j hj
     rcases Nat.lt_or_ge j i with g | g
     ·exact HJ.out j g
     ·obtain rfl : j = i := by omega
      exact HX.out
    case measure => simp [intOf]; omega
   ·go_wp2_with (go_at_fn g; refine (HGX.out _ (Hid.out HW)).mono ?_; rintro e w2 ⟨rfl, hb2⟩; have HB2 : Hid _ := (Hid.out HW).trans (hb2.mono (Hid.out HW).size); clear hb2)
    go_ret
    exact ⟨(i : Int), rfl, ⟨fun _ => by rw [← HPP.out]; exact mem_nthM.2 ⟨i, by rw [HN.out]; exact hlt, HX.out⟩, fun _ => by omega⟩, HB2.out⟩
  ·obtain rfl : i = n := by omega
   go_wp2
   go_ret
   exact ⟨-1, rfl, ⟨fun g => by omega, fun g => by
    rw [← HPP.out] at g
    obtain ⟨j, hj, e⟩ := mem_nthM.1 g
    rw [HJ.out j (by rw [← HN.out]; exact hj)] at e
    cases e⟩, HW.out⟩
set_option maxHeartbeats 1000000 in
theorem contM_any {N : Nat → Prop} {w : World} {a : Option Addr} {n c : Nat} {l : List Mg} (hr : B.RdN B.cM N w a l) (hn : l.length = n) (hl : n ≤ 1000) {g : Nat} {bs : Array Value} {p : Mg → Bool} (hg : GoesM w g bs p) :
  Calls Tryz.prog 206 #[.slice a n c, .func (.func g) #[] bs] w fun e w' => e = .returned (.bool (l.any p)) ∧ Below w.heap.size w w' := by
 have C := idxM_any (c := c) hr hn hl hg
 obtain ⟨b, hb⟩ : ∃ b, l.any p = b := ⟨_, rfl⟩
 rw [hb] at C
 rw [hb]
 clear hr hn hg hb
 go_enter Tryz.func206, Tryz.ntmps206
 go_wp2_with (go_at_call 226; refine C.mono ?_; rintro e w1 ⟨r, rfl, hm, hb⟩; have HM : Hid (0 ≤ r ↔ b = true) := hm; have HB : Hid _ := hb; clear hm hb C)
 go_ret
 refine ⟨?_, HB.out⟩
 have h1 := HM.out
 cases b
 ·have g2 : ¬ 0 ≤ r := fun e => by have := h1.1 e; cases this
  simp [g2]
 ·have g2 := h1.2 rfl
  simp [g2]
theorem ownQ_rd {W : World} {u : Value} {l : List Mg} (h : Q.Own W u l) : ∃ a c, u = .slice a l.length c ∧ B.RdN B.cM (fun k => u.ownBlock = some k) W a l ∧ B.OwR B.cM 39 W u l := by
 have h2 : B.OwR B.cM 39 W u l := h
 obtain ⟨a, c, e, hr⟩ := h2.rd (N := fun k => u.ownBlock = some k) (fun _ g => g)
 exact ⟨a, c, e, hr, h2⟩
set_option maxHeartbeats 1000000 in
theorem nwaiting {w0 : World} {D : Wd} {f : Nat} {x : X} {gf : Int} {Z : Ad} {F : Nat → Nat → Prop} {v : Value} {w : World} (h : WM w0 D f x gf Z F v w) :
  Calls Tryz.prog 31 #[.pointer (some ⟨Z.nb, 0, none⟩)] w fun e w' => ∃ a c, e = .returned (.slice a x.nd.q.length c) ∧ B.OwR B.cM 39 w' (.slice a x.nd.q.length c) x.nd.q ∧ (∀ k, (Value.slice a x.nd.q.length c).ownBlock = some k → w.heap.size ≤ k) ∧ Below w.heap.size w w' := by
 have n6 := h.cells.2.2.2.2.2.2.1
 have C := Q.list_any h.qu
 clear h
 go_enter Tryz.func31, Tryz.ntmps31
 go_wp2_with (go_at_call 84; refine C.mono ?_; rintro e w' ⟨u, rfl, h1, h2, h3⟩; have H : Hid _ := And.intro h1 (And.intro h2 h3); clear h1 h2 h3)
 go_ret
 obtain ⟨h1, h2, h3⟩ := H.out
 obtain ⟨a, c, rfl, _, ho⟩ := ownQ_rd h1
 exact ⟨a, c, rfl, ho, h2, h3⟩
set_option maxHeartbeats 1000000 in
theorem nwaits {w0 : World} {D : Wd} {f : Nat} {x : X} {gf : Int} {Z : Ad} {F : Nat → Nat → Prop} {v : Value} {w : World} (h : WM w0 D f x gf Z F v w) (hl : x.nd.q.length ≤ 64) (k : Kg) :
  Calls Tryz.prog 184 #[.pointer (some ⟨Z.nb, 0, none⟩), B.kv k] w fun e w' => e = .returned (.bool (Q.hasK x.nd.q k)) ∧ Below w.heap.size w w' := by
 obtain ⟨k1, k2, k3⟩ := k
 obtain ⟨W0, hW0⟩ : ∃ W0, W0 = w.alloc (.cells #[.int .i64 k1, .int .i64 k2, .int .i64 k3] 37) := ⟨_, rfl⟩
 have hb0 : Below w.heap.size w W0 := by rw [hW0]; exact B.al _ _
 have bx : W0.heap[w.heap.size]? = some (.cells #[.int .i64 k1, .int .i64 k2, .int .i64 k3] 37 (0, 0)) := by rw [hW0]; exact G.newB _ _
 have n6 := (h.below hb0).cells.2.2.2.2.2.2.1
 have C := Q.list_any (h.below hb0).qu
 have HB0 : Hid (Below w.heap.size w W0) := hb0
 have HC : Hid (∀ w1 a n c, B.OwR B.cM 39 w1 (.slice a n c) x.nd.q → Below W0.heap.size W0 w1 → Calls Tryz.prog 206 #[.slice a n c, .func (.func 207) #[] #[.pointer (some ⟨w.heap.size, 0, none⟩)]] w1 fun e w' => e = .returned (.bool (Q.hasK x.nd.q (k1, k2, k3))) ∧ Below w1.heap.size w1 w') := fun w1 a n c ho hb => by
  have hlt := (Array.getElem?_eq_some_iff.1 bx).1
  have g := waits_fn (w := w1) (kb := w.heap.size) (k1, k2, k3) ((hb.block _ hlt).trans bx)
  exact contM_any ho.look.2 ho.look.1.symm (by rw [ho.look.1]; omega) g
 rw [hW0] at C n6
 clear h bx hb0
 go_enter Tryz.func184, Tryz.ntmps184
 go_wp2_with (first
  | (go_at_call 84; refine C.mono ?_; rintro e w1 ⟨u, rfl, h1, h2, h3⟩; obtain ⟨a, c, rfl, _, ho⟩ := ownQ_rd h1; rw [← hW0] at h3; have HO : Hid _ := And.intro ho h3; clear h1 h2 h3 ho C)
  | (go_at_call 206; refine (HC.out _ _ _ _ (Hid.out HO).1 (Hid.out HO).2).mono ?_; rintro e w2 ⟨rfl, hb2⟩; have HB2 : Hid _ := hb2; clear hb2))
 go_ret
 exact ⟨rfl, HB0.out.trans ((HO.out.2.trans (HB2.out.mono HO.out.2.size)).mono HB0.out.size)⟩
set_option maxHeartbeats 1000000 in
theorem nwasTaken {w0 : World} {D : Wd} {f : Nat} {x : X} {gf : Int} {Z : Ad} {F : Nat → Nat → Prop} {v : Value} {w : World} (h : WM w0 D f x gf Z F v w) (hl : x.nd.p.length ≤ 64) (k : Kg) :
  Calls Tryz.prog 181 #[.pointer (some ⟨Z.nb, 0, none⟩), B.kv k] w fun e w' => e = .returned (.bool (hasP x.nd.p k)) ∧ Below w.heap.size w w' := by
 have mixed : Tryz.prog.follows .mixedOrders = true := by kernel_rfl
 have hm : decide (k ∈ A.keysP x.nd.p) = hasP x.nd.p k := by
  rw [Bool.eq_iff_iff, decide_eq_true_iff, hasP_iff]
  unfold A.keysP
  rw [List.mem_map]
 obtain ⟨k1, k2, k3⟩ := k
 obtain ⟨W0, hW0⟩ : ∃ W0, W0 = w.alloc (.cells #[.int .i64 k1, .int .i64 k2, .int .i64 k3] 37) := ⟨_, rfl⟩
 have hb0 : Below w.heap.size w W0 := by rw [hW0]; exact B.al _ _
 have bx : W0.heap[w.heap.size]? = some (.cells #[.int .i64 k1, .int .i64 k2, .int .i64 k3] 37 (0, 0)) := by rw [hW0]; exact G.newB _ _
 have n7 := (h.below hb0).cells.2.2.2.2.2.2.2.1
 obtain ⟨q, hq⟩ : ∃ q, w.heap.size = q := ⟨_, rfl⟩
 have HB0 : Hid (Below w.heap.size w W0) := hb0
 obtain ⟨X0, v0, hp⟩ := (h.below (hb0.trans ((below_drew W0).mono hb0.size))).pa.call
 have HK : Hid (Calls Tryz.prog 202 #[.pointer (some ⟨Z.pb, 0, none⟩)] W0.drew fun e w' => ∃ a c, e = .returned (.slice a x.nd.p.length c) ∧ B.OwR A.cK 37 w' (.slice a x.nd.p.length c) (A.keysP x.nd.p) ∧ Below W0.heap.size W0 w') := (A.keys_any hp).mono fun e w' ⟨a, c, h1, h2, _, h3⟩ => ⟨a, c, h1, h2, ⟨h3.os, h3.tape, h3.output, h3.size, h3.block⟩⟩
 have HC : Hid (∀ w1 a n c, B.OwR A.cK 37 w1 (.slice a n c) (A.keysP x.nd.p) → Calls Tryz.prog 201 #[.slice a n c, .agg #[.int .i64 k1, .int .i64 k2, .int .i64 k3]] w1 fun e w' => e = .returned (.bool (hasP x.nd.p (k1, k2, k3))) ∧ Below w1.heap.size w1 w') := fun w1 a n c ho => by
  rw [← hm]
  exact contK_any ho.look.2 ho.look.1.symm (by rw [ho.look.1]; unfold A.keysP; rw [List.length_map]; omega) (k1, k2, k3)
 rw [hq] at bx
 have lq : q < W0.heap.size := (Array.getElem?_eq_some_iff.1 bx).1
 have k0 : W0.cell? ⟨q, 0, none⟩ = some (.int .i64 k1) := cellB bx 0
 have k1' : W0.cell? ⟨q, 1, none⟩ = some (.int .i64 k2) := cellB bx 1
 have k2' : W0.cell? ⟨q, 2, none⟩ = some (.int .i64 k3) := cellB bx 2
 have HKP : Hid (∀ w1, Below W0.heap.size W0 w1 → w1.cell? ⟨Z.nb, 7, none⟩ = some (.pointer (some ⟨Z.pb, 0, none⟩)) ∧ w1.cell? ⟨q, 0, none⟩ = some (.int .i64 k1) ∧ w1.cell? ⟨q, 1, none⟩ = some (.int .i64 k2) ∧ w1.cell? ⟨q, 2, none⟩ = some (.int .i64 k3)) := fun w1 hb => by
  have g := (hb.block q lq).trans bx
  exact ⟨((h.below hb0).below hb).cells.2.2.2.2.2.2.2.1, cellB g 0, cellB g 1, cellB g 2⟩
 clear h hb0 hp hm
 go_enter Tryz.func181, Tryz.ntmps181
 go_wp2_with fail
 rw [← hW0]
 try simp only [hq]
 clear hW0 hq bx
 go_region_held3 (fun w' => w'.cell? ⟨Z.nb, 7, none⟩ = some (.pointer (some ⟨Z.pb, 0, none⟩)) ∧ w'.cell? ⟨q, 0, none⟩ = some (.int .i64 k1) ∧ w'.cell? ⟨q, 1, none⟩ = some (.int .i64 k2) ∧ w'.cell? ⟨q, 2, none⟩ = some (.int .i64 k3)) (first | (go_keep; done) | exact Hid.out KEEP2 | exact Hid.out KEEP) (first
  | (go_at_call 202; refine (Hid.out HK).mono ?_; rintro e w1 ⟨a, c, rfl, ho, hb1⟩; have HO : Hid _ := And.intro ho hb1; have KEEP : Hid _ := Hid.out HKP _ hb1; clear ho hb1 HK)
  | (go_at_call 201; refine (Hid.out HC _ _ _ _ (Hid.out HO).1).mono ?_; rintro e w2 ⟨rfl, hb2⟩; have HB2 : Hid _ := (Hid.out HO).2.trans (hb2.mono (Hid.out HO).2.size); have KEEP2 : Hid _ := Hid.out HKP _ (Hid.out HB2); clear hb2))
 go_wp2
 go_ret
 exact ⟨rfl, HB0.out.trans (HB2.out.mono HB0.out.size)⟩
theorem beh_snoc {p : List En} {k : Kg} {i : Nat} (hi : i < p.length) : beh (p.take (i + 1)) k = if klt k (p[i]).m.1 = true then beh (p.take i) k + 1 else beh (p.take i) k := by
 unfold beh
 rw [List.take_succ_eq_append_getElem hi, List.filter_append]
 cases h : klt k (p[i]).m.1 <;> simp [h]
theorem beh_le (p : List En) (k : Kg) : beh p k ≤ p.length := List.length_filter_le _ _
theorem kcmp_pos (a b : Kg) : (0 < B.kcmp a b) ↔ klt b a = true := by
 rw [show klt b a = B.klt b a from rfl, B.klt_iff]
 unfold B.kcmp B.or3 B.cmpI
 repeat' split
 all_goals first | omega | simp_all <;> omega
set_option maxHeartbeats 1000000 in
theorem nbehind {w0 : World} {D : Wd} {f : Nat} {x : X} {gf : Int} {Z : Ad} {F : Nat → Nat → Prop} {v : Value} {w : World} (h : WM w0 D f x gf Z F v w) (hl : x.nd.p.length ≤ 64) (k : Kg) :
  Calls Tryz.prog 182 #[.pointer (some ⟨Z.nb, 0, none⟩), B.kv k] w fun e w' => e = .returned (.int .i64 (beh x.nd.p k)) ∧ Below w.heap.size w w' := by
 obtain ⟨k1, k2, k3⟩ := k
 obtain ⟨W0, hW0⟩ : ∃ W0, W0 = w.alloc (.cells #[.int .i64 k1, .int .i64 k2, .int .i64 k3] 37) := ⟨_, rfl⟩
 have hb0 : Below w.heap.size w W0 := by rw [hW0]; exact B.al _ _
 have bx : W0.heap[w.heap.size]? = some (.cells #[.int .i64 k1, .int .i64 k2, .int .i64 k3] 37 (0, 0)) := by rw [hW0]; exact G.newB _ _
 have n7 := (h.below hb0).cells.2.2.2.2.2.2.2.1
 have HB0 : Hid (Below w.heap.size w W0) := hb0
 obtain ⟨X0, v0, hp⟩ := (h.below hb0).pa.call
 have CK := A.keys_any hp
 obtain ⟨q, hq⟩ : ∃ q, w.heap.size = q := ⟨_, rfl⟩
 rw [hq] at bx
 obtain ⟨p, hpp⟩ : ∃ p, x.nd.p = p := ⟨_, rfl⟩
 rw [hpp] at CK hl ⊢
 obtain ⟨n, hn⟩ : ∃ n, p.length = n := ⟨_, rfl⟩
 have HN : Hid (p.length = n) := hn
 rw [hn] at CK hl
 have HQ : Hid (∀ W, Below W0.heap.size W0 W → q < W.heap.size ∧ W.cell? ⟨q, 0, none⟩ = some (.int .i64 k1) ∧ W.cell? ⟨q, 1, none⟩ = some (.int .i64 k2) ∧ W.cell? ⟨q, 2, none⟩ = some (.int .i64 k3)) := fun W hb => by
  have lq : q < W0.heap.size := (Array.getElem?_eq_some_iff.1 bx).1
  have g := (hb.block q lq).trans bx
  exact ⟨Nat.lt_of_lt_of_le lq hb.size, cellB g 0, cellB g 1, cellB g 2⟩
 rw [hW0] at CK n7
 clear h hb0 hp bx hpp hn
 go_enter Tryz.func182, Tryz.ntmps182
 go_wp2_with (go_at_call 202; refine CK.mono ?_; rintro e w1 ⟨a, c, rfl, ho, _, hb1⟩; rw [← hW0] at hb1; have HO : Hid (B.OwR A.cK 37 w1 (.slice a n c) (A.keysP p)) := ho; have HB1 : Hid (Below W0.heap.size W0 w1) := hb1; clear ho hb1 CK)
 try simp only [hq]
 clear hW0 hq
 go_loopw [5, 14] (fun s5 s14 wr => ∃ i : Nat, s14 = .int .i64 i ∧ i ≤ n ∧ s5 = .int .i64 (beh (p.take i) (k1, k2, k3)) ∧ Hid (Below w1.heap.size w1 wr)) (fun _ s14 _ => n - (intOf s14).toNat)
 case atStart => exact ⟨0, rfl, Nat.zero_le _, by simp [beh], Below.refl _ _⟩
 case round =>
  obtain ⟨i, rfl, hi, rfl, HW⟩ := hrel
  by_cases hlt : i < n
  ·have hlt' : (i : Int) < (n : Int) := by omega
   have hil : i < p.length := by rw [HN.out]; exact hlt
   have hik : i < (A.keysP p).length := by unfold A.keysP; rw [List.length_map]; exact hil
   obtain ⟨⟨x1, x2, x3⟩, hx⟩ : ∃ x, B.nth A.cK (A.keysP p) i = x := ⟨_, rfl⟩
   obtain ⟨b1, o1, rfl, l1, _, u0, u1, u2⟩ := rdK (HO.out.look.2.below HW.out) hik hx
   obtain ⟨lQ, v0, v1, v2⟩ := HQ.out _ (HB1.out.trans (HW.out.mono HB1.out.size))
   dsimp only at u0 u1 u2
   have hxe : (p[i]).m.1 = (x1, x2, x3) := by
    rw [← hx, B.nth_get hik]
    simp [A.keysP]
   have hbs := beh_snoc (k := (k1, k2, k3)) hil
   rw [hxe] at hbs
   have hbl := beh_le (p.take i) (k1, k2, k3)
   rw [List.length_take] at hbl
   obtain ⟨t, ht⟩ : ∃ t, beh (p.take i) (k1, k2, k3) = t := ⟨_, rfl⟩
   obtain ⟨t2, ht2⟩ : ∃ t, beh (p.take (i + 1)) (k1, k2, k3) = t := ⟨_, rfl⟩
   rw [ht, ht2] at hbs
   rw [ht] at hbl ⊢
   have htl : t ≤ 1000 := by omega
   have hc := fun W => B.cmp_any (x1, x2, x3) (k1, k2, k3) W
   obtain ⟨r, hr⟩ : ∃ r, B.kcmp (x1, x2, x3) (k1, k2, k3) = r := ⟨_, rfl⟩
   have hr2 := kcmp_pos (x1, x2, x3) (k1, k2, k3)
   simp only [hr] at hc hr2
   have HT2 : Hid (beh (p.take (i + 1)) (k1, k2, k3) = t2) := ht2
   have mQ : ¬ q = wr.heap.size := by omega
   clear ht ht2 hxe hx hil hik hr hbl
   by_cases hpos : 0 < r
   ·rw [if_pos (hr2.1 hpos)] at hbs
    subst hbs
    clear hr2
    go_wp2_with (go_at_call 125; refine (hc _).mono ?_; rintro e w' ⟨rfl, qn, os, rfl⟩)
    go_roundw
    case rel =>
     refine ⟨i + 1, by go_num, by omega, by rw [HT2.out]; go_num, HW.out.trans ((B.Below.on (B.al _ _) (B.below_grow _ _ _)).mono HW.out.size)⟩
    case measure => simp [intOf]; omega
   ·rw [if_neg (fun g => hpos (hr2.2 g))] at hbs
    subst hbs
    clear hr2
    go_wp2_with (go_at_call 125; refine (hc _).mono ?_; rintro e w' ⟨rfl, qn, os, rfl⟩)
    go_roundw
    case rel =>
     refine ⟨i + 1, by go_num, by omega, by rw [HT2.out], HW.out.trans ((B.Below.on (B.al _ _) (B.below_grow _ _ _)).mono HW.out.size)⟩
    case measure => simp [intOf]; omega
  ·obtain rfl : i = n := by omega
   have e : p.take i = p := List.take_of_length_le (by rw [HN.out]; exact Nat.le_refl _)
   rw [e]
   clear e
   go_wp2
   go_ret
   exact ⟨rfl, HB0.out.trans ((HB1.out.trans (HW.out.mono HB1.out.size)).mono HB0.out.size)⟩
end Go.Proofs.YtiaopafkfadmkaaGreat.V
