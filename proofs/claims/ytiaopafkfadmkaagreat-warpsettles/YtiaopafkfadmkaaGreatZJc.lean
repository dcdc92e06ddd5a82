/- Joined: the texts that follow, each with its own sentence. -/
import Derived.Test.YtiaopafkfadmkaaGreatZJa
import Derived.Test.YtiaopafkfadmkaaGreatZJb
import Derived.Test.YtiaopafkfadmkaaGreatZJs
set_option linter.unusedVariables false
set_option maxRecDepth 100000
namespace Go.Proofs.YtiaopafkfadmkaaGreat
open Go.RowKit Go.Shelf
def Ent (k : Nat) : Prop := ∀ args w, (callFunc k args).run Tryz.prog w = .ok (.enter k args) w
def Tri (w : World) (v : Value) (E : Int) : Prop := ∃ k bs, v = .func (.func k) #[] bs ∧ Ent k ∧ ∀ W, Below w.heap.size w W → Calls Tryz.prog k bs W fun e W' => e = .returned (.int .i64 E) ∧ Below W.heap.size W W'
def TriB (w : World) (v : Value) (b : Bool) : Prop := ∃ k bs, v = .func (.func k) #[] bs ∧ Ent k ∧ ∀ W, Below w.heap.size w W → Calls Tryz.prog k bs W fun e W' => e = .returned (.bool b) ∧ Below W.heap.size W W'
theorem Tri.below {w w' : World} {v : Value} {E : Int} (h : Tri w v E) (hb : Below w.heap.size w w') : Tri w' v E := by
 obtain ⟨k, bs, rfl, he, hc⟩ := h
 exact ⟨k, bs, rfl, he, fun W hW => hc W (hb.trans (hW.mono hb.size))⟩
theorem TriB.below {w w' : World} {v : Value} {b : Bool} (h : TriB w v b) (hb : Below w.heap.size w w') : TriB w' v b := by
 obtain ⟨k, bs, rfl, he, hc⟩ := h
 exact ⟨k, bs, rfl, he, fun W hW => hc W (hb.trans (hW.mono hb.size))⟩
def fstE : List Int → Int
 | [] => 0
 | e :: r => if e = 0 then fstE r else e
theorem fstE_at {l : List Int} {k : Nat} {e : Int} (h : ∀ i, i < k → nthI l i = 0) (hk : k < l.length) (he : nthI l k = e) (h0 : e ≠ 0) : fstE l = e := by
 induction l generalizing k with
 | nil => simp at hk
 | cons x r ih =>
  cases k with
  | zero =>
   have : x = e := by simpa [nthI] using he
   simp [fstE, this, h0]
  | succ k =>
   have h1 : x = 0 := by simpa [nthI] using h 0 (by omega)
   simp only [fstE, h1, if_true]
   exact ih (k := k) (fun i hi => by have := h (i + 1) (by omega); simpa [nthI] using this) (by simpa using hk) (by simpa [nthI] using he)
theorem fstE_no {l : List Int} (h : ∀ i, i < l.length → nthI l i = 0) : fstE l = 0 := by
 induction l with
 | nil => rfl
 | cons x r ih =>
  have h1 : x = 0 := by simpa [nthI] using h 0 (by simp)
  simp only [fstE, h1, if_true]
  exact ih (fun i hi => by simpa [nthI] using h (i + 1) (by simpa using hi))
def RdT (w : World) (a : Option Addr) (es : List Int) : Prop :=
 es ≠ [] → ∃ b off, a = some ⟨b, off, none⟩ ∧ b < w.heap.size ∧ ∀ i, i < es.length → ∃ v, w.cell? ⟨b, off + i, none⟩ = some v ∧ Tri w v (nthI es i)
set_option maxHeartbeats 1000000 in
theorem first_any (w : World) (a : Option Addr) (cp : Nat) (es : List Int) (h : RdT w a es) (hl : es.length ≤ 100) :
  Calls Tryz.prog 90 #[.slice a es.length cp] w fun e w' => e = .returned (.int .i64 (fstE es)) ∧ Below w.heap.size w w' := by
 have HR : Hid (RdT w a es) := h
 clear h
 go_enter Tryz.func90, Tryz.ntmps90
 go_wp2_with fail
 go_loopw [8] (fun s8 wr => ∃ k : Nat, k ≤ es.length ∧ s8 = .int .i64 k ∧ Hid (∀ i, i < k → nthI es i = 0) ∧ Below w.heap.size w wr) (fun s8 _ => es.length - (intOf s8).toNat)
 case atStart => exact ⟨0, Nat.zero_le _, rfl, (fun i hi => absurd hi (Nat.not_lt_zero _) : ∀ i, i < 0 → nthI es i = 0), Below.refl _ _⟩
 case round =>
  obtain ⟨k, hk, rfl, HJ, hbw⟩ := hrel
  by_cases hkl : k < es.length
  ·have hk' : (k : Int) < (es.length : Int) := by omega
   obtain ⟨b, off, rfl, hB, hc⟩ := HR.out (by intro e; simp [e] at hkl)
   obtain ⟨v, hv, hT⟩ := hc k hkl
   obtain ⟨kf, bs, rfl, eg, hC⟩ := hT.below hbw
   have x0 := (hbw.cell (p := ⟨b, off + k, none⟩) hB).trans hv
   obtain ⟨E, hE⟩ : ∃ E, nthI es k = E := ⟨_, rfl⟩
   rw [hE] at hC
   have HE : Hid _ := hE
   have C := hC wr (Below.refl _ _)
   unfold Ent at eg
   clear hc hv hT hC hE
   by_cases e0 : E = 0
   ·subst e0
    go_wp2_with fail
    refine C.mono ?_
    rintro e w1 ⟨rfl, hb1⟩
    go_wp2
    go_roundw
    case rel =>
     refine ⟨k + 1, by omega, by go_num, ?_, hbw.trans (hb1.mono hbw.size)⟩
     refine (fun i hi => ?_ : ∀ i, i < k + 1 → nthI es i = 0)
     by_cases e : i = k
     ·rw [e, HE.out]
     ·exact HJ.out i (by omega)
    case measure => simp [intOf]; omega
   ·have ke : (E == 0) = false := by simpa using e0
    go_wp2_with fail
    refine C.mono ?_
    rintro e w1 ⟨rfl, hb1⟩
    go_wp2
    go_ret
    refine ⟨?_, hbw.trans (hb1.mono hbw.size)⟩
    rw [fstE_at HJ.out hkl HE.out e0]
    rfl
  ·obtain rfl : k = es.length := by omega
   go_wp2
   go_ret
   refine ⟨?_, hbw⟩
   rw [fstE_no HJ.out]
   rfl
def unl (b : Bool) (E : Int) : Int := if b = true then 0 else E
set_option maxHeartbeats 400000 in
theorem unless1_any (w : World) (B1 B2 : Nat) (E : Int) (v : Value) (b : Bool) (h1 : w.cell? ⟨B1, 0, none⟩ = some v) (h2 : w.cell? ⟨B2, 0, none⟩ = some (.int .i64 E)) (h : TriB w v b) :
  Calls Tryz.prog 134 #[.pointer (some ⟨B1, 0, none⟩), .pointer (some ⟨B2, 0, none⟩)] w fun e w' => e = .returned (.int .i64 (unl b E)) ∧ Below w.heap.size w w' := by
 have l2 := clt h2
 dsimp only at l2
 obtain ⟨kf, bs, rfl, eg, hC⟩ := h
 have C := hC w (Below.refl _ _)
 unfold Ent at eg
 have H2 : Hid _ := h2
 clear hC h2
 cases b with
 | true =>
  go_enter Tryz.func134, Tryz.ntmps134
  go_wp2_with fail
  refine C.mono ?_
  rintro e w1 ⟨rfl, hb1⟩
  go_wp2
  go_ret
  exact ⟨rfl, hb1⟩
 | false =>
  go_enter Tryz.func134, Tryz.ntmps134
  go_wp2_with fail
  refine C.mono ?_
  rintro e w1 ⟨rfl, hb1⟩
  have x2 := (hb1.cell (p := ⟨B2, 0, none⟩) l2).trans H2.out
  go_wp2
  go_ret
  exact ⟨rfl, hb1⟩
theorem ent_unless1 : Ent 134 := enters_of Tryz.func134 (by kernel_rfl) rfl
theorem unless_any (w : World) (E : Int) (v : Value) (b : Bool) (h : TriB w v b) :
  Calls Tryz.prog 93 #[.int .i64 E, v] w fun e w' => ∃ u, e = .returned u ∧ Tri w' u (unl b E) ∧ Below w.heap.size w w' ∧ u.oneCell' = true := by
 have hb0 : Below w.heap.size w ((w.alloc (.cells #[.int .i64 E] 30)).alloc (.cells #[v] 28)) := ((Below.refl _ w).alloc (Nat.le_refl _) _).alloc (by simp) _
 have HB0 : Hid _ := hb0
 have hT : Hid (Tri ((w.alloc (.cells #[.int .i64 E] 30)).alloc (.cells #[v] 28)) (.func (.func 134) #[] #[.pointer (some ⟨w.heap.size + 1, 0, none⟩), .pointer (some ⟨w.heap.size, 0, none⟩)]) (unl b E)) := by
  refine ⟨_, _, rfl, ent_unless1, fun W hW => unless1_any W _ _ E v b ?_ ?_ (h.below (hb0.trans (hW.mono hb0.size)))⟩
  ·rw [hW.cell (p := ⟨w.heap.size + 1, 0, none⟩) (by simp), show w.heap.size + 1 = (w.alloc (.cells #[.int .i64 E] 30)).heap.size by simp, World.cell?_alloc_new]; rfl
  ·rw [hW.cell (p := ⟨w.heap.size, 0, none⟩) (by simp; omega), World.cell?_alloc_lt _ _ _ (by simp), World.cell?_alloc_new]; rfl
 obtain ⟨kf, bs, rfl, eg, hC⟩ := h
 clear hC eg hb0
 go_enter Tryz.func93, Tryz.ntmps93
 go_wp2
 go_ret
 exact ⟨_, rfl, hT.out, HB0.out, rfl⟩
end Go.Proofs.YtiaopafkfadmkaaGreat
namespace Go.Proofs.YtiaopafkfadmkaaGreat
open Go.RowKit Go.Shelf
def wi (n a b : Int) : Bool := decide (a ≤ n ∧ n ≤ b)
set_option maxHeartbeats 400000 in
theorem within_any (n a b : Int) (w : World) :
  Calls Tryz.prog 95 #[.int .i64 n, .int .i64 a, .int .i64 b] w fun e w' => e = .returned (.bool (wi n a b)) ∧ w = w' := by
 by_cases h : a ≤ n
 ·by_cases g : n ≤ b
  ·rw [show wi n a b = true from decide_eq_true ⟨h, g⟩]
   go_enter Tryz.func95, Tryz.ntmps95
   go_wp2
   go_ret
   exact ⟨rfl, rfl⟩
  ·rw [show wi n a b = false from decide_eq_false (fun x => g x.2)]
   go_enter Tryz.func95, Tryz.ntmps95
   go_wp2
   go_ret
   exact ⟨rfl, rfl⟩
 ·rw [show wi n a b = false from decide_eq_false (fun x => h x.1)]
  go_enter Tryz.func95, Tryz.ntmps95
  go_wp2
  go_ret
  exact ⟨rfl, rfl⟩
theorem wi_inB (n m : Int) : wi n 0 (m - 1) = inB n m := by
 unfold wi inB
 congr 1
 apply propext
 omega
set_option maxHeartbeats 400000 in
theorem isclass_any (n : Int) (m : Nat) (hm : m ≤ 1000) (w : World) :
  Calls Tryz.prog 172 #[.int .i64 n, .int .i64 (m : Int)] w fun e w' => e = .returned (.bool (inB n m)) ∧ w = w' := by
 have C := fun W => within_any n 0 ((m : Int) - 1) W
 rw [wi_inB] at C
 go_enter Tryz.func172, Tryz.ntmps172
 go_wp2_with (go_at_call 95; refine (C _).mono ?_; rintro e w' ⟨rfl, rfl⟩)
 go_ret
 exact ⟨rfl, rfl⟩
def okC (l : List Int) (m : Nat) (i : Nat) : Bool := inB (nthI l i) m && (decide (i = 0) || decide (nthI l (i - 1) < nthI l i))
def cls (l : List Int) (m : Nat) : Bool := (List.range l.length).all (okC l m)
theorem cls_no {l : List Int} {m k : Nat} (hk : k < l.length) (h : okC l m k = false) : cls l m = false := by
 unfold cls
 rw [List.all_eq_false]
 exact ⟨k, by simpa using hk, by rw [h]; decide⟩
theorem cls_yes {l : List Int} {m : Nat} (h : ∀ i, i < l.length → okC l m i = true) : cls l m = true := by
 unfold cls
 rw [List.all_eq_true]
 exact fun i hi => h i (by simpa using hi)
set_option maxHeartbeats 1000000 in
theorem areclasses_any (w : World) (n0 : Nat) (a : Option Addr) (c : Nat) (l : List Int) (m : Nat) (h : RdI w n0 a l) (hl : l.length ≤ 1000) (hm : m ≤ 1000) :
  Calls Tryz.prog 141 #[.slice a l.length c, .int .i64 (m : Int)] w fun e w' => e = .returned (.bool (cls l m)) ∧ w = w' := by
 have HRD : Hid _ := h
 clear h
 go_enter Tryz.func141, Tryz.ntmps141
 go_wp2_with fail
 go_loopw [9] (fun s9 wr => ∃ k : Nat, k ≤ l.length ∧ s9 = .int .i64 k ∧ Hid (∀ i, i < k → okC l m i = true) ∧ wr = w) (fun s9 _ => l.length - (intOf s9).toNat)
 case atStart => exact ⟨0, Nat.zero_le _, rfl, (fun i hi => absurd hi (Nat.not_lt_zero _) : ∀ i, i < 0 → okC l m i = true), rfl⟩
 case round =>
  obtain ⟨k, hk, rfl, HJ, rfl⟩ := hrel
  by_cases hkl : k < l.length
  ·have hk' : (k : Int) < (l.length : Int) := by omega
   obtain ⟨b, off, rfl, hb, hc⟩ := HRD.out (by intro e; simp [e] at hkl)
   have x0 := hc k hkl
   obtain ⟨x, hx⟩ : ∃ x, nthI l k = x := ⟨_, rfl⟩
   rw [hx] at x0
   have HC : Hid _ := hc
   clear hc
   have C := isclass_any x m hm
   have HX : Hid _ := hx
   have HOK : Hid (∀ y z, inB x m = y → (decide (k = 0) || decide (nthI l (k - 1) < x)) = z → okC l m k = (y && z)) := by
    show ∀ y z, _ → _ → _
    intro y z h1 h2
    unfold okC
    rw [hx, h1, h2]
   clear hx
   cases hy : inB x m with
   | false =>
    have HY : Hid _ := hy
    go_wp2_with (go_at_call 172; refine (C _).mono ?_; rintro e w' ⟨rfl, rfl⟩)
    go_ret
    refine ⟨?_, rfl⟩
    rw [cls_no hkl (by rw [HOK.out _ _ HY.out rfl]; rfl)]
    rfl
   | true =>
    have HY : Hid _ := hy
    cases k with
    | zero =>
     rw [Nat.add_zero] at x0
     go_wp2_with (go_at_call 172; refine (C _).mono ?_; rintro e w' ⟨rfl, rfl⟩)
     go_roundw
     case rel =>
      refine ⟨0 + 1, by omega, by go_num, ?_, by first | rfl | trivial⟩
      refine (fun i hi => ?_ : ∀ i, i < 0 + 1 → okC l m i = true)
      obtain rfl : i = 0 := by omega
      rw [HOK.out _ _ HY.out rfl]
      rfl
     case measure => simp [intOf]; omega
    | succ j =>
     have x1 := HC.out j (by omega)
     obtain ⟨p, hp⟩ : ∃ p, nthI l j = p := ⟨_, rfl⟩
     rw [hp] at x1
     have HP : Hid _ := hp
     clear hp
     have hj1 : ((j + 1 : Nat) : Int) - 1 = (j : Int) := by omega
     have hj2 : (0 : Int) < ((j + 1 : Nat) : Int) := by omega
     have hj3 : (j : Int) < (l.length : Int) := by omega
     by_cases hq : x ≤ p
     ·go_wp2_with (go_at_call 172; refine (C _).mono ?_; rintro e w' ⟨rfl, rfl⟩)
      go_ret
      refine ⟨?_, rfl⟩
      rw [cls_no hkl (by rw [HOK.out _ false HY.out (by simp [HP.out]; omega)]; rfl)]
      rfl
     ·go_wp2_with (go_at_call 172; refine (C _).mono ?_; rintro e w' ⟨rfl, rfl⟩)
      go_roundw
      case rel =>
       refine ⟨j + 1 + 1, by omega, by go_num, ?_, by first | rfl | trivial⟩
       refine (fun i hi => ?_ : ∀ i, i < j + 1 + 1 → okC l m i = true)
       by_cases e : i = j + 1
       ·rw [e, HOK.out _ true HY.out (by simp [HP.out]; omega)]; rfl
       ·exact HJ.out i (by omega)
      case measure => simp [intOf]; omega
  ·obtain rfl : k = l.length := by omega
   go_wp2
   go_ret
   refine ⟨?_, rfl⟩
   rw [cls_yes HJ.out]
   rfl
set_option maxHeartbeats 1000000 in
theorem index_any (w : World) (n0 : Nat) (a : Option Addr) (c : Nat) (zs : List Int) (v : Int) (h : RdI w n0 a zs) (hl : zs.length ≤ 1000) :
  Calls Tryz.prog 187 #[.slice a zs.length c, .int .i64 v] w fun e w' => ∃ r : Int, e = .returned (.int .i64 r) ∧ decide (0 ≤ r) = decide (v ∈ zs) ∧ w = w' := by
 have HRD : Hid _ := h
 clear h
 go_enter Tryz.func187, Tryz.ntmps187
 go_wp2_with fail
 go_loopw [8] (fun si wr => wr = w ∧ ∃ k : Nat, k ≤ zs.length ∧ si = .int .i64 k ∧ Hid (∀ j, j < k → nthI zs j ≠ v)) (fun si _ => zs.length - (intOf si).toNat)
 case atStart => exact ⟨rfl, 0, Nat.zero_le _, rfl, (fun j hj => absurd hj (Nat.not_lt_zero _) : ∀ j, j < 0 → nthI zs j ≠ v)⟩
 case round =>
  obtain ⟨rfl, k, hk, rfl, HJ⟩ := hrel
  by_cases hkl : k < zs.length
  ·have hk' : (k : Int) < (zs.length : Int) := by omega
   obtain ⟨b, off, rfl, hb, hc⟩ := HRD.out (by intro e; simp [e] at hkl)
   have x0 := hc k hkl
   clear hc
   obtain ⟨x, hx⟩ : ∃ x, nthI zs k = x := ⟨_, rfl⟩
   rw [hx] at x0
   have HX : Hid _ := hx
   clear hx
   by_cases t0 : x = v
   ·subst t0
    go_wp2
    go_ret
    refine ⟨_, rfl, ?_, rfl⟩
    rw [decide_eq_true ((mem_nth zs x).2 ⟨k, hkl, HX.out⟩)]
    simp
   ·have hd0 : (v == x) = false := by simpa using fun e => t0 e.symm
    go_wp2
    go_roundw
    case rel =>
     refine ⟨by first | rfl | trivial, k + 1, by omega, by go_num, ?_⟩
     refine (fun j hj => ?_ : ∀ j, j < k + 1 → nthI zs j ≠ v)
     by_cases e : j = k
     ·rw [e, HX.out]; exact t0
     ·exact HJ.out j (by omega)
    case measure => simp [intOf]; omega
  ·obtain rfl : k = zs.length := by omega
   go_wp2
   go_ret
   refine ⟨_, rfl, ?_, rfl⟩
   rw [decide_eq_false (p := v ∈ zs) (fun g => by obtain ⟨j, hj, e⟩ := (mem_nth zs v).1 g; exact HJ.out j hj e)]
   rfl
theorem contains_any (w : World) (n0 : Nat) (a : Option Addr) (c : Nat) (zs : List Int) (v : Int) (h : RdI w n0 a zs) (hl : zs.length ≤ 1000) :
  Calls Tryz.prog 160 #[.slice a zs.length c, .int .i64 v] w fun e w' => e = .returned (.bool (decide (v ∈ zs))) ∧ w = w' := by
 have I := index_any w n0 a c zs v h hl
 obtain ⟨B, hB⟩ : ∃ B, decide (v ∈ zs) = B := ⟨_, rfl⟩
 rw [hB] at I ⊢
 clear hB h
 go_enter Tryz.func160, Tryz.ntmps160
 go_wp2_with (go_at_call 187; refine I.mono ?_; rintro e w' ⟨r, rfl, hr, rfl⟩; have HR : Hid _ := hr; clear hr I)
 go_ret
 refine ⟨?_, rfl⟩
 have e := HR.out
 simp [e, Array.getD]
end Go.Proofs.YtiaopafkfadmkaaGreat
namespace Go.Proofs.YtiaopafkfadmkaaGreat
open Go.RowKit Go.Shelf
structure Fd where
 kd : Int
 lk : Int
 st : Int
 ra : Option Addr
 rc : Nat
 rs : List Rl
 pa : Option Addr
 pc : Nat
 ps : List Int
 sa : Option Addr
 sc : Nat
 ss : List Int
 ia : Option Addr
 ic : Nat
 is : List O
def zeroF : Fd := ⟨0, 0, 0, none, 0, [], none, 0, [], none, 0, [], none, 0, []⟩
def encF (f : Fd) : List Value := [.int .i64 f.kd, .int .i64 f.lk, .int .i64 f.st, .slice f.ra f.rs.length f.rc, .slice f.pa f.ps.length f.pc, .slice f.sa f.ss.length f.sc, .slice f.ia f.is.length f.ic]
abbrev fv (f : Fd) : Value := .agg #[.int .i64 f.kd, .int .i64 f.lk, .int .i64 f.st, .slice f.ra f.rs.length f.rc, .slice f.pa f.ps.length f.pc, .slice f.sa f.ss.length f.sc, .slice f.ia f.is.length f.ic]
abbrev fcs (f : Fd) : Array Value := #[.int .i64 f.kd, .int .i64 f.lk, .int .i64 f.st, .slice f.ra f.rs.length f.rc, .slice f.pa f.ps.length f.pc, .slice f.sa f.ss.length f.sc, .slice f.ia f.is.length f.ic]
def nthF (l : List Fd) (i : Nat) : Fd := l.getD i zeroF
theorem memF (l : List Fd) (x : Fd) : x ∈ l ↔ ∃ i, i < l.length ∧ nthF l i = x := by
 rw [List.mem_iff_getElem]
 constructor
 ·rintro ⟨i, hi, rfl⟩; exact ⟨i, hi, by simp [nthF, hi]⟩
 ·rintro ⟨i, hi, rfl⟩; exact ⟨i, hi, by simp [nthF, hi]⟩
theorem nthF_mem {l : List Fd} {i : Nat} (h : i < l.length) : nthF l i ∈ l := (memF l _).2 ⟨i, h, rfl⟩
structure okF (w : World) (f : Fd) : Prop where
 r : RdR w f.ra f.rs
 p : RdI w w.heap.size f.pa f.ps
 s : RdI w w.heap.size f.sa f.ss
 i : RdO w f.ia f.is
theorem RdI.belo {w W : World} {a : Option Addr} {zs : List Int} (h : RdI w w.heap.size a zs) (hb : Below w.heap.size w W) : RdI W W.heap.size a zs := h.go (Nat.le_refl _) hb
theorem okF.below {w W : World} {f : Fd} (h : okF w f) (hb : Below w.heap.size w W) : okF W f := ⟨h.r.below hb, h.p.belo hb, h.s.belo hb, h.i.below hb⟩
structure LtF (f : Fd) : Prop where
 r : Lt f.rs
 p : f.ps.length ≤ 50
 s : f.ss.length ≤ 50
 i : f.is.length ≤ 20
def RdF (w : World) (a : Option Addr) (l : List Fd) : Prop :=
 (l ≠ [] → ∃ b off, a = some ⟨b, off, none⟩ ∧ b < w.heap.size ∧ ∀ i, i < l.length → ∀ c, c < 7 → w.cell? ⟨b, off + i * 7 + c, none⟩ = (encF (nthF l i))[c]?) ∧ ∀ f ∈ l, okF w f
theorem RdF.below {w w' : World} {a : Option Addr} {l : List Fd} (h : RdF w a l) (hb : Below w.heap.size w w') : RdF w' a l := by
 refine ⟨fun g => ?_, fun f hf => (h.2 f hf).below hb⟩
 obtain ⟨b, off, rfl, hB, hc⟩ := h.1 g
 exact ⟨b, off, rfl, Nat.lt_of_lt_of_le hB hb.size, fun i hi c hc4 => (hb.cell (p := ⟨b, off + i * 7 + c, none⟩) hB).trans (hc i hi c hc4)⟩
theorem RdF.cells {w : World} {a : Option Addr} {l : List Fd} (h : RdF w a l) {i : Nat} (hi : i < l.length) {f : Fd} (hx : nthF l i = f) :
  ∃ b off, a = some ⟨b, off, none⟩ ∧ b < w.heap.size ∧ w.cell? ⟨b, off + i * 7, none⟩ = some (.int .i64 f.kd) ∧ w.cell? ⟨b, off + i * 7 + 1, none⟩ = some (.int .i64 f.lk) ∧ w.cell? ⟨b, off + i * 7 + 2, none⟩ = some (.int .i64 f.st) ∧ w.cell? ⟨b, off + i * 7 + 3, none⟩ = some (.slice f.ra f.rs.length f.rc) ∧ w.cell? ⟨b, off + i * 7 + 4, none⟩ = some (.slice f.pa f.ps.length f.pc) ∧ w.cell? ⟨b, off + i * 7 + 5, none⟩ = some (.slice f.sa f.ss.length f.sc) ∧ w.cell? ⟨b, off + i * 7 + 6, none⟩ = some (.slice f.ia f.is.length f.ic) := by
 obtain ⟨b, off, rfl, hB, hc⟩ := h.1 (by intro e; simp [e] at hi)
 subst hx
 exact ⟨b, off, rfl, hB, hc i hi 0 (by omega), hc i hi 1 (by omega), hc i hi 2 (by omega), hc i hi 3 (by omega), hc i hi 4 (by omega), hc i hi 5 (by omega), hc i hi 6 (by omega)⟩
theorem RdF.at {w : World} {a : Option Addr} {l : List Fd} (h : RdF w a l) {i : Nat} (hi : i < l.length) {f : Fd} (hx : nthF l i = f) : okF w f := h.2 f (hx ▸ nthF_mem hi)
structure Wd where
 pa : Option Addr
 pc : Nat
 ps : List Int
 fa : Option Addr
 fc : Nat
 fs : List Fd
 en : Int
abbrev wv (d : Wd) : Value := .agg #[.slice d.pa d.ps.length d.pc, .slice d.fa d.fs.length d.fc, .int .i64 d.en]
structure Ww (w : World) (d : Wd) : Prop where
 p : RdI w w.heap.size d.pa d.ps
 f : RdF w d.fa d.fs
 pl : d.ps.length ≤ 50
 fl : d.fs.length ≤ 20
 lt : ∀ f ∈ d.fs, LtF f
theorem Ww.below {w W : World} {d : Wd} (h : Ww w d) (hb : Below w.heap.size w W) : Ww W d := ⟨h.p.belo hb, h.f.below hb, h.pl, h.fl, h.lt⟩
def sndE (ps : List Int) (lk : Int) (o : O) : Int := fstE [unl (decide (o.1 ∈ ps)) 81, unl (decide (lk ≤ o.2.1)) 80]
def sndsE (ps : List Int) (lk : Int) (os : List O) : Int := fstE (os.map (sndE ps lk))
def rulE (ps : List Int) (lk : Int) (m : Nat) (r : Rl) : Int := fstE [unl (inB r.cl m) 81, sndsE ps lk r.os]
def rulsE (ps : List Int) (lk : Int) (m : Nat) (rs : List Rl) : Int := fstE (rs.map (rulE ps lk m))
def okI (ps : List Int) (o : O) : Bool := decide (o.1 ∈ ps) && (wi o.2.1 0 1099511627776 && wi o.2.2 0 999)
def iniB (ps : List Int) (is : List O) : Bool := decide (is.length ≤ 4) && is.all (okI ps)
def fedE (f : Fd) (m : Nat) : Int := fstE [unl (wi f.kd 0 1) 1, unl (wi f.lk 1 1048576) 80, unl (wi f.st 0 7) 70, chkE f.rs, unl (cls f.ps m && cls f.ss m) 81, rulsE f.ps f.lk m f.rs, unl (iniB f.ps f.is) 82]
def allE (d : Wd) : Int := fstE [chk d.ps, unl (wi d.en 0 1099511627776 && wi d.fs.length 1 8) 1]
def fedsE (m : Nat) : Nat → List Fd → Int × Int
 | _, [] => (-1, 0)
 | i, f :: r => if fedE f m = 0 then fedsE m (i + 1) r else ((i : Int), fedE f m)
def wldE (d : Wd) : Int × Int := if allE d = 0 then fedsE d.ps.length 0 d.fs else (-1, allE d)
theorem fedsE_at {m : Nat} {l : List Fd} {k : Nat} {e : Int} (j : Nat) (h : ∀ i, i < k → fedE (nthF l i) m = 0) (hk : k < l.length) (he : fedE (nthF l k) m = e) (h0 : e ≠ 0) : fedsE m j l = (((j + k : Nat) : Int), e) := by
 induction l generalizing k j with
 | nil => simp at hk
 | cons x r ih =>
  cases k with
  | zero =>
   have : fedE x m = e := by simpa [nthF] using he
   simp [fedsE, this, h0]
  | succ k =>
   have h1 : fedE x m = 0 := by simpa [nthF] using h 0 (by omega)
   simp only [fedsE, h1, if_true]
   rw [ih (k := k) (j + 1) (fun i hi => by have := h (i + 1) (by omega); simpa [nthF] using this) (by simpa using hk) (by simpa [nthF] using he)]
   congr 2
   omega
theorem fedsE_no {m : Nat} {l : List Fd} (j : Nat) (h : ∀ i, i < l.length → fedE (nthF l i) m = 0) : fedsE m j l = (-1, 0) := by
 induction l generalizing j with
 | nil => rfl
 | cons x r ih =>
  have h1 : fedE x m = 0 := by simpa [nthF] using h 0 (by simp)
  simp only [fedsE, h1, if_true]
  exact ih (j + 1) (fun i hi => by have := h (i + 1) (by simpa using hi); simpa [nthF] using this)
end Go.Proofs.YtiaopafkfadmkaaGreat
namespace Go.Proofs.YtiaopafkfadmkaaGreat
open Go.RowKit Go.Shelf
structure BoxF (w : World) (B : Nat) (f : Fd) : Prop where
 c0 : w.cell? ⟨B, 0, none⟩ = some (.int .i64 f.kd)
 c1 : w.cell? ⟨B, 1, none⟩ = some (.int .i64 f.lk)
 c2 : w.cell? ⟨B, 2, none⟩ = some (.int .i64 f.st)
 c3 : w.cell? ⟨B, 3, none⟩ = some (.slice f.ra f.rs.length f.rc)
 c4 : w.cell? ⟨B, 4, none⟩ = some (.slice f.pa f.ps.length f.pc)
 c5 : w.cell? ⟨B, 5, none⟩ = some (.slice f.sa f.ss.length f.sc)
 c6 : w.cell? ⟨B, 6, none⟩ = some (.slice f.ia f.is.length f.ic)
 ok : okF w f
 lt : LtF f
theorem BoxF.below {w W : World} {B : Nat} {f : Fd} (h : BoxF w B f) (hb : Below w.heap.size w W) : BoxF W B f := by
 have l := clt h.c0
 exact ⟨(hb.cell (p := ⟨B, 0, none⟩) l).trans h.c0, (hb.cell (p := ⟨B, 1, none⟩) l).trans h.c1, (hb.cell (p := ⟨B, 2, none⟩) l).trans h.c2, (hb.cell (p := ⟨B, 3, none⟩) l).trans h.c3, (hb.cell (p := ⟨B, 4, none⟩) l).trans h.c4, (hb.cell (p := ⟨B, 5, none⟩) l).trans h.c5, (hb.cell (p := ⟨B, 6, none⟩) l).trans h.c6, h.ok.below hb, h.lt⟩
theorem BoxF.new {w : World} {f : Fd} (h : okF w f) (hl : LtF f) : BoxF (w.alloc (.cells (fcs f) 77)) w.heap.size f := by
 have hb : Below w.heap.size w (w.alloc (.cells (fcs f) 77)) := (Below.refl _ w).alloc (Nat.le_refl _) _
 refine ⟨?_, ?_, ?_, ?_, ?_, ?_, ?_, h.below hb, hl⟩ <;> (rw [World.cell?_alloc_new]; rfl)
structure BoxO (w : World) (B : Nat) (o : O) : Prop where
 c0 : w.cell? ⟨B, 0, none⟩ = some (.int .i64 o.1)
 c1 : w.cell? ⟨B, 1, none⟩ = some (.int .i64 o.2.1)
 c2 : w.cell? ⟨B, 2, none⟩ = some (.int .i64 o.2.2)
theorem BoxO.below {w W : World} {B : Nat} {o : O} (h : BoxO w B o) (hb : Below w.heap.size w W) : BoxO W B o := by
 have l := clt h.c0
 exact ⟨(hb.cell (p := ⟨B, 0, none⟩) l).trans h.c0, (hb.cell (p := ⟨B, 1, none⟩) l).trans h.c1, (hb.cell (p := ⟨B, 2, none⟩) l).trans h.c2⟩
theorem BoxO.new (w : World) (o : O) : BoxO (w.alloc (.cells #[.int .i64 o.1, .int .i64 o.2.1, .int .i64 o.2.2] 147)) w.heap.size o := by
 refine ⟨?_, ?_, ?_⟩ <;> (rw [World.cell?_alloc_new]; rfl)
theorem unless_tri (w : World) (E : Int) (v : Value) (b : Bool) (h : TriB w v b) :
  Calls Tryz.prog 93 #[.int .i64 E, v] w fun e w' => ∃ k bs, e = .returned (.func (.func k) #[] bs) ∧ Tri w' (.func (.func k) #[] bs) (unl b E) ∧ Below w.heap.size w w' := by
 refine (unless_any w E v b h).mono ?_
 rintro e w' ⟨u, rfl, hT, hb, _⟩
 obtain ⟨k, bs, rfl, h1, h2⟩ := hT
 exact ⟨k, bs, rfl, ⟨k, bs, rfl, h1, h2⟩, hb⟩
theorem rdT2 {w : World} {v1 v2 : Value} {e1 e2 : Int} (h1 : Tri w v1 e1) (h2 : Tri w v2 e2) : RdT (w.alloc (.cells #[v1, v2] 154)) (some ⟨w.heap.size, 0, none⟩) [e1, e2] := fun _ => by
 have hb : Below w.heap.size w (w.alloc (.cells #[v1, v2] 154)) := (Below.refl _ w).alloc (Nat.le_refl _) _
 refine ⟨w.heap.size, 0, rfl, by simp, fun i hi => ?_⟩
 have hi2 : i < 2 := by simpa using hi
 rcases (by omega : i = 0 ∨ i = 1) with rfl | rfl
 ·exact ⟨v1, by rw [World.cell?_alloc_new]; rfl, h1.below hb⟩
 ·exact ⟨v2, by rw [World.cell?_alloc_new]; rfl, h2.below hb⟩
theorem first2 {w : World} {v1 v2 : Value} {e1 e2 : Int} (h1 : Tri w v1 e1) (h2 : Tri w v2 e2) :
  Calls Tryz.prog 90 #[.slice (some ⟨w.heap.size, 0, none⟩) 2 2] (w.alloc (.cells #[v1, v2] 154)) fun e w' => e = .returned (.int .i64 (fstE [e1, e2])) ∧ Below w.heap.size w w' := by
 have hb : Below w.heap.size w (w.alloc (.cells #[v1, v2] 154)) := (Below.refl _ w).alloc (Nat.le_refl _) _
 exact (first_any _ _ 2 [e1, e2] (rdT2 h1 h2) (by simp)).mono (fun e w' g => ⟨g.1, hb.trans (g.2.mono hb.size)⟩)
theorem sends1_any (w : World) (B1 B2 : Nat) (f : Fd) (o : O) (h1 : BoxF w B1 f) (h2 : BoxO w B2 o) :
  Calls Tryz.prog 196 #[.pointer (some ⟨B1, 0, none⟩), .pointer (some ⟨B2, 0, none⟩)] w fun e w' => e = .returned (.bool (decide (o.1 ∈ f.ps))) ∧ Below w.heap.size w w' := by
 have C := contains_any w w.heap.size f.pa f.pc f.ps o.1 h1.ok.p (by have := h1.lt.p; omega)
 have x4 := h1.c4
 have y0 := h2.c0
 obtain ⟨B, hB⟩ : ∃ B, decide (o.1 ∈ f.ps) = B := ⟨_, rfl⟩
 rw [hB] at C ⊢
 clear h1 h2 hB
 go_enter Tryz.func196, Tryz.ntmps196
 go_wp2_with (go_at_call 160; refine C.mono ?_; rintro e w' ⟨rfl, rfl⟩)
 go_ret
 exact ⟨rfl, Below.refl _ _⟩
theorem sends2_any (w : World) (B1 B2 : Nat) (f : Fd) (o : O) (h1 : BoxF w B1 f) (h2 : BoxO w B2 o) :
  Calls Tryz.prog 197 #[.pointer (some ⟨B2, 0, none⟩), .pointer (some ⟨B1, 0, none⟩)] w fun e w' => e = .returned (.bool (decide (f.lk ≤ o.2.1))) ∧ Below w.heap.size w w' := by
 have x1 := h1.c1
 have y1 := h2.c1
 clear h1 h2
 go_enter Tryz.func197, Tryz.ntmps197
 go_wp2
 go_ret
 exact ⟨rfl, Below.refl _ _⟩
theorem tri_s1 {w : World} {B1 B2 : Nat} {f : Fd} {o : O} (h1 : BoxF w B1 f) (h2 : BoxO w B2 o) : TriB w (.func (.func 196) #[] #[.pointer (some ⟨B1, 0, none⟩), .pointer (some ⟨B2, 0, none⟩)]) (decide (o.1 ∈ f.ps)) :=
 ⟨_, _, rfl, enters_of Tryz.func196 (by kernel_rfl) rfl, fun W hW => sends1_any W B1 B2 f o (h1.below hW) (h2.below hW)⟩
theorem tri_s2 {w : World} {B1 B2 : Nat} {f : Fd} {o : O} (h1 : BoxF w B1 f) (h2 : BoxO w B2 o) : TriB w (.func (.func 197) #[] #[.pointer (some ⟨B2, 0, none⟩), .pointer (some ⟨B1, 0, none⟩)]) (decide (f.lk ≤ o.2.1)) :=
 ⟨_, _, rfl, enters_of Tryz.func197 (by kernel_rfl) rfl, fun W hW => sends2_any W B1 B2 f o (h1.below hW) (h2.below hW)⟩
theorem nth_mapO (g : O → Int) (l : List O) {i : Nat} (h : i < l.length) : nthI (l.map g) i = g (nthO l i) := by simp [nthI, nthO, h]
theorem nth_mapR (g : Rl → Int) (l : List Rl) {i : Nat} (h : i < l.length) : nthI (l.map g) i = g (nthR l i) := by simp [nthI, nthR, h]
theorem sndsE_at {ps : List Int} {lk : Int} {os : List O} {k : Nat} {e : Int} (h : ∀ i, i < k → sndE ps lk (nthO os i) = 0) (hk : k < os.length) (he : sndE ps lk (nthO os k) = e) (h0 : e ≠ 0) : sndsE ps lk os = e :=
 fstE_at (k := k) (fun i hi => by rw [nth_mapO _ _ (by omega)]; exact h i hi) (by simpa using hk) (by rw [nth_mapO _ _ hk]; exact he) h0
theorem sndsE_no {ps : List Int} {lk : Int} {os : List O} (h : ∀ i, i < os.length → sndE ps lk (nthO os i) = 0) : sndsE ps lk os = 0 :=
 fstE_no (fun i hi => by have hi' : i < os.length := (by simpa using hi); rw [nth_mapO _ _ hi']; exact h i hi')
theorem rulsE_at {ps : List Int} {lk : Int} {m : Nat} {rs : List Rl} {k : Nat} {e : Int} (h : ∀ i, i < k → rulE ps lk m (nthR rs i) = 0) (hk : k < rs.length) (he : rulE ps lk m (nthR rs k) = e) (h0 : e ≠ 0) : rulsE ps lk m rs = e :=
 fstE_at (k := k) (fun i hi => by rw [nth_mapR _ _ (by omega)]; exact h i hi) (by simpa using hk) (by rw [nth_mapR _ _ hk]; exact he) h0
theorem rulsE_no {ps : List Int} {lk : Int} {m : Nat} {rs : List Rl} (h : ∀ i, i < rs.length → rulE ps lk m (nthR rs i) = 0) : rulsE ps lk m rs = 0 :=
 fstE_no (fun i hi => by have hi' : i < rs.length := (by simpa using hi); rw [nth_mapR _ _ hi']; exact h i hi')
set_option maxHeartbeats 1000000 in
theorem sends_any (w : World) (f : Fd) (a : Option Addr) (c : Nat) (os : List O) (h : okF w f) (hl : LtF f) (hs : RdO w a os) (hsl : os.length ≤ 1000) :
  Calls Tryz.prog 175 #[fv f, .slice a os.length c] w fun e w' => e = .returned (.int .i64 (sndsE f.ps f.lk os)) ∧ Below w.heap.size w w' := by
 obtain ⟨W0, hW0⟩ : ∃ W0, W0 = w.alloc (.cells (fcs f) 77) := ⟨_, rfl⟩
 have hb0 : Hid (Below w.heap.size w W0) := by rw [hW0]; exact (Below.refl _ w).alloc (Nat.le_refl _) _
 have HBX : Hid (BoxF W0 w.heap.size f) := by rw [hW0]; exact BoxF.new h hl
 have HS : Hid (RdO W0 a os) := hs.below hb0.out
 obtain ⟨B, hB⟩ : ∃ B, w.heap.size = B := ⟨_, rfl⟩
 have HW0 : Hid _ := hW0
 simp only [hB] at HBX
 have HBE : Hid _ := hB
 clear h hl hs hW0
 dsimp only [fv]
 go_enter Tryz.func175, Tryz.ntmps175
 go_wp2_with fail
 dsimp only [fcs] at HW0
 rw [← HW0.out]
 clear hB
 go_loopw [10] (fun s10 wr => ∃ k : Nat, k ≤ os.length ∧ s10 = .int .i64 k ∧ Hid (∀ i, i < k → sndE f.ps f.lk (nthO os i) = 0) ∧ Below W0.heap.size W0 wr) (fun s10 _ => os.length - (intOf s10).toNat)
 case atStart => exact ⟨0, Nat.zero_le _, rfl, (fun i hi => absurd hi (Nat.not_lt_zero _) : ∀ i, i < 0 → sndE f.ps f.lk (nthO os i) = 0), Below.refl _ _⟩
 case round =>
  obtain ⟨k, hk, rfl, HJ, hbw⟩ := hrel
  by_cases hkl : k < os.length
  ·have hk' : (k : Int) < (os.length : Int) := by omega
   obtain ⟨o, ho⟩ : ∃ o, nthO os k = o := ⟨_, rfl⟩
   obtain ⟨b, off, rfl, hbb, x0, x1, x2⟩ := (RdO.below HS.out hbw).cells hkl ho
   have HRE : Hid _ := ho
   clear ho
   have hb1 : Below wr.heap.size wr (wr.alloc (.cells #[.int .i64 o.1, .int .i64 o.2.1, .int .i64 o.2.2] 147)) := (Below.refl _ wr).alloc (Nat.le_refl _) _
   have HF1 : Hid _ := ((HBX.out).below hbw).below hb1
   have HO1 : Hid _ := BoxO.new wr o
   have U1 := unless_tri _ 81 _ _ (tri_s1 HF1.out HO1.out)
   have HB1 : Hid (Below W0.heap.size W0 _) := hbw.trans (hb1.mono hbw.size)
   clear hb1
   go_wp2_with fail
   refine U1.mono ?_
   rintro e w2 ⟨k1, bs1, rfl, hT1, hb2⟩
   have HF2 : Hid _ := (HF1.out).below hb2
   have HO2 : Hid _ := (HO1.out).below hb2
   have U2 := unless_tri w2 80 _ _ (tri_s2 HF2.out HO2.out)
   have HB2 : Hid _ := (HB1.out).trans (hb2.mono (HB1.out).size)
   have HT1 : Hid _ := hT1
   clear hT1 hb2 U1
   go_wp2_with fail
   refine U2.mono ?_
   rintro e w3 ⟨k2, bs2, rfl, hT2, hb3⟩
   have HB3 : Hid _ := (HB2.out).trans (hb3.mono (HB2.out).size)
   have F := first2 (Tri.below HT1.out hb3) hT2
   obtain ⟨E, hE⟩ : ∃ E, sndE f.ps f.lk o = E := ⟨_, rfl⟩
   rw [show fstE [unl (decide (o.1 ∈ f.ps)) 81, unl (decide (f.lk ≤ o.2.1)) 80] = E from hE] at F
   have HE : Hid _ := hE
   clear hT2 hb3 U2 hE
   by_cases e0 : E = 0
   ·subst e0
    go_wp2_with fail
    refine F.mono ?_
    rintro e w4 ⟨rfl, hb4⟩
    have hb5 := (HB3.out).trans (hb4.mono (HB3.out).size)
    clear F
    go_wp2
    go_roundw
    case rel =>
     refine ⟨k + 1, by omega, by go_num, ?_, hb5⟩
     refine (fun i hi => ?_ : ∀ i, i < k + 1 → sndE f.ps f.lk (nthO os i) = 0)
     by_cases e : i = k
     ·rw [e, HRE.out, HE.out]
     ·exact HJ.out i (by omega)
    case measure => simp [intOf]; omega
   ·have ke : (E == 0) = false := by simpa using e0
    go_wp2_with fail
    refine F.mono ?_
    rintro e w4 ⟨rfl, hb4⟩
    have hb5 := (HB3.out).trans (hb4.mono (HB3.out).size)
    clear F
    go_wp2
    go_ret
    refine ⟨?_, (hb0.out).trans (hb5.mono (hb0.out).size)⟩
    rw [sndsE_at HJ.out hkl (by rw [HRE.out]; exact HE.out) e0]
    rfl
  ·obtain rfl : k = os.length := by omega
   go_wp2
   go_ret
   refine ⟨?_, (hb0.out).trans (hbw.mono (hb0.out).size)⟩
   rw [sndsE_no HJ.out]
   rfl
end Go.Proofs.YtiaopafkfadmkaaGreat
namespace Go.Proofs.YtiaopafkfadmkaaGreat
open Go.RowKit Go.Shelf
structure BoxR (w : World) (B : Nat) (r : Rl) : Prop where
 c1 : w.cell? ⟨B, 1, none⟩ = some (.int .i64 r.cl)
 c3 : w.cell? ⟨B, 3, none⟩ = some (.slice r.sa r.os.length r.sc)
 ok : RdO w r.sa r.os
theorem BoxR.below {w W : World} {B : Nat} {r : Rl} (h : BoxR w B r) (hb : Below w.heap.size w W) : BoxR W B r := by
 have l := clt h.c1
 exact ⟨(hb.cell (p := ⟨B, 1, none⟩) l).trans h.c1, (hb.cell (p := ⟨B, 3, none⟩) l).trans h.c3, h.ok.below hb⟩
theorem BoxR.new (w : World) (r : Rl) (h : RdO w r.sa r.os) : BoxR (w.alloc (.cells #[.int .i64 r.st, .int .i64 r.cl, .int .i64 r.nx, .slice r.sa r.os.length r.sc] 86)) w.heap.size r := by
 refine ⟨?_, ?_, h.below ((Below.refl _ w).alloc (Nat.le_refl _) _)⟩ <;> (rw [World.cell?_alloc_new]; rfl)
def BoxN (w : World) (B m : Nat) : Prop := w.cell? ⟨B, 0, none⟩ = some (.int .i64 (m : Int))
theorem BoxN.below {w W : World} {B m : Nat} (h : BoxN w B m) (hb : Below w.heap.size w W) : BoxN W B m := (hb.cell (p := ⟨B, 0, none⟩) (clt h)).trans h
theorem rules1_any (w : World) (B1 B2 m : Nat) (r : Rl) (hm : m ≤ 1000) (h1 : BoxR w B1 r) (h2 : BoxN w B2 m) :
  Calls Tryz.prog 173 #[.pointer (some ⟨B1, 0, none⟩), .pointer (some ⟨B2, 0, none⟩)] w fun e w' => e = .returned (.bool (inB r.cl m)) ∧ Below w.heap.size w w' := by
 have C := isclass_any r.cl m hm
 have x1 := h1.c1
 unfold BoxN at h2
 clear h1
 go_enter Tryz.func173, Tryz.ntmps173
 go_wp2_with (go_at_call 172; refine (C _).mono ?_; rintro e w' ⟨rfl, rfl⟩)
 go_ret
 exact ⟨rfl, Below.refl _ _⟩
theorem rules2_any (w : World) (B1 B2 : Nat) (f : Fd) (r : Rl) (h1 : BoxF w B1 f) (h2 : BoxR w B2 r) (hl : r.os.length ≤ 1000) :
  Calls Tryz.prog 174 #[.pointer (some ⟨B1, 0, none⟩), .pointer (some ⟨B2, 0, none⟩)] w fun e w' => e = .returned (.int .i64 (sndsE f.ps f.lk r.os)) ∧ Below w.heap.size w w' := by
 have C := sends_any w f r.sa r.sc r.os h1.ok h1.lt h2.ok hl
 obtain ⟨E, hE⟩ : ∃ E, sndsE f.ps f.lk r.os = E := ⟨_, rfl⟩
 rw [hE] at C ⊢
 obtain ⟨x0, x1, x2, x3, x4, x5, x6, _, _⟩ := h1
 have y3 := h2.c3
 dsimp only [fv] at C
 clear h2 hE
 go_enter Tryz.func174, Tryz.ntmps174
 go_wp2_with (go_at_call 175; refine C.mono ?_; rintro e w' ⟨rfl, hb⟩)
 go_ret
 exact ⟨rfl, hb⟩
theorem tri_r1 {w : World} {B1 B2 m : Nat} {r : Rl} (hm : m ≤ 1000) (h1 : BoxR w B1 r) (h2 : BoxN w B2 m) : TriB w (.func (.func 173) #[] #[.pointer (some ⟨B1, 0, none⟩), .pointer (some ⟨B2, 0, none⟩)]) (inB r.cl m) :=
 ⟨_, _, rfl, enters_of Tryz.func173 (by kernel_rfl) rfl, fun W hW => rules1_any W B1 B2 m r hm (h1.below hW) (h2.below hW)⟩
theorem tri_r2 {w : World} {B1 B2 : Nat} {f : Fd} {r : Rl} (h1 : BoxF w B1 f) (h2 : BoxR w B2 r) (hl : r.os.length ≤ 1000) : Tri w (.func (.func 174) #[] #[.pointer (some ⟨B1, 0, none⟩), .pointer (some ⟨B2, 0, none⟩)]) (sndsE f.ps f.lk r.os) :=
 ⟨_, _, rfl, enters_of Tryz.func174 (by kernel_rfl) rfl, fun W hW => rules2_any W B1 B2 f r (h1.below hW) (h2.below hW) hl⟩
set_option maxHeartbeats 1000000 in
theorem rules_any (w : World) (f : Fd) (m : Nat) (hm : m ≤ 1000) (h : okF w f) (hl : LtF f) :
  Calls Tryz.prog 143 #[fv f, .int .i64 (m : Int)] w fun e w' => e = .returned (.int .i64 (rulsE f.ps f.lk m f.rs)) ∧ Below w.heap.size w w' := by
 obtain ⟨W0, hW0⟩ : ∃ W0, W0 = (w.alloc (.cells (fcs f) 77)).alloc (.cells #[.int .i64 (m : Int)] 3) := ⟨_, rfl⟩
 have hb0 : Hid (Below w.heap.size w W0) := by rw [hW0]; exact ((Below.refl _ w).alloc (Nat.le_refl _) _).alloc (by simp) _
 have HBX : Hid (BoxF W0 w.heap.size f) := by rw [hW0]; exact (BoxF.new h hl).below ((Below.refl _ _).alloc (Nat.le_refl _) _)
 have HBN : Hid (BoxN W0 (w.heap.size + 1) m) := by
  show BoxN _ _ _
  unfold BoxN
  rw [hW0, show w.heap.size + 1 = (w.alloc (.cells (fcs f) 77)).heap.size by simp, World.cell?_alloc_new]; rfl
 have HRD : Hid (RdR W0 f.ra f.rs) := h.r.below hb0.out
 have hlr := hl.r.1
 have HLR : Hid _ := hl.r.2
 obtain ⟨B, hB⟩ : ∃ B, w.heap.size = B := ⟨_, rfl⟩
 have HW0 : Hid _ := hW0
 have hc3 := (HBX.out).c3
 simp only [hB] at HBX HBN hc3
 have HBE : Hid _ := hB
 rw [hW0] at hc3
 dsimp only [fcs] at hc3
 clear h hl hW0
 dsimp only [fv]
 dsimp only [fcs] at HW0
 obtain ⟨ra, hra⟩ : ∃ ra, f.ra = ra := ⟨_, rfl⟩
 rw [hra] at HRD HW0 hc3
 simp only [hra]
 have HRA : Hid _ := hra
 clear hra
 go_enter Tryz.func143, Tryz.ntmps143
 go_wp2_with fail
 rw [← HW0.out]
 clear hB hc3
 go_loopw [11] (fun s11 wr => ∃ k : Nat, k ≤ f.rs.length ∧ s11 = .int .i64 k ∧ Hid (∀ i, i < k → rulE f.ps f.lk m (nthR f.rs i) = 0) ∧ Below W0.heap.size W0 wr) (fun s11 _ => f.rs.length - (intOf s11).toNat)
 case atStart => exact ⟨0, Nat.zero_le _, rfl, (fun i hi => absurd hi (Nat.not_lt_zero _) : ∀ i, i < 0 → rulE f.ps f.lk m (nthR f.rs i) = 0), Below.refl _ _⟩
 case round =>
  obtain ⟨k, hk, rfl, HJ, hbw⟩ := hrel
  by_cases hkl : k < f.rs.length
  ·have hk' : (k : Int) < (f.rs.length : Int) := by omega
   obtain ⟨r, hr⟩ : ∃ r, nthR f.rs k = r := ⟨_, rfl⟩
   obtain ⟨b, off, rfl, hbb, x0, x1, x2, x3⟩ := (RdR.below HRD.out hbw).cells hkl hr
   have hrd := (RdR.at (RdR.below HRD.out hbw) hkl hr).2.2
   have HRE : Hid _ := hr
   have hlo : r.os.length ≤ 1000 := by have := HLR.out r (hr ▸ nthR_mem hkl); omega
   clear hr
   have hb1 : Below wr.heap.size wr (wr.alloc (.cells #[.int .i64 r.st, .int .i64 r.cl, .int .i64 r.nx, .slice r.sa r.os.length r.sc] 86)) := (Below.refl _ wr).alloc (Nat.le_refl _) _
   have HF1 : Hid _ := ((HBX.out).below hbw).below hb1
   have HN1 : Hid _ := BoxN.below (BoxN.below HBN.out hbw) hb1
   have HO1 : Hid _ := BoxR.new wr r hrd
   have U1 := unless_tri _ 81 _ _ (tri_r1 hm HO1.out HN1.out)
   have HB1 : Hid (Below W0.heap.size W0 _) := hbw.trans (hb1.mono hbw.size)
   clear hb1 hrd
   go_wp2_with fail
   refine U1.mono ?_
   rintro e w2 ⟨k1, bs1, rfl, hT1, hb2⟩
   have HF2 : Hid _ := (HF1.out).below hb2
   have HO2 : Hid _ := (HO1.out).below hb2
   have HB2 : Hid _ := (HB1.out).trans (hb2.mono (HB1.out).size)
   have F := first2 hT1 (tri_r2 HF2.out HO2.out hlo)
   obtain ⟨E, hE⟩ : ∃ E, rulE f.ps f.lk m r = E := ⟨_, rfl⟩
   rw [show fstE [unl (inB r.cl m) 81, sndsE f.ps f.lk r.os] = E from hE] at F
   have HE : Hid _ := hE
   clear hT1 hb2 U1 hE
   by_cases e0 : E = 0
   ·subst e0
    go_wp2_with fail
    refine F.mono ?_
    rintro e w4 ⟨rfl, hb4⟩
    have hb5 := (HB2.out).trans (hb4.mono (HB2.out).size)
    clear F
    go_wp2
    go_roundw
    case rel =>
     refine ⟨k + 1, by omega, by go_num, ?_, hb5⟩
     refine (fun i hi => ?_ : ∀ i, i < k + 1 → rulE f.ps f.lk m (nthR f.rs i) = 0)
     by_cases e : i = k
     ·rw [e, HRE.out, HE.out]
     ·exact HJ.out i (by omega)
    case measure => simp [intOf]; omega
   ·have ke : (E == 0) = false := by simpa using e0
    go_wp2_with fail
    refine F.mono ?_
    rintro e w4 ⟨rfl, hb4⟩
    have hb5 := (HB2.out).trans (hb4.mono (HB2.out).size)
    clear F
    go_wp2
    go_ret
    refine ⟨?_, (hb0.out).trans (hb5.mono (hb0.out).size)⟩
    rw [rulsE_at HJ.out hkl (by rw [HRE.out]; exact HE.out) e0]
    rfl
  ·obtain rfl : k = f.rs.length := by omega
   go_wp2
   go_ret
   refine ⟨?_, (hb0.out).trans (hbw.mono (hb0.out).size)⟩
   rw [rulsE_no HJ.out]
   rfl
set_option maxHeartbeats 1000000 in
theorem init1_any (w : World) (B : Nat) (f : Fd) (o : O) (h : BoxF w B f) :
  Calls Tryz.prog 177 #[ov o, .pointer (some ⟨B, 0, none⟩)] w fun e w' => e = .returned (.bool (!okI f.ps o)) ∧ Below w.heap.size w w' := by
 obtain ⟨p, q, r⟩ := o
 have hb0 : Below w.heap.size w (w.alloc (.cells #[.int .i64 p, .int .i64 q, .int .i64 r] 147)) := (Below.refl _ w).alloc (Nat.le_refl _) _
 have C := contains_any _ _ f.pa f.pc f.ps p (h.below hb0).ok.p (by have := h.lt.p; omega)
 have x4 := h.c4
 have e : okI f.ps (p, q, r) = (decide (p ∈ f.ps) && (wi q 0 1099511627776 && wi r 0 999)) := rfl
 rw [e]
 obtain ⟨A, hA⟩ : ∃ A, decide (p ∈ f.ps) = A := ⟨_, rfl⟩
 rw [hA] at C ⊢
 have HB0 : Hid _ := hb0
 have l4 := clt x4
 dsimp only at l4
 dsimp only [ov]
 clear hA h e hb0
 cases A with
 | false =>
  go_enter Tryz.func177, Tryz.ntmps177
  go_wp2_with (first | (go_at_call 160; refine C.mono ?_; rintro e w' ⟨rfl, rfl⟩) | (go_at_call 95; refine (within_any _ _ _ _).mono ?_; rintro e w' ⟨rfl, rfl⟩))
  go_ret
  exact ⟨rfl, HB0.out⟩
 | true =>
  cases hy : wi q 0 1099511627776 with
  | false =>
   go_enter Tryz.func177, Tryz.ntmps177
   go_wp2_with (first | (go_at_call 160; refine C.mono ?_; rintro e w' ⟨rfl, rfl⟩) | (go_at_call 95; refine (within_any _ _ _ _).mono ?_; rintro e w' ⟨rfl, rfl⟩))
   go_ret
   exact ⟨rfl, HB0.out⟩
  | true =>
   go_enter Tryz.func177, Tryz.ntmps177
   go_wp2_with (first | (go_at_call 160; refine C.mono ?_; rintro e w' ⟨rfl, rfl⟩) | (go_at_call 95; refine (within_any _ _ _ _).mono ?_; rintro e w' ⟨rfl, rfl⟩))
   go_ret
   exact ⟨by cases wi r 0 999 <;> rfl, HB0.out⟩
set_option maxHeartbeats 1000000 in
theorem idxI_any (w : World) (a : Option Addr) (cp : Nat) (l : List O) (B : Nat) (f : Fd) (h : RdO w a l) (hf : BoxF w B f) (hl : l.length ≤ 1000) :
  Calls Tryz.prog 198 #[.slice a l.length cp, .func (.func 177) #[] #[.pointer (some ⟨B, 0, none⟩)]] w fun e w' => ∃ r : Int, e = .returned (.int .i64 r) ∧ decide (0 ≤ r) = !l.all (okI f.ps) ∧ Below w.heap.size w w' := by
 have HR : Hid (RdO w a l) := h
 have HF : Hid _ := hf
 have eg : ∀ args w, (callFunc 177 args).run Tryz.prog w = .ok (.enter 177 args) w := enters_of Tryz.func177 (by kernel_rfl) rfl
 clear h hf
 go_enter Tryz.func198, Tryz.ntmps198
 go_wp2_with fail
 go_loopw [8] (fun s8 wr => ∃ k : Nat, k ≤ l.length ∧ s8 = .int .i64 k ∧ Hid (∀ i, i < k → okI f.ps (nthO l i) = true) ∧ Below w.heap.size w wr) (fun s8 _ => l.length - (intOf s8).toNat)
 case atStart => exact ⟨0, Nat.zero_le _, rfl, (fun i hi => absurd hi (Nat.not_lt_zero _) : ∀ i, i < 0 → okI f.ps (nthO l i) = true), Below.refl _ _⟩
 case round =>
  obtain ⟨k, hk, rfl, HJ, hbw⟩ := hrel
  by_cases hkl : k < l.length
  ·have hk' : (k : Int) < (l.length : Int) := by omega
   obtain ⟨o, ho⟩ : ∃ o, nthO l k = o := ⟨_, rfl⟩
   obtain ⟨b, off, rfl, hB, x0, x1, x2⟩ := (RdO.below HR.out hbw).cells hkl ho
   have C := init1_any wr B f o ((HF.out).below hbw)
   have HRE : Hid _ := ho
   clear ho
   cases hbit : okI f.ps o with
   | false =>
    rw [hbit] at C
    have HBT : Hid _ := hbit
    clear hbit
    obtain ⟨p, q, r⟩ := o
    dsimp only [ov] at C x0 x1 x2
    go_wp2_with (go_at_call 177; refine C.mono ?_; rintro e w' ⟨rfl, hb1⟩)
    go_ret
    refine ⟨_, rfl, ?_, hbw.trans (hb1.mono hbw.size)⟩
    have : l.all (okI f.ps) = false := by
     rw [List.all_eq_false]
     exact ⟨_, (memO l _).2 ⟨k, hkl, HRE.out⟩, by rw [HBT.out]; decide⟩
    rw [this]
    simp
   | true =>
    rw [hbit] at C
    have HBT : Hid _ := hbit
    clear hbit
    obtain ⟨p, q, r⟩ := o
    dsimp only [ov] at C x0 x1 x2
    go_wp2_with (go_at_call 177; refine C.mono ?_; rintro e w' ⟨rfl, hb1⟩)
    go_roundw
    case rel =>
     refine ⟨k + 1, by omega, by go_num, ?_, hbw.trans (hb1.mono hbw.size)⟩
     refine (fun i hi => ?_ : ∀ i, i < k + 1 → okI f.ps (nthO l i) = true)
     by_cases e : i = k
     ·rw [e, HRE.out]; exact HBT.out
     ·exact HJ.out i (by omega)
    case measure => simp [intOf]; omega
  ·obtain rfl : k = l.length := by omega
   go_wp2
   go_ret
   refine ⟨_, rfl, ?_, hbw⟩
   have : l.all (okI f.ps) = true := by
    rw [List.all_eq_true]
    intro x hx
    obtain ⟨i, hi, rfl⟩ := (memO l x).1 hx
    exact HJ.out i hi
   rw [this]
   rfl
theorem contI_any (w : World) (a : Option Addr) (cp : Nat) (l : List O) (B : Nat) (f : Fd) (h : RdO w a l) (hf : BoxF w B f) (hl : l.length ≤ 1000) :
  Calls Tryz.prog 176 #[.slice a l.length cp, .func (.func 177) #[] #[.pointer (some ⟨B, 0, none⟩)]] w fun e w' => e = .returned (.bool (!l.all (okI f.ps))) ∧ Below w.heap.size w w' := by
 have I := idxI_any w a cp l B f h hf hl
 obtain ⟨A, hA⟩ : ∃ A, l.all (okI f.ps) = A := ⟨_, rfl⟩
 rw [hA] at I ⊢
 clear hA h hf
 go_enter Tryz.func176, Tryz.ntmps176
 go_wp2_with (go_at_call 198; refine I.mono ?_; rintro e w' ⟨r, rfl, hr, hb1⟩; have HR : Hid _ := hr; clear hr I)
 go_ret
 refine ⟨?_, hb1⟩
 have e := HR.out
 simp [e, Array.getD]
set_option maxHeartbeats 1000000 in
theorem init_any (w : World) (f : Fd) (h : okF w f) (hl : LtF f) :
  Calls Tryz.prog 145 #[fv f] w fun e w' => e = .returned (.bool (iniB f.ps f.is)) ∧ Below w.heap.size w w' := by
 have hb0 : Below w.heap.size w (w.alloc (.cells (fcs f) 77)) := (Below.refl _ w).alloc (Nat.le_refl _) _
 have BX := BoxF.new h hl
 have C := contI_any _ f.ia f.ic f.is _ f BX.ok.i BX (by have := hl.i; omega)
 have x6 := BX.c6
 unfold iniB
 obtain ⟨A, hA⟩ : ∃ A, f.is.all (okI f.ps) = A := ⟨_, rfl⟩
 rw [hA] at C ⊢
 have HB0 : Hid _ := hb0
 dsimp only [fcs] at C x6
 dsimp only [fv]
 clear hA h BX hb0
 by_cases h4 : (f.is.length : Int) ≤ 4
 ·rw [decide_eq_true (show f.is.length ≤ 4 by omega)]
  have hd : decide ((f.is.length : Int) ≤ 4) = true := decide_eq_true h4
  go_enter Tryz.func145, Tryz.ntmps145
  go_wp2_with (go_at_call 176; refine C.mono ?_; rintro e w' ⟨rfl, hb1⟩)
  go_ret
  exact ⟨by cases A <;> simp [Array.getD], (HB0.out).trans (hb1.mono (HB0.out).size)⟩
 ·rw [decide_eq_false (show ¬ f.is.length ≤ 4 by omega)]
  have hd : decide ((f.is.length : Int) ≤ 4) = false := decide_eq_false h4
  go_enter Tryz.func145, Tryz.ntmps145
  go_wp2
  go_ret
  exact ⟨rfl, HB0.out⟩
end Go.Proofs.YtiaopafkfadmkaaGreat
