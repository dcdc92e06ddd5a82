/- Joined: the texts that follow, each with its own sentence. -/
import Derived.Test.YtiaopafkfadmkaaGreatZJd
import Derived.Laws.Rows
set_option linter.unusedVariables false
set_option maxRecDepth 100000
namespace Go.Proofs.YtiaopafkfadmkaaGreat
open Go.RowKit Go.Shelf
theorem Row.since {w0 w W : World} {v : Value} {l : List Int} (h : Row w W v l) (hb : Below w0.heap.size w0 w) : Row w0 W v l := by
 refine ⟨⟨h.1.1, ?_⟩, hb.trans (h.2.mono hb.size)⟩
 rcases h.1.2 with g | ⟨g, cap, cur, h1, h2, h3, h4⟩
 ·exact .inl g
 ·exact .inr ⟨g, cap, cur, h1, Nat.le_trans hb.size h2, h3, h4⟩
structure BoxA (w : World) (B : Nat) (a : Option Addr) (c : Nat) (l : List Int) : Prop where
 c0 : w.cell? ⟨B, 0, none⟩ = some (.slice a l.length c)
 ok : RdI w w.heap.size a l
theorem BoxA.below {w W : World} {B : Nat} {a : Option Addr} {c : Nat} {l : List Int} (h : BoxA w B a c l) (hb : Below w.heap.size w W) : BoxA W B a c l :=
 ⟨(hb.cell (p := ⟨B, 0, none⟩) (clt h.c0)).trans h.c0, h.ok.belo hb⟩
theorem isabove_any (w : World) (B : Nat) (a : Option Addr) (c : Nat) (l : List Int) (x : Int) (h : BoxA w B a c l) (hl : l.length ≤ 1000) :
  Calls Tryz.prog 159 #[.int .i64 x, .pointer (some ⟨B, 0, none⟩)] w fun e w' => e = .returned (.bool (decide (x ∈ l))) ∧ w = w' := by
 have C := contains_any w w.heap.size a c l x h.ok hl
 have x0 := h.c0
 obtain ⟨A, hA⟩ : ∃ A, decide (x ∈ l) = A := ⟨_, rfl⟩
 rw [hA] at C ⊢
 clear h hA
 go_enter Tryz.func159, Tryz.ntmps159
 go_wp2_with (go_at_call 160; refine C.mono ?_; rintro e w' ⟨rfl, rfl⟩)
 go_ret
 exact ⟨rfl, rfl⟩
set_option maxHeartbeats 1000000 in
theorem idxA_any (w : World) (a : Option Addr) (cp : Nat) (xs : List Int) (B : Nat) (a' : Option Addr) (c' : Nat) (l : List Int) (h : RdI w w.heap.size a xs) (hx : xs.length ≤ 1000) (hb : BoxA w B a' c' l) (hl : l.length ≤ 1000) :
  Calls Tryz.prog 188 #[.slice a xs.length cp, .func (.func 159) #[] #[.pointer (some ⟨B, 0, none⟩)]] w fun e w' => ∃ r : Int, e = .returned (.int .i64 r) ∧ decide (0 ≤ r) = xs.any (fun x => decide (x ∈ l)) ∧ w = w' := by
 have HRD : Hid _ := h
 have HB : Hid _ := hb
 have eg : ∀ args w, (callFunc 159 args).run Tryz.prog w = .ok (.enter 159 args) w := enters_of Tryz.func159 (by kernel_rfl) rfl
 clear h hb
 go_enter Tryz.func188, Tryz.ntmps188
 go_wp2_with fail
 go_loopw [8] (fun s8 wr => ∃ k : Nat, k ≤ xs.length ∧ s8 = .int .i64 k ∧ Hid (∀ i, i < k → nthI xs i ∉ l) ∧ wr = w) (fun s8 _ => xs.length - (intOf s8).toNat)
 case atStart => exact ⟨0, Nat.zero_le _, rfl, (fun i hi => absurd hi (Nat.not_lt_zero _) : ∀ i, i < 0 → nthI xs i ∉ l), rfl⟩
 case round =>
  obtain ⟨k, hk, rfl, HJ, rfl⟩ := hrel
  by_cases hkl : k < xs.length
  ·have hk' : (k : Int) < (xs.length : Int) := by omega
   obtain ⟨b, off, rfl, hb, hc⟩ := HRD.out (by intro e; simp [e] at hkl)
   have x0 := hc k hkl
   have hm : nthI xs k ∈ xs := (mem_nth xs _).2 ⟨k, hkl, rfl⟩
   obtain ⟨x, hxe⟩ : ∃ x, nthI xs k = x := ⟨_, rfl⟩
   rw [hxe] at x0 hm
   have C := isabove_any wr B a' c' l x HB.out hl
   have HXE : Hid _ := hxe
   have HM : Hid _ := hm
   clear hxe hm hc
   by_cases hin : x ∈ l
   ·rw [decide_eq_true hin] at C
    have HBT : Hid _ := hin
    clear hin
    go_wp2_with (go_at_call 159; refine C.mono ?_; rintro e w' ⟨rfl, rfl⟩)
    go_ret
    refine ⟨_, rfl, ?_, rfl⟩
    rw [List.any_eq_true.2 ⟨_, HM.out, decide_eq_true HBT.out⟩]
    simp
   ·rw [decide_eq_false hin] at C
    have HBT : Hid _ := hin
    clear hin
    go_wp2_with (go_at_call 159; refine C.mono ?_; rintro e w' ⟨rfl, rfl⟩)
    go_roundw
    case rel =>
     refine ⟨k + 1, by omega, by go_num, ?_, by first | rfl | trivial⟩
     refine (fun i hi => ?_ : ∀ i, i < k + 1 → nthI xs i ∉ l)
     by_cases e : i = k
     ·rw [e, HXE.out]; exact HBT.out
     ·exact HJ.out i (by omega)
    case measure => simp [intOf]; omega
  ·obtain rfl : k = xs.length := by omega
   go_wp2
   go_ret
   refine ⟨_, rfl, ?_, rfl⟩
   rw [List.any_eq_false.2 (fun x hx => by obtain ⟨i, hi, rfl⟩ := (mem_nth xs x).1 hx; simpa using HJ.out i hi)]
   rfl
theorem contA_any (w : World) (a : Option Addr) (cp : Nat) (xs : List Int) (B : Nat) (a' : Option Addr) (c' : Nat) (l : List Int) (h : RdI w w.heap.size a xs) (hx : xs.length ≤ 1000) (hb : BoxA w B a' c' l) (hl : l.length ≤ 1000) :
  Calls Tryz.prog 161 #[.slice a xs.length cp, .func (.func 159) #[] #[.pointer (some ⟨B, 0, none⟩)]] w fun e w' => e = .returned (.bool (xs.any (fun x => decide (x ∈ l)))) ∧ w = w' := by
 have I := idxA_any w a cp xs B a' c' l h hx hb hl
 obtain ⟨A, hA⟩ : ∃ A, xs.any (fun x => decide (x ∈ l)) = A := ⟨_, rfl⟩
 rw [hA] at I ⊢
 clear hA h hb
 go_enter Tryz.func161, Tryz.ntmps161
 go_wp2_with (go_at_call 188; refine I.mono ?_; rintro e w' ⟨r, rfl, hr, rfl⟩; have HR : Hid _ := hr; clear hr I)
 go_ret
 refine ⟨?_, rfl⟩
 have e := HR.out
 simp [e, Array.getD]
set_option maxHeartbeats 2000000 in
theorem routes_any (w : World) (d : Wd) (f c : Int) (h : Ww w d) :
  Calls Tryz.prog 114 #[wv d, .int .i64 f, .int .i64 c] w fun e w' => ∃ v, e = .returned v ∧ Row w w' v (rts d f c) := by
 obtain ⟨i0, hi, hz0, hz1, hz2⟩ := info_parts info3
 obtain ⟨W0, hW0⟩ : ∃ W0, W0 = w.alloc (.cells (wcs d) 25) := ⟨_, rfl⟩
 have hb0 : Below w.heap.size w W0 := by rw [hW0]; exact (Below.refl _ w).alloc (Nat.le_refl _) _
 have BX : BoxW W0 w.heap.size d := by rw [hW0]; exact BoxW.new h
 obtain ⟨B, hB⟩ : ∃ B, w.heap.size = B := ⟨_, rfl⟩
 rw [hB] at BX
 have HBE : Hid _ := hB
 have HW0 : Hid _ := hW0
 have HX : Hid _ := BX
 have x0 := BX.c0
 have lB := clt x0
 dsimp only at lB
 have CA := above_any W0 d.pa d.pc d.ps c BX.ok.p (by have := h.pl; omega)
 have hal := abv_len d.ps c
 obtain ⟨ab, hab⟩ : ∃ ab, abv d.ps c = ab := ⟨_, rfl⟩
 rw [hab] at CA hal
 have HAB : Hid _ := hab
 rw [hW0] at x0 CA
 have hfl := h.fl
 have HLT : Hid _ := h.lt
 dsimp only [wcs] at x0 CA HW0
 dsimp only [wv]
 obtain ⟨fa, hfa⟩ : ∃ fa, d.fa = fa := ⟨_, rfl⟩
 have HFA : Hid _ := hfa
 simp only [hfa] at x0 CA HW0 ⊢
 clear h hW0 BX hfa hab
 go_enter Tryz.func114, Tryz.ntmps114
 go_wp2_with fail
 refine CA.mono ?_
 rintro e w1 ⟨a', c', rfl, hR, hb1⟩
 rw [← HW0.out] at hb1
 have hba : Below w1.heap.size w1 (w1.alloc (.cells #[.slice a' ab.length c'] 22)) := (Below.refl _ w1).alloc (Nat.le_refl _) _
 obtain ⟨W2, hW2⟩ : ∃ W2, W2 = w1.alloc (.cells #[.slice a' ab.length c'] 22) := ⟨_, rfl⟩
 have HBA : Hid (BoxA W2 w1.heap.size a' c' ab) := by
  rw [hW2]
  exact ⟨by rw [World.cell?_alloc_new]; rfl, RdI.belo hR hba⟩
 have hb2 : Below W0.heap.size W0 W2 := by rw [hW2]; exact hb1.trans (hba.mono hb1.size)
 have HX2 : Hid _ := (HX.out).below hb2
 have y1 := (HX2.out).c1
 rw [HFA.out] at y1
 have HW2 : Hid _ := hW2
 obtain ⟨A1, hA1⟩ : ∃ A1, w1.heap.size = A1 := ⟨_, rfl⟩
 rw [hA1] at HBA
 have HA1 : Hid _ := hA1
 rw [hW2] at y1
 clear CA x0 hR hba hW2
 go_wp2_with fail
 rw [← HW2.out]
 have lB2 : B < W2.heap.size := Nat.lt_of_lt_of_le lB hb2.size
 clear hB hA1 y1
 go_loopw [20, 9] (fun s20 s9 wr => ∃ k : Nat, k ≤ d.fs.length ∧ s20 = .int .i64 k ∧ Hid (Row W2 wr s9 (rtsF d f c k)) ∧ Below W2.heap.size W2 wr) (fun s20 _ _ => d.fs.length - (intOf s20).toNat)
 case atStart => exact ⟨0, Nat.zero_le _, rfl, (Row.nil W2 : Row W2 _ _ []), Below.refl _ _⟩
 case round =>
  obtain ⟨k, hk, rfl, HW, hbw⟩ := hrel
  by_cases hkl : k < d.fs.length
  ·have hk' : (k : Int) < (d.fs.length : Int) := by omega
   obtain ⟨g, hg⟩ : ∃ g, nthF d.fs k = g := ⟨_, rfl⟩
   have BXr := (HX2.out).below hbw
   have hRF := BXr.ok.f
   rw [HFA.out] at hRF
   obtain ⟨b, off, rfl, hbb, z0, z1, z2, z3, z4, z5, z6⟩ := hRF.cells hkl hg
   have hok := hRF.at hkl hg
   have hlt := HLT.out g (hg ▸ nthF_mem hkl)
   have HRE : Hid _ := hg
   have hbn : Below wr.heap.size wr (wr.alloc (.cells (fcs g) 77)) := (Below.refl _ wr).alloc (Nat.le_refl _) _
   have C := contA_any _ g.sa g.sc g.ss A1 a' c' ab (hok.below hbn).s (by have := hlt.s; omega) (((HBA.out).below hbw).below hbn) (by omega)
   have hhr : Hid (hrs d c g = g.ss.any (fun x => decide (x ∈ ab))) := by
    show hrs d c g = _
    unfold hrs
    rw [HAB.out]
   obtain ⟨hh, hhe⟩ : ∃ hh, g.ss.any (fun x => decide (x ∈ ab)) = hh := ⟨_, rfl⟩
   rw [hhe] at C hhr
   dsimp only [fcs] at C
   have HBN : Hid _ := hbn
   have hpl : (rtsF d f c k).length ≤ 20 := Nat.le_trans (rtsF_len d f c k) (by omega)
   clear hg hRF hok hlt BXr hbn hhe
   by_cases hkf : (k : Int) = f
   ·have kb : ((k : Int) != f) = false := by simpa using hkf
    have HKF : Hid _ := hkf
    clear hkf
    go_wp2_with fail
    go_roundw
    case rel =>
     refine ⟨k + 1, by omega, by go_num, ?_, hbw.trans ((HBN.out).mono hbw.size)⟩
     show Row W2 _ _ (rtsF d f c (k + 1))
     rw [rtsF_own HKF.out]
     exact Row.below HW.out HBN.out
    case measure => simp [intOf]; omega
   ·have kb : ((k : Int) != f) = true := by simpa using hkf
    have HKF : Hid _ := hkf
    clear hkf
    cases hh with
    | false =>
     go_wp2_with fail
     refine C.mono ?_
     rintro e w' ⟨rfl, rfl⟩
     clear C
     go_wp2_with fail
     go_roundw
     case rel =>
      refine ⟨k + 1, by omega, by go_num, ?_, hbw.trans ((HBN.out).mono hbw.size)⟩
      show Row W2 _ _ (rtsF d f c (k + 1))
      rw [rtsF_not (by rw [HRE.out]; exact hhr.out)]
      exact Row.below HW.out HBN.out
     case measure => simp [intOf]; omega
    | true =>
     go_wp2_with fail
     refine C.mono ?_
     rintro e w' ⟨rfl, rfl⟩
     clear C
     obtain ⟨W3, hW3⟩ : ∃ W3, W3 = wr.alloc (.cells (fcs g) 77) := ⟨_, rfl⟩
     have HB3 : Hid (Below wr.heap.size wr W3) := by rw [hW3]; exact HBN.out
     have HW3 : Hid _ := Row.below HW.out HB3.out
     have hsz := (Row.below HW.out HB3.out).2.size
     rw [← hW3]
     clear hW3 HBN
     go_wp2_with (at_builtin; refine wpList_append_own _ rfl _ _ 22 rfl W2.heap.size 3 i0 (.int .i64 0) 1 8 Tryz.underlying22 hi hz0 hz1 hz2 rfl (by decide) _ _ _ rfl (HW3.out.1.alloc _) ⟨W3.heap.size, 0, none⟩ 1 1 [.int .i64 k] rfl rfl (cell_one_new _ _ _) (by simp [Value.oneCell']) (by unfold maxLen; omega) (by omega) (by simp; omega) ?_)
     intro v' w4 hown' hgrow _
     have HW4 : Hid _ := Row.app HW3.out hown' hgrow
     have hb4 : Below W2.heap.size W3 w4 := ((Below.refl W2.heap.size W3).alloc (Nat.le_trans hbw.size (HB3.out).size) _).grown hgrow (by have := hbw.size; have := (HB3.out).size; simp; omega) (fun k e => row_ge HW3.out.1 e)
     clear hown' hgrow
     go_wp2_with fail
     go_roundw
     case rel =>
      refine ⟨k + 1, by omega, by go_num, ?_, hbw.trans (((HB3.out).mono hbw.size).trans hb4)⟩
      show Row W2 _ _ (rtsF d f c (k + 1))
      rw [rtsF_yes HKF.out (by rw [HRE.out]; exact hhr.out)]
      exact HW4.out
     case measure => simp [intOf]; omega
  ·obtain rfl : k = d.fs.length := by omega
   go_wp2_with fail
   go_ret
   exact ⟨_, rfl, Row.since HW.out (hb0.trans (hb2.mono hb0.size))⟩
end Go.Proofs.YtiaopafkfadmkaaGreat
namespace Go.Proofs.YtiaopafkfadmkaaGreat
open Go.RowKit Go.Shelf
structure Fr (S : Nat → Prop) (w w' : World) : Prop where
 os : w'.os = w.os
 tape : w'.tape = w.tape
 output : w'.output = w.output
 size : w.heap.size ≤ w'.heap.size
 block : ∀ k, k < w.heap.size → ¬ S k → w'.heap[k]? = w.heap[k]?
theorem Fr.refl (S : Nat → Prop) (w : World) : Fr S w w := ⟨rfl, rfl, rfl, Nat.le_refl _, fun _ _ _ => rfl⟩
theorem Fr.then {S : Nat → Prop} {a b c : World} (h : Fr S a b) (k : Fr S b c) : Fr S a c :=
 ⟨k.os.trans h.os, k.tape.trans h.tape, k.output.trans h.output, Nat.le_trans h.size k.size, fun i hi hn => (k.block i (Nat.lt_of_lt_of_le hi h.size) hn).trans (h.block i hi hn)⟩
theorem Fr.setCell {S : Nat → Prop} {a b : World} (h : Fr S a b) (p : Addr) (v : Value) (hp : S p.block) : Fr S a (b.setCell p v) :=
 ⟨h.os, h.tape, h.output, by simpa using h.size, fun i hi hn => by
  rw [Below.heap_setCell _ _ _ _ (fun e => by subst e; exact hn hp)]
  exact h.block i hi hn⟩
theorem Fr.alloc {S : Nat → Prop} {a b : World} (h : Fr S a b) (o : Obj) : Fr S a (b.alloc o) :=
 ⟨h.os, h.tape, h.output, by have := h.size; simp; omega, fun i hi hn => by
  rw [Below.heap_alloc _ _ _ (Nat.lt_of_lt_of_le hi h.size)]
  exact h.block i hi hn⟩
theorem Fr.grown {S : Nat → Prop} {a b c : World} {row : Option Nat} (h : Fr S a b) (hg : b.grownBy c row) (hr : ∀ k, row = some k → k < a.heap.size → S k) : Fr S a c :=
 ⟨hg.os.trans h.os, hg.tape.trans h.tape, hg.output.trans h.output, Nat.le_trans h.size hg.size, fun i hi hn => by
  rw [hg.block i (Nat.lt_of_lt_of_le hi h.size) (fun e => hn (hr i e.symm hi))]
  exact h.block i hi hn⟩
theorem Fr.of_below {S : Nat → Prop} {a b : World} (h : Below a.heap.size a b) : Fr S a b := ⟨h.os, h.tape, h.output, h.size, fun i hi _ => h.block i hi⟩
theorem Fr.cell {S : Nat → Prop} {a b : World} (h : Fr S a b) {p : Addr} (hp : p.block < a.heap.size) (hn : ¬ S p.block) : b.cell? p = a.cell? p := World.cell?_of_block (h.block _ hp hn)
abbrev mcs (x : M) : Array Value := #[.int .i64 x.t, .int .i64 x.fr, .int .i64 x.sq, .int .i64 x.dst, .int .i64 x.cl, .int .i64 x.bd]
def BoxM (w : World) (B : Nat) (x : M) : Prop := w.heap[B]? = some (.cells (mcs x) 39 (0, 0))
theorem BoxM.lt {w : World} {B : Nat} {x : M} (h : BoxM w B x) : B < w.heap.size := (Array.getElem?_eq_some_iff.1 h).1
theorem BoxM.cells {w : World} {B : Nat} {x : M} (h : BoxM w B x) : w.cell? ⟨B, 0, none⟩ = some (.int .i64 x.t) ∧ w.cell? ⟨B, 1, none⟩ = some (.int .i64 x.fr) ∧ w.cell? ⟨B, 2, none⟩ = some (.int .i64 x.sq) ∧ w.cell? ⟨B, 3, none⟩ = some (.int .i64 x.dst) ∧ w.cell? ⟨B, 4, none⟩ = some (.int .i64 x.cl) ∧ w.cell? ⟨B, 5, none⟩ = some (.int .i64 x.bd) ∧ ∀ j, w.frozen? ⟨B, j, none⟩ = false := by
 unfold BoxM at h
 refine ⟨?_, ?_, ?_, ?_, ?_, ?_, fun j => ?_⟩ <;> simp [World.cell?, World.frozen?, h, mcs]
theorem BoxM.new (w : World) (x : M) : BoxM (w.alloc (.cells (mcs x) 39)) w.heap.size x := World.alloc_heap_new w _
theorem BoxM.set {w : World} {B : Nat} {x : M} (h : BoxM w B x) (t : Int) : BoxM (w.setCell ⟨B, 3, none⟩ (.int .i64 t)) B (toM x t) := by
 unfold BoxM at h ⊢
 rw [heap_setCell_same w B 3 _ _ _ h]
 rfl
theorem BoxM.below {w W : World} {B : Nat} {x : M} (h : BoxM w B x) (hb : Below w.heap.size w W) : BoxM W B x := (hb.block B h.lt).trans h
theorem BoxM.rd {w : World} {B : Nat} {x : M} (h : BoxM w B x) : RdM w (some ⟨B, 0, none⟩) [x] := fun _ => ⟨B, 0, rfl, h.lt, fun i hi c hc => by
 have hi0 : i = 0 := by simp at hi; omega
 subst hi0
 obtain ⟨h0, h1, h2, h3, h4, h5, _⟩ := h.cells
 rcases (by omega : c = 0 ∨ c = 1 ∨ c = 2 ∨ c = 3 ∨ c = 4 ∨ c = 5) with rfl | rfl | rfl | rfl | rfl | rfl <;> simp [nthM, encM, *]⟩
theorem push_M {w W : World} {v : Value} {B : Nat} {l : List M} {x : M} (h1 : RowM w W v l) (h2 : BoxM W B x) (hl1 : l.length ≤ 100000) (ty : TypeId) (X : List M) (hX : l ++ [x] = X) :
  ∃ a' c' w', (Builtin.append_ #[53, 53] ty #[v, .slice (some ⟨B, 0, none⟩) 1 1]).run Tryz.prog W = .ok (.slice a' X.length c') w' ∧ RowM w w' (.slice a' X.length c') X ∧ W.grownBy w' v.ownBlock ∧ ((Value.slice a' X.length c').ownBlock = v.ownBlock ∨ (Value.slice a' X.length c').ownBlock = some W.heap.size) := by
 obtain ⟨i0, hi0, hz0, hz1, hz2⟩ := info_parts infoM
 obtain ⟨v', w', hr, h3, h4, h5, h6⟩ := run_append_own_at (P := Tryz.prog) W w.heap.size 53 ty 39 i0 _ 6 48 Tryz.underlying53 hi0 hz0 hz1 hz2 rfl (by decide) v l.length (flatM l) h1.1 ⟨B, 0, none⟩ 1 1 (flatM [x]) (flatM_len [x]) (fun j u hj => by
  rw [Addr.add_lit]
  exact h2.rd.flat j u hj) (flatM_one _) (by unfold maxLen; omega) (by omega) h1.2.size
 have hro : RowM w w' v' X := by
  refine ⟨?_, h1.2.grown h4 h1.2.size (fun k e => rowM_ge h1 e)⟩
  rw [← hX, flatM_append, List.length_append]
  exact h3
 obtain ⟨a', c', rfl, _⟩ := hro.rd
 exact ⟨a', c', w', hr, hro, h4, h6⟩
theorem RowM.set {w W : World} {v : Value} {l : List M} {B j : Nat} {u : Value} (h : RowM w W v l) (hB : w.heap.size ≤ B) (hn : v.ownBlock ≠ some B) : RowM w (W.setCell ⟨B, j, none⟩ u) v l := by
 refine ⟨?_, h.2.setCell (p := ⟨B, j, none⟩) hB u⟩
 refine World.ownsRow.kept (row := some B) h.1 ⟨rfl, rfl, rfl, by simp, fun k _ hk => Below.heap_setCell _ _ _ k (fun e => hk (by rw [e]))⟩ (.inr hn)
structure Mk (W0 w3 : World) (MB : Nat) (v0 : Value) (x : M) (wr : World) (v : Value) (l : List M) : Prop where
 row : RowM W0 wr v l
 fr : Fr (fun k => k = MB ∨ v0.ownBlock = some k) w3 wr
 bx : ∃ t, BoxM wr MB (toM x t)
 ow : v.ownBlock = v0.ownBlock ∨ ∃ g, v.ownBlock = some g ∧ w3.heap.size ≤ g
 lo : W0.heap.size ≤ MB
 hi : MB < w3.heap.size
 ne : v0.ownBlock ≠ some MB
theorem Mk.far {W0 w3 : World} {MB : Nat} {v0 : Value} {x : M} {wr : World} {v : Value} {l : List M} (h : Mk W0 w3 MB v0 x wr v l) : v.ownBlock ≠ some MB := by
 intro e
 rcases h.ow with g | ⟨g, h1, h2⟩
 ·exact h.ne (g ▸ e)
 ·rw [h1] at e
  have := h.hi
  simp at e
  omega
theorem Mk.step {W0 w3 : World} {MB : Nat} {v0 : Value} {x : M} {wr : World} {v : Value} {l : List M} (h : Mk W0 w3 MB v0 x wr v l) (t : Int) (hl : l.length ≤ 100000) (ty : TypeId) (X : List M) (hX : l ++ [toM x t] = X) :
  ∃ a' c' w', (Builtin.append_ #[53, 53] ty #[v, .slice (some ⟨wr.heap.size, 0, none⟩) 1 1]).run Tryz.prog ((wr.setCell ⟨MB, 3, none⟩ (.int .i64 t)).alloc (.cells (mcs (toM x t)) 39)) = .ok (.slice a' X.length c') w' ∧ Mk W0 w3 MB v0 x w' (.slice a' X.length c') X := by
 obtain ⟨t0, hb⟩ := h.bx
 have hf := h.far
 have r1 := (h.row.set (j := 3) (u := .int .i64 t) h.lo hf).below ((Below.refl _ _).alloc (Nat.le_refl _) (.cells (mcs (toM x t)) 39))
 have b2 := BoxM.new (wr.setCell ⟨MB, 3, none⟩ (.int .i64 t)) (toM x t)
 have es : (wr.setCell ⟨MB, 3, none⟩ (.int .i64 t)).heap.size = wr.heap.size := by simp
 rw [es] at b2
 obtain ⟨a', c', w', hr, hro, hg, hw⟩ := push_M r1 b2 hl ty X hX
 have hMBr : MB < wr.heap.size := Nat.lt_of_lt_of_le h.hi h.fr.size
 refine ⟨a', c', w', hr, hro, ?_, ⟨t, ?_⟩, ?_, h.lo, h.hi, h.ne⟩
 ·refine ((h.fr.setCell ⟨MB, 3, none⟩ _ (.inl rfl)).alloc _).grown hg (fun k e hk => ?_)
  rcases h.ow with g | ⟨g, h1, h2⟩
  ·exact .inr (g ▸ e)
  ·rw [h1] at e
   simp at e
   omega
 ·have b3 : BoxM ((wr.setCell ⟨MB, 3, none⟩ (.int .i64 t)).alloc (.cells (mcs (toM x t)) 39)) MB (toM x t) := BoxM.below (BoxM.set hb t) ((Below.refl _ _).alloc (Nat.le_refl _) _)
  exact (hg.block MB b3.lt (fun e => hf e.symm)).trans b3
 ·rcases hw with g | g
  ·rcases h.ow with k | k
   ·exact .inl (g.trans k)
   ·obtain ⟨q, k1, k2⟩ := k
    exact .inr ⟨q, g.trans k1, k2⟩
  ·exact .inr ⟨_, g, by have := h.fr.size; simp; omega⟩
theorem wpList_append_run {P : Program} (W : World) {ops : Array Oper} {rest : List Oper} {o : Oper} {a : Act} {Q : Exit → Act → World → Prop} (hgd : o.guard = none) (s x : Operand) (t : TypeId)
  (ho : o.op = .call { callee := .builtin .append, args := #[s, x], argTypes := #[t, t] })
  {v1 v2 v' : Value} {w' : World} (hs : a.eval s = v1) (hx : a.eval x = v2) (hrun : (Builtin.append_ #[t, t] o.type #[v1, v2]).run P W = .ok v' w')
  (h : wpList P ops Q rest (a.put o.dst v') w') : wpList P ops Q (o :: rest) a W := by
 refine wpList_plain hgd fun K hK => ?_
 unfold Oper.wp execOp
 simp only [ho, resolve, invoke, builtin, Sem.run_bind, Sem.run_pure, Result.andThen_ok, List.map_toArray, List.map_cons, List.map_nil, hs, hx, hrun]
 exact hK _ _ h
end Go.Proofs.YtiaopafkfadmkaaGreat
namespace Go.Proofs.YtiaopafkfadmkaaGreat
open Go.RowKit Go.Shelf
theorem Row.parts {w W : World} {v : Value} {l : List Int} (h : Row w W v l) : ∃ a c, v = .slice a l.length c ∧ (l ≠ [] → ∃ g, a = some ⟨g, 0, none⟩ ∧ w.heap.size ≤ g ∧ g < W.heap.size ∧ ∀ i, i < l.length → W.cell? ⟨g, i, none⟩ = some (.int .i64 (nthI l i))) := by
 obtain ⟨a, c, rfl, hrd⟩ := h.rd
 refine ⟨a, c, rfl, fun hl => ?_⟩
 obtain ⟨b, off, rfl, hb, hc⟩ := hrd hl
 rcases h.1.2 with ⟨e, hn⟩ | ⟨g, cap, cur, e, hg, hgg, _⟩
 ·exact absurd (List.length_eq_zero_iff.1 hn) hl
 ·simp at e
  obtain ⟨⟨rfl, rfl⟩, _⟩ := e
  exact ⟨b, rfl, hg, hb, fun i hi => by have := hc i hi; rwa [Nat.zero_add] at this⟩
theorem RowM.own_lt {w W : World} {v : Value} {l : List M} (h : RowM w W v l) {g : Nat} (hg : v.ownBlock = some g) : g < W.heap.size := by
 rcases h.1.2 with ⟨rfl, _⟩ | ⟨g', cap, cur, rfl, h2, h3, _⟩
 ·simp [Value.ownBlock] at hg
 ·simp [Value.ownBlock] at hg
  subst hg
  exact (Array.getElem?_eq_some_iff.1 h3).1
theorem take_map_succ (L : List Int) (g : Int → M) (j : Nat) (h : j < L.length) : (L.take j).map g ++ [g (nthI L j)] = (L.take (j + 1)).map g := by
 rw [List.take_add_one, List.map_append]
 congr 1
 simp [nthI, h]
theorem Mk.start {W0 wr w2 w4 : World} {v0 : Value} {x : M} {l : List M} (hr : RowM W0 wr v0 l) (h1 : Below wr.heap.size wr w2) (h3 : Below (w2.alloc (.cells (mcs x) 39)).heap.size (w2.alloc (.cells (mcs x) 39)) w4) (hx : x.dst = -1) : Mk W0 w4 w2.heap.size v0 x w4 v0 l := by
 have hb3 : Below w2.heap.size w2 (w2.alloc (.cells (mcs x) 39)) := (Below.refl _ _).alloc (Nat.le_refl _) _
 have h14 := h1.trans ((hb3.trans (h3.mono hb3.size)).mono h1.size)
 refine ⟨hr.below h14, Fr.refl _ _, ⟨-1, ?_⟩, .inl rfl, Nat.le_trans hr.2.size h1.size, ?_, ?_⟩
 ·have := (BoxM.new w2 x).below h3
  obtain ⟨t, fr, sq, ds, cl, bd⟩ := x
  dsimp only at hx
  subst hx
  exact this
 ·have := h3.size
  simp at this
  omega
 ·intro e
  have := hr.own_lt e
  have := h1.size
  omega
set_option maxHeartbeats 4000000 in
theorem spread_any (w : World) (d : Wd) (f q n b : Int) (a : Option Addr) (cp : Nat) (os : List O) (h : Ww w d) (hs : RdO w a os) (hl : os.length ≤ 20) (hq0 : 0 ≤ q) (hq1 : q ≤ 1099511627776) :
  Calls Tryz.prog 65 #[wv d, .int .i64 f, .int .i64 q, .int .i64 n, .int .i64 b, .slice a os.length cp] w fun e w' => ∃ v, e = .returned v ∧ RowM w w' v (spr d f q n b os) := by
 obtain ⟨W0, hW0⟩ : ∃ W0, W0 = w.alloc (.cells (wcs d) 25) := ⟨_, rfl⟩
 have hb0 : Below w.heap.size w W0 := by rw [hW0]; exact (Below.refl _ w).alloc (Nat.le_refl _) _
 have HX : Hid (BoxW W0 w.heap.size d) := by rw [hW0]; exact BoxW.new h
 have HS : Hid (RdO W0 a os) := hs.below hb0
 obtain ⟨B, hB⟩ : ∃ B, w.heap.size = B := ⟨_, rfl⟩
 rw [hB] at HX
 have HBE : Hid _ := hB
 have HW0 : Hid _ := hW0
 have hfl := h.fl
 dsimp only [wcs] at HW0
 dsimp only [wv]
 clear h hW0 hs
 go_enter Tryz.func65, Tryz.ntmps65
 go_wp2_with fail
 rw [← HW0.out]
 clear hB
 go_loopw [21, 13] (fun s21 s13 wr => ∃ k : Nat, k ≤ os.length ∧ s21 = .int .i64 k ∧ Hid (RowM W0 wr s13 (sprF d f q n b os k))) (fun s21 _ _ => os.length - (intOf s21).toNat)
 case atStart => exact ⟨0, Nat.zero_le _, rfl, (RowM.nil W0 : RowM W0 _ _ [])⟩
 case round =>
  obtain ⟨k, hk, rfl, HW⟩ := hrel
  have hbw : Below W0.heap.size W0 wr := HW.out.2
  by_cases hkl : k < os.length
  ·have hk' : (k : Int) < (os.length : Int) := by omega
   obtain ⟨o, ho⟩ : ∃ o, nthO os k = o := ⟨_, rfl⟩
   obtain ⟨ob, off, rfl, hbb, x0, x1, x2⟩ := (RdO.below HS.out hbw).cells hkl ho
   have HRE : Hid _ := ho
   obtain ⟨c, e, g⟩ := o
   dsimp only at x0 x1 x2
   have hb1 : Below wr.heap.size wr (wr.alloc (.cells #[.int .i64 c, .int .i64 e, .int .i64 g] 147)) := (Below.refl _ wr).alloc (Nat.le_refl _) _
   have S := sent_any (wr.alloc (.cells #[.int .i64 c, .int .i64 e, .int .i64 g] 147)) f (q + (k : Int)) n b c e g
   dsimp only [sentV] at S
   obtain ⟨T, hT⟩ : ∃ T, vadd n e = T := ⟨_, rfl⟩
   obtain ⟨D, hD⟩ : ∃ D, (b + g) % 1000 = D := ⟨_, rfl⟩
   rw [hT, hD] at S
   have HXE : Hid (sentM f (q + (k : Int)) n b (c, e, g) = ⟨T, f, q + (k : Int), -1, c, D⟩) := by rw [← hT, ← hD]; rfl
   have hq : IntKind.i64.wrap (q + (k : Int)) = q + (k : Int) := by rw [IntKind.wrap_i64]; omega
   have HC1 : Hid _ := BoxO.new wr (c, e, g)
   have hpl : (sprF d f q n b os k).length ≤ 400 := Nat.le_trans (sprF_len hfl f q n b os k) (by omega)
   have HSU : Hid (sprF d f q n b os (k + 1) = sprF d f q n b os k ++ (rts d f c).map (toM ⟨T, f, q + (k : Int), -1, c, D⟩)) := by
    show sprF d f q n b os (k + 1) = _
    rw [sprF_succ]
    unfold oneM
    rw [HRE.out, HXE.out]
   have hrl : (rts d f c).length ≤ 20 := Nat.le_trans (rtsF_len d f c _) hfl
   have HR := fun W (hW : Ww W d) => routes_any W d f c hW
   obtain ⟨L, hL⟩ : ∃ L, rts d f c = L := ⟨_, rfl⟩
   obtain ⟨P, hP⟩ : ∃ P, sprF d f q n b os k = P := ⟨_, rfl⟩
   simp only [hL, hP] at HSU hrl HR hpl HW
   have HHR : Hid _ := HR
   clear ho hT hD HR hL hP
   go_wp2_with fail
   refine S.mono ?_
   rintro e' w2 ⟨rfl, hb2⟩
   have hb2' := hb1.trans (hb2.mono hb1.size)
   have hb3 : Below w2.heap.size w2 (w2.alloc (.cells (mcs ⟨T, f, q + (k : Int), -1, c, D⟩) 39)) := (Below.refl _ _).alloc (Nat.le_refl _) _
   have hbw3 := hbw.trans ((hb2'.trans (hb3.mono hb2'.size)).mono hbw.size)
   have y := ((HX.out).below hbw3)
   have z0 := (BoxO.below (BoxO.below HC1.out hb2) hb3).c0
   have RT := (HHR.out) _ y.ok
   obtain ⟨y0, y1, y2, _⟩ := y
   have HB3 : Hid _ := hb3
   have HB2 : Hid _ := hb2'
   dsimp only [wv, mcs] at RT y0 y1 y2 z0
   clear S hb1 hb2 hb3 hb2' x0 x1 x2
   go_wp2_with fail
   refine RT.mono ?_
   rintro e' w4 ⟨vt, rfl, hrt⟩
   obtain ⟨ta, tc, rfl, htp⟩ := Row.parts hrt
   have MK : Mk W0 w4 w2.heap.size u13 ⟨T, f, q + (k : Int), -1, c, D⟩ w4 u13 P := Mk.start HW.out HB2.out hrt.2 rfl
   have HTP : Hid (L ≠ [] → ∃ g, ta = some ⟨g, 0, none⟩ ∧ w2.heap.size < g ∧ u13.ownBlock ≠ some g ∧ g < w4.heap.size ∧ ∀ i, i < L.length → w4.cell? ⟨g, i, none⟩ = some (.int .i64 (nthI L i))) := fun hne => by
    obtain ⟨g, e1, e2, e3, e4⟩ := htp hne
    simp at e2
    refine ⟨g, e1, by omega, fun e => ?_, e3, e4⟩
    have := RowM.own_lt HW.out e
    have := (HB2.out).size
    omega
   obtain ⟨MB, hMB⟩ : ∃ MB, w2.heap.size = MB := ⟨_, rfl⟩
   rw [hMB] at MK HTP
   have HMK : Hid _ := MK
   have HMB : Hid _ := hMB
   clear RT hrt htp MK y0 y1 y2 z0
   go_wp2_with fail
   clear hMB hbw hbw3
   go_loopw [40, 13] (fun s40 s13 wr => ∃ j : Nat, j ≤ L.length ∧ s40 = .int .i64 j ∧ Hid (Mk W0 w4 MB u13 ⟨T, f, q + (k : Int), -1, c, D⟩ wr s13 (P ++ (L.take j).map (toM ⟨T, f, q + (k : Int), -1, c, D⟩)))) (fun s40 _ _ => L.length - (intOf s40).toNat)
   case atStart => exact ⟨0, Nat.zero_le _, rfl, (by simpa using HMK.out : Mk W0 w4 MB u13 _ w4 u13 (P ++ (L.take 0).map _))⟩
   case round =>
    obtain ⟨j, hj, rfl, HM⟩ := hrel
    by_cases hjl : j < L.length
    ·have hj' : (j : Int) < (L.length : Int) := by omega
     obtain ⟨gb, rfl, h1, h2, h3, h4⟩ := HTP.out (by intro e; simp [e] at hjl)
     have t0 : wr.cell? ⟨gb, j, none⟩ = some (.int .i64 (nthI L j)) := ((Mk.fr HM.out).cell (p := ⟨gb, j, none⟩) h3 (by rintro (e | e); (dsimp only at e; omega); exact h2 e)).trans (h4 j hjl)
     obtain ⟨t, ht⟩ : ∃ t, nthI L j = t := ⟨_, rfl⟩
     rw [ht] at t0
     obtain ⟨t1, hbx⟩ := Mk.bx HM.out
     obtain ⟨_, _, _, _, _, _, mf⟩ := hbx.cells
     have mf3 := mf 3
     have hMBl := hbx.lt
     have m3 := hbx.cells.2.2.2.1
     obtain ⟨n0, n1, n2, n3, n4, n5, _⟩ := (BoxM.set hbx t).cells
     have hlen : (P ++ (L.take j).map (toM ⟨T, f, q + (k : Int), -1, c, D⟩)).length ≤ 100000 := by rw [List.length_append, List.length_map, List.length_take]; omega
     obtain ⟨a', c', w', hrun, hMk⟩ := Mk.step HM.out t hlen 53 (P ++ (L.take (j + 1)).map (toM ⟨T, f, q + (k : Int), -1, c, D⟩)) (by rw [List.append_assoc, ← ht, take_map_succ _ _ _ hjl])
     obtain ⟨X, hX⟩ : ∃ X, P ++ (L.take (j + 1)).map (toM ⟨T, f, q + (k : Int), -1, c, D⟩) = X := ⟨_, rfl⟩
     rw [hX] at hrun hMk
     have HRUN : Hid _ := hrun
     have HMK2 : Hid _ := hMk
     have HXX : Hid _ := hX
     dsimp only [mcs, toM] at HRUN n0 n1 n2 n3 n4 n5 m3
     clear h1 h2 h3 h4 ht mf hbx hrun hMk hX hlen
     go_wp2_with (at_builtin; refine wpList_append_run _ rfl _ _ 53 rfl rfl rfl HRUN.out ?_)
     go_roundw
     case rel =>
      refine ⟨j + 1, by omega, by go_num, ?_⟩
      show Mk _ _ _ _ _ _ _ (P ++ (L.take (j + 1)).map _)
      rw [HXX.out]
      exact HMK2.out
     case measure => simp [intOf]; omega
    ·obtain rfl : j = L.length := by omega
     go_wp2_with fail
     go_roundw
     case rel =>
      refine ⟨k + 1, by omega, by go_num, ?_⟩
      show RowM _ _ _ (sprF d f q n b os (k + 1))
      rw [HSU.out]
      have := Mk.row HM.out
      rwa [List.take_of_length_le (Nat.le_refl _)] at this
     case measure => simp [intOf]; omega
  ·obtain rfl : k = os.length := by omega
   go_wp2_with fail
   go_ret
   exact ⟨_, rfl, RowM.since HW.out hb0⟩
end Go.Proofs.YtiaopafkfadmkaaGreat
namespace Go.Proofs.YtiaopafkfadmkaaGreat
open Go.RowKit Go.Shelf
end Go.Proofs.YtiaopafkfadmkaaGreat
