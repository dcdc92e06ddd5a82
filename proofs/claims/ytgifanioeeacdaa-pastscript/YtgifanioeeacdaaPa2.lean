/- Proved: contracts of Back and of Settle of a past. -/
import Derived.Test.YtgifanioeeacdaaPa1
import Derived.Test.YtgifanioeeacdaaRev
import Derived.Test.YtgifanioeeacdaaBsk
import Derived.Test.YtgifanioeeacdaaBst
namespace Go.Proofs.Ytgifanioeeacdaa
open Go.RowKit Go.Shelf Go.Sort
set_option linter.unusedVariables false

/-- What Back takes out. -/
def gonK (k : K) (L : List P) : List P := (L.filter (fun x => !bef k x)).reverse
def gonT (t : Int) (L : List P) : List P := L.filter (low t)
theorem map_cut {l : List E} {n : Nat} : (l.take n).map E.p = (l.map E.p).take n ∧ (l.drop n).map E.p = (l.map E.p).drop n := ⟨by simp, by simp⟩
/-- What a call that takes entries out leaves behind. -/
def OutP (X : Nat → Prop) (w : World) (fl : Int) (G R : List P) (b : Nat) (v : Value) (e : Ending) (w' : World) : Prop :=
  ∃ a c v', e = .returned (.slice a G.length c) ∧ Gon (fun k => ¬ X k ∧ ¬ D b v' k) w' a G ∧ PP X w' fl R b v' ∧ Mw (D b v) (D b v') w w'
theorem back_fin {X : Nat → Prop} {w w3 w4 : World} {fl : Int} {l : List E} {b : Nat} {v v' : Value} {k : K} {i j : Nat} {a : Option Addr} {c : Nat} (hs : SrtP (l.map E.p)) (hi : cut (bef k) (l.map E.p) = i) (hj : l.length = j) (hxl : ∀ k, X k → k < w.heap.size)
    (ho : OwR cE 34 w4 (.slice a (j - i) c) ((l.drop i).take (j - i)).reverse) (hf : Fr (fun k => (Value.slice a (j - i) c).ownBlock = some k) w3 w4) (hn : ∀ k, (Value.slice a (j - i) c).ownBlock = some k → w.heap.size ≤ k)
    (hp : PQ (XG X (.slice a (j - i) c)) w3 fl (l.take i ++ l.drop j) b v') (hm : Mw (D b v) (D b v') w w3) (hx : ∀ x ∈ (l.drop i).take (j - i), Out (fun k => ¬ XG X (.slice a (j - i) c) k ∧ ¬ D b v' k) w3 x) :
    OutP X w fl (gonK k (l.map E.p)) ((l.map E.p).filter (bef k)) b v (.returned (.slice a (j - i) c)) w4 := by
  obtain ⟨e1, e2⟩ := cls_cut (cls_bef hs k)
  rw [hi] at e1 e2
  have hij : i ≤ j := by rw [← hi, ← hj]; have := cut_le (bef k) (l.map E.p); simpa using this
  have e3 : (l.drop i).take (j - i) = l.drop i := List.take_of_length_le (by rw [List.length_drop]; omega)
  rw [e3] at ho hx
  have e4 : l.take i ++ l.drop j = l.take i := by rw [List.drop_of_length_le (by omega), List.append_nil]
  rw [e4] at hp
  have eg : gonK k (l.map E.p) = (l.drop i).reverse.map E.p := by unfold gonK; rw [e2, List.map_reverse, map_cut.2]
  have hgl : (gonK k (l.map E.p)).length = j - i := by rw [eg]; simp; omega
  have kf : ∀ x, Out (fun k => ¬ XG X (.slice a (j - i) c) k ∧ ¬ D b v' k) w3 x → Out (fun k => ¬ X k ∧ ¬ D b v' k) w4 x := fun x h => h.keep hf (fun k _ g => ⟨fun e => g.1 (Or.inr e), fun e => g.1 (Or.inl e), g.2⟩)
  refine ⟨a, c, v', by rw [hgl], ⟨(l.drop i).reverse, eg.symm, ho.look.2.wide (fun k _ e => ?_), fun x hx' => kf x (hx x (List.mem_reverse.1 hx'))⟩, ⟨l.take i, by rw [e1, map_cut.1], hp.keep hf (fun k e => Or.inr e) (fun k _ e => Or.inl e) (fun k e => ?_), hs.filter _⟩, ?_⟩
  · refine ⟨fun e2 => ?_, fun d => hp.dx d (Or.inr e)⟩
    have := hxl k e2
    have := hn k e
    omega
  · exact Nat.lt_of_lt_of_le (hxl k e) (Nat.le_trans hm.fr.size hf.size)
  · exact ⟨hm.fr.trans hf (fun i hi e => by have := hn i e; omega), hm.new⟩
theorem settle_fin {X : Nat → Prop} {w w3 : World} {fl : Int} {l : List E} {b : Nat} {v v' : Value} {t : Int} {j : Nat} {a : Option Addr} {c : Nat} (hs : SrtP (l.map E.p)) (hj : cut (low t) (l.map E.p) = j) (hxl : ∀ k, X k → k < w.heap.size)
    (ho : OwR cE 34 w3 (.slice a (j - 0) c) ((l.drop 0).take (j - 0))) (hn : ∀ k, (Value.slice a (j - 0) c).ownBlock = some k → w.heap.size ≤ k)
    (hp : PQ (XG X (.slice a (j - 0) c)) w3 fl (l.take 0 ++ l.drop j) b v') (hm : Mw (D b v) (D b v') w w3) (hx : ∀ x ∈ (l.drop 0).take (j - 0), Out (fun k => ¬ XG X (.slice a (j - 0) c) k ∧ ¬ D b v' k) w3 x) :
    OutP X w fl (gonT t (l.map E.p)) ((l.map E.p).filter (fun x => !low t x)) b v (.returned (.slice a (j - 0) c)) w3 := by
  obtain ⟨e1, e2⟩ := cls_cut (cls_low hs t)
  rw [hj] at e1 e2
  rw [Nat.sub_zero] at *
  rw [List.drop_zero] at ho hx
  rw [List.take_zero, List.nil_append] at hp
  have hjl : j ≤ l.length := by rw [← hj]; have := cut_le (low t) (l.map E.p); simpa using this
  have eg : gonT t (l.map E.p) = (l.take j).map E.p := by unfold gonT; rw [e1, map_cut.1]
  have hgl : (gonT t (l.map E.p)).length = j := by rw [eg]; simp; omega
  refine ⟨a, c, v', by rw [hgl], ⟨l.take j, eg.symm, ho.look.2.wide (fun k _ e => ?_), fun x hx' => (hx x hx').wide (fun k _ g => ⟨fun e => g.1 (Or.inl e), g.2⟩)⟩, ⟨l.drop j, by rw [e2, map_cut.2], hp.keep (Fr.refl (fun _ => False) _) (fun k e => e.elim) (fun k _ e => Or.inl e) (fun k e => ?_), hs.filter _⟩, hm⟩
  · refine ⟨fun e2 => ?_, fun d => hp.dx d (Or.inr e)⟩
    have := hxl k e2
    have := hn k e
    omega
  · exact Nat.lt_of_lt_of_le (hxl k e) hm.fr.size
set_option maxRecDepth 100000 in
set_option maxHeartbeats 2000000 in
theorem back_any {X : Nat → Prop} {w : World} {fl : Int} {L : List P} {b : Nat} {v : Value} (h : PP X w fl L b v) (k : K) :
    Calls Try.prog 14 #[.pointer (some ⟨b, 0, none⟩), kv k] w (OutP X w fl (gonK k L) (L.filter (bef k)) b v) := by
  have mixed : Try.prog.follows .mixedOrders = true := by kernel_rfl
  obtain ⟨l, rfl, hq, hs⟩ := h
  obtain ⟨k1, k2, k3⟩ := k
  obtain ⟨a, c, rfl, _⟩ := hq.row.rd (N := fun _ => True) (fun _ _ => trivial)
  obtain ⟨i, hi⟩ : ∃ i, cut (bef (k1, k2, k3)) (l.map E.p) = i := ⟨_, rfl⟩
  have hil : i ≤ l.length := by rw [← hi]; have := cut_le (bef (k1, k2, k3)) (l.map E.p); simpa using this
  obtain ⟨w1, hw1⟩ : ∃ w1, w1 = w.alloc (.cells #[.int .i64 k1, .int .i64 k2, .int .i64 k3] 29) := ⟨_, rfl⟩
  have hb1 : Below w.heap.size w w1 := by rw [hw1]; exact al _ _
  have hq1 := hq.below hb1
  have B0 : w1.heap[w.heap.size]? = some (.cells #[.int .i64 k1, .int .i64 k2, .int .i64 k3] 29) := by rw [hw1]; exact newB _ _
  have HBS : Hid (∀ W, Below w1.heap.size w1 W → Calls Try.prog 29 #[.slice a l.length c, kv (k1, k2, k3), .func (.func 27) #[] #[]] W fun e w' => ∃ z : Bool, e = .returned (.tuple #[.int .i64 i, .bool z]) ∧ Below W.heap.size W w') := fun W hW => by
    have := bsfK (hq1.row.below hW) hq.cap (k1, k2, k3) hs
    rw [hi] at this
    exact this
  have HTK : Hid (∀ W, Below w1.heap.size w1 W → Calls Try.prog 30 #[.pointer (some ⟨b, 0, none⟩), .int .i64 i, .int .i64 l.length] W (TakenP X W fl l b (.slice a l.length c) i l.length)) := fun W hW => taken_any (hq1.below hW) hil (Nat.le_refl _)
  have HRD : Hid (∀ W, Below w1.heap.size w1 W → W.cell? ⟨b, 0, none⟩ = some (.slice a l.length c) ∧ W.cell? ⟨w.heap.size, 0, none⟩ = some (.int .i64 k1) ∧ W.cell? ⟨w.heap.size, 1, none⟩ = some (.int .i64 k2) ∧ W.cell? ⟨w.heap.size, 2, none⟩ = some (.int .i64 k3)) := fun W hW => by
    have B := (hW.block w.heap.size (Array.getElem?_eq_some_iff.1 B0).1).trans B0
    exact ⟨(hq1.below hW).c0, cellB B 0, cellB B 1, cellB B 2⟩
  have HFIN : Hid (∀ {W w3 w4 : World} {v' : Value} {a2 : Option Addr} {c2 : Nat}, Below w1.heap.size w1 W → OwR cE 34 w4 (.slice a2 (l.length - i) c2) ((l.drop i).take (l.length - i)).reverse → Fr (fun k => (Value.slice a2 (l.length - i) c2).ownBlock = some k) w3 w4 → (∀ k, (Value.slice a2 (l.length - i) c2).ownBlock = some k → W.heap.size ≤ k) →
      PQ (XG X (.slice a2 (l.length - i) c2)) w3 fl (l.take i ++ l.drop l.length) b v' → Mw (D b (.slice a l.length c)) (D b v') W w3 → (∀ x ∈ (l.drop i).take (l.length - i), Out (fun k => ¬ XG X (.slice a2 (l.length - i) c2) k ∧ ¬ D b v' k) w3 x) →
      OutP X w fl (gonK (k1, k2, k3) (l.map E.p)) ((l.map E.p).filter (bef (k1, k2, k3))) b (.slice a l.length c) (.returned (.slice a2 (l.length - i) c2)) w4) := by
    intro W w3 w4 v' a2 c2 hW h1 h2 h3 h4 h5 h6
    have hbW : Below w.heap.size w W := Below.on hb1 hW
    exact back_fin hs hi rfl hq.xl h1 h2 (fun k e => Nat.le_trans hbW.size (h3 k e)) h4 ((Mw.below hbW).trans h5) h6
  have hcap := hq.cap
  obtain ⟨x0, x1, x2, x3⟩ := HRD.out w1 (Below.refl _ _)
  have HW : Hid (w1 = w.alloc (.cells #[.int .i64 k1, .int .i64 k2, .int .i64 k3] 29)) := hw1
  have HCAP : Hid (l.length ≤ 64) := hcap
  dsimp only [kv]
  clear hw1 B0 hb1 hq1 hq hs hi hcap hil
  go_enter Try.func14, Try.ntmps14
  go_wp2_with fail
  rw [← HW.out]
  have BS : Hid (Calls Try.prog 29 #[.slice a l.length c, .agg #[.int .i64 k1, .int .i64 k2, .int .i64 k3], .func (.func 27) #[] #[]] w1.drew fun e w' => ∃ z : Bool, e = .returned (.tuple #[.int .i64 i, .bool z]) ∧ Below w1.heap.size w1 w') := (HBS.out w1.drew (Below.refl _ w1).drew).mono fun e w' ⟨z, he, hb⟩ => ⟨z, he, ⟨hb.os, hb.tape, hb.output, hb.size, hb.block⟩⟩
  go_region_held3 (fun w' => w'.cell? ⟨b, 0, none⟩ = some (.slice a l.length c) ∧ w'.cell? ⟨w.heap.size, 0, none⟩ = some (.int .i64 k1) ∧ w'.cell? ⟨w.heap.size, 1, none⟩ = some (.int .i64 k2) ∧ w'.cell? ⟨w.heap.size, 2, none⟩ = some (.int .i64 k3)) (first | (go_keep; done) | exact Hid.out KEEP) (first
    | (go_at_call 29; refine (Hid.out BS).mono ?_; rintro e w2 ⟨z, rfl, hb3⟩; have HB2 : Hid (Below w1.heap.size w1 w2) := hb3; have KEEP : Hid (w2.cell? ⟨b, 0, none⟩ = some (.slice a l.length c) ∧ w2.cell? ⟨w.heap.size, 0, none⟩ = some (.int .i64 k1) ∧ w2.cell? ⟨w.heap.size, 1, none⟩ = some (.int .i64 k2) ∧ w2.cell? ⟨w.heap.size, 2, none⟩ = some (.int .i64 k3)) := Hid.out HRD _ hb3; clear hb3 BS))
  go_wp2_with (first
    | (go_at_call 30; refine (Hid.out HTK _ (Hid.out HB2)).mono ?_; rintro e w3 ⟨a2, c2, v', rfl, ho, hn, hp, hm, hx⟩; have HO : Hid (OwR cE 34 w3 (.slice a2 (l.length - i) c2) ((l.drop i).take (l.length - i))) := ho; have HN : Hid (∀ k, (Value.slice a2 (l.length - i) c2).ownBlock = some k → w2.heap.size ≤ k) := hn; have HP : Hid (PQ (XG X (.slice a2 (l.length - i) c2)) w3 fl (l.take i ++ l.drop l.length) b v') := hp; have HM : Hid (Mw (D b (.slice a l.length c)) (D b v') w2 w3) := hm; have HX : Hid (∀ x ∈ (l.drop i).take (l.length - i), Out (fun k => ¬ XG X (.slice a2 (l.length - i) c2) k ∧ ¬ D b v' k) w3 x) := hx; clear ho hn hp hm hx)
    | (go_at_call 31; refine (rev_any (Hid.out HO) (by simp only [List.length_take, List.length_drop]; have := HCAP.out; omega)).mono ?_; rintro e w4 ⟨rfl, ho4, hf4⟩; have HO4 : Hid (OwR cE 34 w4 (.slice a2 (l.length - i) c2) ((l.drop i).take (l.length - i)).reverse) := ho4; have HF4 : Hid (Fr (fun k => (Value.slice a2 (l.length - i) c2).ownBlock = some k) w3 w4) := hf4; clear ho4 hf4))
  go_ret
  exact HFIN.out HB2.out HO4.out HF4.out HN.out HP.out HM.out HX.out
end Go.Proofs.Ytgifanioeeacdaa
