/- Joined: the texts that follow, each with its own sentence. -/
import Derived.Test.YtiaopafkfadmkaaGreatZAd
set_option linter.unusedVariables false
set_option maxRecDepth 100000
namespace Go.Proofs.YtiaopafkfadmkaaGreat.A
open Go.Proofs.YtiaopafkfadmkaaGreat.B
open Go.RowKit Go.Shelf Go.Sort
set_option maxHeartbeats 2000000 in
theorem settle_any {X : Nat → Prop} {w : World} {fl : Int} {L : List P} {b : Nat} {v : Value} (h : PP X w fl L b v) (t : Int) :
  Calls Tryz.prog 73 #[.pointer (some ⟨b, 0, none⟩), .int .i64 t] w (OutP X w (max fl t) (gonT t L) (L.filter (fun x => !low t x)) b v) := by
 obtain ⟨l, rfl, hq, hs⟩ := h
 obtain ⟨a, c, rfl, _⟩ := hq.row.rd (N := fun _ => True) (fun _ _ => trivial)
 obtain ⟨j, hj⟩ : ∃ j, cut (low t) (l.map E.p) = j := ⟨_, rfl⟩
 have hjl : j ≤ l.length := by rw [← hj]; have := cut_le (low t) (l.map E.p); simpa using this
 have BS : Calls Tryz.prog 119 #[.slice a l.length c, .int .i64 t, .func (.func 115) #[] #[]] w fun e w' => ∃ z : Bool, e = .returned (.tuple #[.int .i64 j, .bool z]) ∧ Below w.heap.size w w' := by
  have := bsfT hq.row hq.cap t hs
  rw [hj] at this
  exact this
 have HTK : Hid (∀ {W fl'}, PQ X W fl' l b (.slice a l.length c) → Calls Tryz.prog 120 #[.pointer (some ⟨b, 0, none⟩), .int .i64 0, .int .i64 j] W (TakenP X W fl' l b (.slice a l.length c) 0 j)) := fun hW => taken_any hW (Nat.zero_le _) hjl
 have HFIN : Hid (∀ {W w3 : World} {v' : Value} {a2 : Option Addr} {c2 : Nat}, Below w.heap.size w W → OwR cE 126 w3 (.slice a2 (j - 0) c2) ((l.drop 0).take (j - 0)) → (∀ k, (Value.slice a2 (j - 0) c2).ownBlock = some k → W.heap.size ≤ k) →
   PQ (XG X (.slice a2 (j - 0) c2)) w3 (max fl t) (l.take 0 ++ l.drop j) b v' → Mw (D b (.slice a l.length c)) (D b v') (W.setCell ⟨b, 1, none⟩ (.int .i64 (max fl t))) w3 → (∀ x ∈ (l.drop 0).take (j - 0), Out (fun k => ¬ XG X (.slice a2 (j - 0) c2) k ∧ ¬ D b v' k) w3 x) →
   OutP X w (max fl t) (gonT t (l.map E.p)) ((l.map E.p).filter (fun x => !low t x)) b (.slice a l.length c) (.returned (.slice a2 (j - 0) c2)) w3) := by
  intro W w3 v' a2 c2 hW h1 h3 h4 h5 h6
  exact settle_fin hs hj hq.xl h1 (fun k e => Nat.le_trans hW.size (h3 k e)) h4 ((Mw.below hW).trans (((hq.below hW).floor (max fl t)).2.trans h5)) h6
 have HP : Hid (PQ X w fl l b (.slice a l.length c)) := hq
 have c0 := hq.c0
 have hb := hq.lt
 clear hq hs hj hjl
 go_enter Tryz.func73, Tryz.ntmps73
 go_wp2_with (first
  | (go_at_call 119; refine BS.mono ?_; rintro e w1 ⟨z, rfl, hb1⟩; have d1 := ((HP.out.below hb1).c1); have f1 := ((HP.out.below hb1).froz 1); have HB1 : Hid (Below w.heap.size w w1) := hb1; clear hb1 BS)
  | (go_at_call 120; refine (Hid.out HTK ((HP.out.below (Hid.out HB1)).floor (max fl t)).1).mono ?_; rintro e w3 ⟨a2, c2, v', rfl, ho, hn, hp, hm, hx⟩; have HO : Hid (OwR cE 126 w3 (.slice a2 (j - 0) c2) ((l.drop 0).take (j - 0))) := ho; have HN : Hid (∀ k, (Value.slice a2 (j - 0) c2).ownBlock = some k → (w1.setCell ⟨b, 1, none⟩ (.int .i64 (max fl t))).heap.size ≤ k) := hn; have HQ : Hid (PQ (XG X (.slice a2 (j - 0) c2)) w3 (max fl t) (l.take 0 ++ l.drop j) b v') := hp; have HM : Hid (Mw (D b (.slice a l.length c)) (D b v') (w1.setCell ⟨b, 1, none⟩ (.int .i64 (max fl t))) w3) := hm; have HX : Hid (∀ x ∈ (l.drop 0).take (j - 0), Out (fun k => ¬ XG X (.slice a2 (j - 0) c2) k ∧ ¬ D b v' k) w3 x) := hx; clear ho hn hp hm hx))
 go_ret
 exact HFIN.out HB1.out HO.out (fun k e => by have h1 := HN.out k e; simpa using h1) HQ.out HM.out HX.out
end Go.Proofs.YtiaopafkfadmkaaGreat.A
