/- Joined: the texts that follow, each with its own sentence. -/
import Derived.Test.YtiaopafkfadmkaaGreatZGb
import Derived.Test.YtiaopafkfadmkaaGreatZGe
set_option linter.unusedVariables false
set_option maxRecDepth 100000
namespace Go.Proofs.YtiaopafkfadmkaaGreat.G
open Go.Proofs.YtiaopafkfadmkaaGreat.B
open Go.RowKit Go.Shelf Go.Sort
def OutM (X : Nat → Prop) (w : World) (fl : Int) (ms : List M) (L : List H) (b : Nat) (v : Value) (e : Ending) (w' : World) : Prop :=
 ∃ a n c v', e = .returned (.slice a n c) ∧ OwR cM 39 w' (.slice a n c) ms ∧ (∀ k, (Value.slice a n c).ownBlock = some k → w.heap.size ≤ k ∧ ¬ D b v' k) ∧ GQ X w' fl L b v' ∧ Mw (D b v) (D b v') w w'
theorem outM_fin {X : Nat → Prop} {w w2 w3 : World} {fl : Int} {ms : List M} {L : List H} {b n : Nat} {v v' : Value} {a : Option Addr} {c : Nat} (hq : GQ X w2 fl L b v') (hm : Mw (D b v) (D b v') w w2) (ho : OwR cM 39 w3 (.slice a n c) ms) (hn : ∀ k, (Value.slice a n c).ownBlock = some k → w2.heap.size ≤ k) (hb : Below w2.heap.size w2 w3) :
  OutM X w fl ms L b v (.returned (.slice a n c)) w3 :=
 ⟨a, n, c, v', rfl, ho, fun k e => ⟨Nat.le_trans hm.fr.size (hn k e), fun d => by have := hq.dlt d; have := hn k e; omega⟩, hq.below hb, hm.trans (Mw.below hb)⟩
set_option maxHeartbeats 2000000 in
theorem drop_any {X : Nat → Prop} {w : World} {fl : Int} {L : List H} {b : Nat} {v : Value} (h : GQ X w fl L b v) (k : K) :
  Calls Tryz.prog 205 #[.pointer (some ⟨b, 0, none⟩), kv k] w (OutM X w fl (dropG k L) (L.filter (befK k)) b v) := by
 obtain ⟨k1, k2, k3⟩ := k
 have hq1 := h.below (al w (.cells #[.int .i64 k1, .int .i64 k2, .int .i64 k3] 37))
 have PT := parted_any hq1 (drop_fn (k1, k2, k3) (newB w (.cells #[.int .i64 k1, .int .i64 k2, .int .i64 k3] 37)))
 have e1 : (L.filter (fun x => !(fun x => !befK (k1, k2, k3) x) x)) = L.filter (befK (k1, k2, k3)) := by simp
 rw [e1] at PT
 have HFIN : Hid (∀ {w2 w3 : World} {v' : Value} {a : Option Addr} {n c : Nat}, GQ X w2 fl (L.filter (befK (k1, k2, k3))) b v' → Mw (D b v) (D b v') (w.alloc (.cells #[.int .i64 k1, .int .i64 k2, .int .i64 k3] 37)) w2 → OwR cM 39 w3 (.slice a n c) (dropG (k1, k2, k3) L) → (∀ k, (Value.slice a n c).ownBlock = some k → w2.heap.size ≤ k) → Below w2.heap.size w2 w3 → OutM X w fl (dropG (k1, k2, k3) L) (L.filter (befK (k1, k2, k3))) b v (.returned (.slice a n c)) w3) := fun g1 g2 g3 g4 g5 => outM_fin g1 ((Mw.below (al w _)).trans g2) g3 g4 g5
 have HMS : Hid (∀ {w2 : World} {a : Option Addr} {n c : Nat}, OwR cH 189 w2 (.slice a n c) (L.filter (fun x => !befK (k1, k2, k3) x)) → Calls Tryz.prog 110 #[.slice a n c] w2 fun e w' => ∃ a' c', e = .returned (.slice a' n c') ∧ OwR cM 39 w' (.slice a' n c') (dropG (k1, k2, k3) L) ∧ (∀ k, (Value.slice a' n c').ownBlock = some k → w2.heap.size ≤ k) ∧ Below w2.heap.size w2 w') := fun ho => messages_any ho.look.2 ho.look.1.symm (Nat.le_trans (List.length_filter_le _ _) h.cap)
 dsimp only [kv]
 clear h hq1 e1
 go_enter Tryz.func205, Tryz.ntmps205
 go_wp2_with (first
  | (go_at_call 121; refine PT.mono ?_; rintro e w2 ⟨a2, n2, c2, v', rfl, ho, hn, hq, hm⟩; have HO : Hid (OwR cH 189 w2 (.slice a2 n2 c2) (L.filter (fun x => !befK (k1, k2, k3) x))) := ho; have HQ : Hid (GQ X w2 fl (L.filter (befK (k1, k2, k3))) b v') := hq; have HM : Hid (Mw (D b v) (D b v') (w.alloc (.cells #[.int .i64 k1, .int .i64 k2, .int .i64 k3] 37)) w2) := hm; clear ho hn hq hm PT)
  | (go_at_call 110; refine (Hid.out HMS (Hid.out HO)).mono ?_; rintro e w3 ⟨a3, c3, rfl, ho, hn, hb⟩; have HO3 : Hid (OwR cM 39 w3 (.slice a3 n2 c3) (dropG (k1, k2, k3) L)) := ho; have HN3 : Hid (∀ k, (Value.slice a3 n2 c3).ownBlock = some k → w2.heap.size ≤ k) := hn; have HB3 : Hid (Below w2.heap.size w2 w3) := hb; clear ho hn hb))
 go_ret
 exact HFIN.out HQ.out HM.out HO3.out HN3.out HB3.out
set_option maxHeartbeats 2000000 in
theorem open_any {X : Nat → Prop} {w : World} {fl : Int} {L : List H} {b : Nat} {v : Value} (h : GQ X w fl L b v) (t : Int) :
  Calls Tryz.prog 74 #[.pointer (some ⟨b, 0, none⟩), .int .i64 t] w (OutM X w (max fl t) (openG t L) (L.filter (fun x => !low t x)) b v) := by
 have mixed : Tryz.prog.follows .mixedOrders = true := by kernel_rfl
 have hq1 := h.below (al w (.cells #[.int .i64 t] 3))
 have PT0 := parted_any hq1 (open_fn t (newB w (.cells #[.int .i64 t] 3)))
 obtain ⟨G, hG⟩ : ∃ G, L.filter (low t) = G := ⟨_, rfl⟩
 obtain ⟨R, hR⟩ : ∃ R, L.filter (fun x => !low t x) = R := ⟨_, rfl⟩
 rw [hG, hR] at PT0
 have hgl : G.length ≤ 256 := by rw [← hG]; exact Nat.le_trans (List.length_filter_le _ _) h.cap
 have hO : openG t L = msgs (Stb.isort leH G) := by unfold openG; rw [hG]
 rw [hO, hR]
 have hbw : b < w.heap.size := h.lt
 -- behind the parting and the sorting
 have HST : Hid (∀ {w2 : World} {v' : Value} {a : Option Addr} {n c : Nat}, OwR cH 189 w2 (.slice a n c) G → (∀ k, (Value.slice a n c).ownBlock = some k → (w.alloc (.cells #[.int .i64 t] 3)).heap.size ≤ k ∧ ¬ D b v' k) → GQ X w2 fl R b v' → Mw (D b v) (D b v') (w.alloc (.cells #[.int .i64 t] 3)) w2 →
   Calls Tryz.prog 123 #[.slice a n c, .func (.func 124) #[] #[]] w2 fun e w3 => e = .returned (.tuple #[]) ∧ OwR cH 189 w3 (.slice a n c) (Stb.isort leH G) ∧ (∀ k, (Value.slice a n c).ownBlock = some k → ¬ D b v' k) ∧ GQ X w3 fl R b v' ∧ Mw (D b v) (D b v') w w3 ∧ w3.cell? ⟨b, 1, none⟩ = some (.int .i64 fl) ∧ w3.frozen? ⟨b, 1, none⟩ = false ∧ b < w3.heap.size ∧ w3.cell? ⟨w.heap.size, 0, none⟩ = some (.int .i64 t) ∧ w.heap.size < w3.heap.size) := fun {w2 v' a n c} ho hn hq hm => by
  refine (sort_any ho hgl).mono fun e w3 ⟨he, ho3, hf⟩ => ?_
  have hq3 : GQ X w3 fl R b v' := hq.keep hf (fun k e => (hn k e).2) (fun k _ e d => hq.dx d e) (fun k e => Nat.lt_of_lt_of_le (hq.xl k e) hf.size)
  have hm2 : Mw (D b v) (D b v') w w2 := (Mw.below (al w _)).trans hm
  have hm3 : Mw (D b v) (D b v') w w3 := ⟨hm2.fr.trans hf (fun i hi e => by have := (hn i e).1; simp at this; omega), hm2.new⟩
  have nd : ¬ D b v w.heap.size := fun d => by have := h.dlt d; omega
  have hbx : w2.heap[w.heap.size]? = some (.cells #[.int .i64 t] 3) := (hm.fr.block w.heap.size (by simp) nd).trans (newB w _)
  have lbx : w.heap.size < w2.heap.size := (Array.getElem?_eq_some_iff.1 hbx).1
  have hbx3 : w3.heap[w.heap.size]? = some (.cells #[.int .i64 t] 3) := (hf.block w.heap.size lbx (fun e => by have := (hn _ e).1; simp at this; omega)).trans hbx
  exact ⟨he, ho3, fun k e => (hn k e).2, hq3, hm3, hq3.c1, hq3.froz 1, hq3.lt, cellB hbx3 0, (Array.getElem?_eq_some_iff.1 hbx3).1⟩
 have HMS : Hid (∀ {w4 : World} {a : Option Addr} {n c : Nat}, OwR cH 189 w4 (.slice a n c) (Stb.isort leH G) → Calls Tryz.prog 110 #[.slice a n c] w4 fun e w' => ∃ a' c', e = .returned (.slice a' n c') ∧ OwR cM 39 w' (.slice a' n c') (msgs (Stb.isort leH G)) ∧ (∀ k, (Value.slice a' n c').ownBlock = some k → w4.heap.size ≤ k) ∧ Below w4.heap.size w4 w') := fun ho => messages_any ho.look.2 ho.look.1.symm (by rw [Stb.isort_len]; exact hgl)
 have PT : Calls Tryz.prog 121 #[.pointer (some ⟨b, 0, none⟩), .func (.func 122) #[] #[.pointer (some ⟨w.heap.size, 0, none⟩)]] (w.alloc (.cells #[.int .i64 t] 3)) fun e w' => ∃ a n c v', e = .returned (.slice a n c) ∧ OwR cH 189 w' (.slice a n c) G ∧ (∀ k, (Value.slice a n c).ownBlock = some k → (w.alloc (.cells #[.int .i64 t] 3)).heap.size ≤ k ∧ ¬ D b v' k) ∧ GQ X w' fl R b v' ∧ Mw (D b v) (D b v') (w.alloc (.cells #[.int .i64 t] 3)) w' := PT0
 obtain ⟨mx, hmx⟩ : ∃ mx, max fl t = mx := ⟨_, rfl⟩
 rw [hmx]
 have HMX : Hid (max fl t = mx) := hmx
 clear h hq1 PT0 hG hR hO hgl hmx
 go_enter Tryz.func74, Tryz.ntmps74
 go_wp2_with (first
  | (go_at_call 121; refine PT.mono ?_; rintro e w2 ⟨a2, n2, c2, v', rfl, ho, hn, hq, hm⟩; have HO0 : Hid (OwR cH 189 w2 (.slice a2 n2 c2) G) := ho; have HN0 : Hid (∀ k, (Value.slice a2 n2 c2).ownBlock = some k → (w.alloc (.cells #[.int .i64 t] 3)).heap.size ≤ k ∧ ¬ D b v' k) := hn; have HQ0 : Hid (GQ X w2 fl R b v') := hq; have HM0 : Hid (Mw (D b v) (D b v') (w.alloc (.cells #[.int .i64 t] 3)) w2) := hm; clear ho hn hq hm PT)
  | (go_at_call 123; refine (Hid.out HST (Hid.out HO0) (Hid.out HN0) (Hid.out HQ0) (Hid.out HM0)).mono ?_; rintro e w3 ⟨rfl, ho, hn, hq, hm, k1, k2, k3, k4, k5⟩; have HO : Hid (OwR cH 189 w3 (.slice a2 n2 c2) (Stb.isort leH G)) := ho; have HN : Hid (∀ k, (Value.slice a2 n2 c2).ownBlock = some k → ¬ D b v' k) := hn; have HQ : Hid (GQ X w3 fl R b v') := hq; have HM : Hid (Mw (D b v) (D b v') w w3) := hm; clear ho hn hq hm HO0 HN0 HQ0 HM0))
 go_region
 have hw4 : ∃ w4, (w3.setCell ⟨b, 1, none⟩ (.int .i64 (max fl t))).drew = w4 := ⟨_, rfl⟩
 obtain ⟨w4, hw4⟩ := hw4
 rw [hw4]
 have hdr : Below (w3.setCell ⟨b, 1, none⟩ (.int .i64 (max fl t))).heap.size (w3.setCell ⟨b, 1, none⟩ (.int .i64 (max fl t))) w4 := by rw [← hw4]; exact (Below.refl _ _).drew
 have HQ4 : Hid (GQ X w4 mx R b v') := by
  have := (HQ.out.floor (max fl t)).1.below hdr
  rw [HMX.out] at this
  rw [HMX.out] at hdr
  exact this
 have HM4 : Hid (Mw (D b v) (D b v') w w4) := (HM.out.trans (HQ.out.floor (max fl t)).2).trans (Mw.below hdr)
 have HO4 : Hid (OwR cH 189 w4 (.slice a2 n2 c2) (Stb.isort leH G)) := (HO.out.keep ((Fr.refl (fun k => k = b) _).setCell _ _ (Or.inl rfl)) (fun k e s => HN.out k e (Or.inl s))).below hdr
 clear hdr hw4 k1 k2 k3 k4 k5
 go_wp2_with (go_at_call 110; refine (Hid.out HMS (Hid.out HO4)).mono ?_; rintro e w5 ⟨a3, c3, rfl, ho, hn, hb⟩; have HO3 : Hid (OwR cM 39 w5 (.slice a3 n2 c3) (msgs (Stb.isort leH G))) := ho; have HN3 : Hid (∀ k, (Value.slice a3 n2 c3).ownBlock = some k → w4.heap.size ≤ k) := hn; have HB3 : Hid (Below w4.heap.size w4 w5) := hb; clear ho hn hb)
 go_ret
 exact outM_fin HQ4.out HM4.out HO3.out HN3.out HB3.out
end Go.Proofs.YtiaopafkfadmkaaGreat.G
