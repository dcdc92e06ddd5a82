/- Joined: the texts that follow, each with its own sentence. -/
import Derived.Test.YtiaopafkfadmkaaGreatZGb
import Derived.Test.YtiaopafkfadmkaaGreatZGe
/- Proved: contracts of Drop, Open, Retract of a gate. -/
namespace Go.Proofs.YtiaopafkfadmkaaGreat.G
open Go.Proofs.YtiaopafkfadmkaaGreat.B
open Go.RowKit Go.Shelf Go.Sort
set_option linter.unusedVariables false

/-- Messages that a call answers, and the gate behind it. -/
def OutM (X : Nat → Prop) (w : World) (fl : Int) (ms : List M) (L : List H) (b : Nat) (v : Value) (e : Ending) (w' : World) : Prop :=
  ∃ a n c v', e = .returned (.slice a n c) ∧ OwR cM 39 w' (.slice a n c) ms ∧ (∀ k, (Value.slice a n c).ownBlock = some k → w.heap.size ≤ k ∧ ¬ D b v' k) ∧ GQ X w' fl L b v' ∧ Mw (D b v) (D b v') w w'
theorem outM_fin {X : Nat → Prop} {w w2 w3 : World} {fl : Int} {ms : List M} {L : List H} {b n : Nat} {v v' : Value} {a : Option Addr} {c : Nat} (hq : GQ X w2 fl L b v') (hm : Mw (D b v) (D b v') w w2) (ho : OwR cM 39 w3 (.slice a n c) ms) (hn : ∀ k, (Value.slice a n c).ownBlock = some k → w2.heap.size ≤ k) (hb : Below w2.heap.size w2 w3) :
    OutM X w fl ms L b v (.returned (.slice a n c)) w3 :=
  ⟨a, n, c, v', rfl, ho, fun k e => ⟨Nat.le_trans hm.fr.size (hn k e), fun d => by have := hq.dlt d; have := hn k e; omega⟩, hq.below hb, hm.trans (Mw.below hb)⟩
set_option maxRecDepth 100000 in
set_option maxHeartbeats 2000000 in
theorem drop_any {X : Nat → Prop} {w : World} {fl : Int} {L : List H} {b : Nat} {v : Value} (h : GQ X w fl L b v) (k : K) :
    Calls Tryz.prog 205 #[.pointer (some ⟨b, 0, none⟩), kv k] w (OutM X w fl (dropG k L) (L.filter (befK k)) b v) := by
  obtain ⟨k1, k2, k3⟩ := k
  have hq1 := h.below (al w (.cells #[.int .i64 k1, .int .i64 k2, .int .i64 k3] 37))
  have PT := parted_any hq1 (drop_fn (k1, k2, k3) (newB w (.cells #[.int .i64 k1, .int .i64 k2, .int .i64 k3] 37)))
  have e1 : (L.filter (fun x => !(fun x => !befK (k1, k2, k3) x) x)) = L.filter (befK (k1, k2, k3)) := by simp
  rw [e1] at PT
  have HFIN : Hid (∀ {w2 w3 : World} {v' : Value} {a : Option Addr} {n c : Nat}, GQ X w2 fl (L.filter (befK (k1, k2, k3))) b v' → Mw (D b v) (D b v') (w.alloc (.cells #[.int .i64 k1, .int .i64 k2, .int .i64 k3] 37)) w2 → OwR cM 39 w3 (.slice a n c) (dropG (k1, k2, k3) L) → (∀ k, (Value.slice a n c).ownBlock = some k → w2.heap.size ≤ k) → Below w2.heap.size w2 w3 → OutM X w fl (dropG (k1, k2, k3) L) (L.filter (befK (k1, k2, k3))) b v (.returned (.slice a n c)) w3) := fun g1 g2 g3 g4 g5 => outM_fin g1 ((Mw.below (al w _)).trans g2) g3 g4 g5
  have HMS : Hid (∀ {w2 : World} {a : Option Addr} {n c : Nat}, OwR cH 189 w2 (.slice a n c) (L.filter (fun x => !befK (k1, k2, k3) x)) → Calls Tryz.prog 110 #[.slice a n c] w2 fun e w' => ∃ a' c', e = .returned (.slice a' n c') ∧ OwR cM 39 w' (.slice a' n c') (dropG (k1, k2, k3) L) ∧ (∀ k, (Value.slice a' n c').ownBlock = some k → w2.heap.size ≤ k) ∧ Below w2.heap.size w2 w') := fun ho => messages_any ho.look.2 ho.look.1.symm (Nat.le_trans (List.length_filter_le _ _) h.cap)
  dsimp only [kv]
  clear h hq1 e1
  go_enter Tryz.func205, Tryz.ntmps205
  go_wp2_with (first
    | (go_at_call 121; refine PT.mono ?_; rintro e w2 ⟨a2, n2, c2, v', rfl, ho, hn, hq, hm⟩; have HO : Hid (OwR cH 189 w2 (.slice a2 n2 c2) (L.filter (fun x => !befK (k1, k2, k3) x))) := ho; have HQ : Hid (GQ X w2 fl (L.filter (befK (k1, k2, k3))) b v') := hq; have HM : Hid (Mw (D b v) (D b v') (w.alloc (.cells #[.int .i64 k1, .int .i64 k2, .int .i64 k3] 37)) w2) := hm; clear ho hn hq hm PT)
    | (go_at_call 110; refine (Hid.out HMS (Hid.out HO)).mono ?_; rintro e w3 ⟨a3, c3, rfl, ho, hn, hb⟩; have HO3 : Hid (OwR cM 39 w3 (.slice a3 n2 c3) (dropG (k1, k2, k3) L)) := ho; have HN3 : Hid (∀ k, (Value.slice a3 n2 c3).ownBlock = some k → w2.heap.size ≤ k) := hn; have HB3 : Hid (Below w2.heap.size w2 w3) := hb; clear ho hn hb))
  go_ret
  exact HFIN.out HQ.out HM.out HO3.out HN3.out HB3.out
/-- What Retract answers. -/
def retN (k : K) (L : List H) : Int := ((L.filter (hasK k)).length : Nat)
def retE (k : K) (L : List H) : Int := if (L.filter (hasK k)).length = 0 then 209 else 0
end Go.Proofs.YtiaopafkfadmkaaGreat.G
