/- Proved: a past that was made since, and its calls; entries that sent nothing. -/
import Derived.Test.YtgifanioeeacdaaPa3
import Derived.Test.YtgifanioeeacdaaPa4
import Derived.Test.YtgifanioeeacdaaPa5
import Derived.Test.YtgifanioeeacdaaPky
namespace Go.Proofs.Ytgifanioeeacdaa
open Go.RowKit Go.Shelf Go.Sort
set_option linter.unusedVariables false

/-- A past, all of whose blocks were made since w. -/
def One (w W : World) (fl : Int) (L : List P) (b : Nat) : Prop := (∃ v, PP (fun k => k < w.heap.size) W fl L b v) ∧ Below w.heap.size w W
theorem One.bel {w W : World} {fl : Int} {L : List P} {b : Nat} (h : One w W fl L b) : Below w.heap.size w W := h.2
theorem One.on {w W W2 : World} {fl : Int} {L : List P} {b : Nat} (h : One w W fl L b) (hb : Below W.heap.size W W2) : One w W2 fl L b := by
  obtain ⟨⟨v, h⟩, h2⟩ := h
  exact ⟨⟨v, h.below hb⟩, Below.on h2 hb⟩
theorem PP.ge {B : Nat} {W : World} {fl : Int} {L : List P} {b : Nat} {v : Value} (h : PP (fun k => k < B) W fl L b v) : ∀ k, D b v k → B ≤ k := fun k d => by
  obtain ⟨l, _, hq, _⟩ := h
  have := hq.dx d
  omega
theorem One.new (w : World) : Calls Try.prog 9 #[] w fun e w' => e = .returned (.pointer (some ⟨w.heap.size, 0, none⟩)) ∧ One w w' 0 [] w.heap.size :=
  (new_any w (X := fun k => k < w.heap.size) (fun k h => h)).mono fun e w' ⟨he, hp, hb⟩ => ⟨he, ⟨_, hp⟩, hb⟩
theorem One.push {w W : World} {fl : Int} {L : List P} {b : Nat} (h : One w W fl L b) {N : Nat → Prop} {x : E} (ho : Out N W x) :
    Calls Try.prog 11 #[.pointer (some ⟨b, 0, none⟩), ev x] W fun e w' => e = .returned (.int .i64 (pushE fl L x.p)) ∧ One w w' fl (pushL fl L x.p) b := by
  obtain ⟨⟨v, h⟩, h2⟩ := h
  exact (push_any h ho).mono fun e w' ⟨v', he, hp, hm⟩ => ⟨he, ⟨v', hp⟩, h2.trans (hm.bel h2.size h.ge)⟩
/-- What is taken out, told with the past behind it. -/
theorem One.settle {w W : World} {fl : Int} {L : List P} {b : Nat} (h : One w W fl L b) (t : Int) :
    Calls Try.prog 16 #[.pointer (some ⟨b, 0, none⟩), .int .i64 t] W fun e w' => ∃ a c, e = .returned (.slice a (gonT t L).length c) ∧ One w w' (max fl t) (L.filter (fun x => !low t x)) b ∧ ∃ v, PP (fun k => k < w.heap.size) w' (max fl t) (L.filter (fun x => !low t x)) b v ∧ Gon (fun k => ¬ k < w.heap.size ∧ ¬ D b v k) w' a (gonT t L) := by
  obtain ⟨⟨v, h⟩, h2⟩ := h
  exact (settle_any h t).mono fun e w' ⟨a, c, v', he, hg, hp, hm⟩ => ⟨a, c, he, ⟨⟨v', hp⟩, h2.trans (hm.bel h2.size h.ge)⟩, v', hp, hg⟩
theorem One.back {w W : World} {fl : Int} {L : List P} {b : Nat} (h : One w W fl L b) (k : K) :
    Calls Try.prog 14 #[.pointer (some ⟨b, 0, none⟩), kv k] W fun e w' => ∃ a c, e = .returned (.slice a (gonK k L).length c) ∧ One w w' fl (L.filter (bef k)) b ∧ ∃ v, PP (fun k => k < w.heap.size) w' fl (L.filter (bef k)) b v ∧ Gon (fun i => ¬ i < w.heap.size ∧ ¬ D b v i) w' a (gonK k L) := by
  obtain ⟨⟨v, h⟩, h2⟩ := h
  exact (back_any h k).mono fun e w' ⟨a, c, v', he, hg, hp, hm⟩ => ⟨a, c, he, ⟨⟨v', hp⟩, h2.trans (hm.bel h2.size h.ge)⟩, v', hp, hg⟩
theorem One.len {w W : World} {fl : Int} {L : List P} {b : Nat} (h : One w W fl L b) : Calls Try.prog 23 #[.pointer (some ⟨b, 0, none⟩)] W fun e w' => e = .returned (.int .i64 L.length) ∧ W = w' := by
  obtain ⟨⟨v, h⟩, h2⟩ := h
  exact len_any h
theorem One.floor {w W : World} {fl : Int} {L : List P} {b : Nat} (h : One w W fl L b) : Calls Try.prog 24 #[.pointer (some ⟨b, 0, none⟩)] W fun e w' => e = .returned (.int .i64 fl) ∧ W = w' := by
  obtain ⟨⟨v, h⟩, h2⟩ := h
  exact floor_any h
theorem One.keys {w W : World} {fl : Int} {L : List P} {b : Nat} (h : One w W fl L b) :
    Calls Try.prog 20 #[.pointer (some ⟨b, 0, none⟩)] W fun e w' => ∃ a c, e = .returned (.slice a L.length c) ∧ OwR cK 29 w' (.slice a L.length c) (keysP L) ∧ (∀ k, (Value.slice a L.length c).ownBlock = some k → W.heap.size ≤ k) ∧ Below W.heap.size W w' := by
  obtain ⟨⟨v, h⟩, h2⟩ := h
  exact keys_any h

/-- An entry that sent nothing. -/
def mkP (t f s bd st : Int) : P := ⟨((t, f, s), 0, 0, bd), 0, 0, st, []⟩
theorem One.pushZ {w W : World} {fl : Int} {L : List P} {b : Nat} (h : One w W fl L b) (t f s bd st : Int) :
    Calls Try.prog 11 #[.pointer (some ⟨b, 0, none⟩), .agg #[.int .i64 t, .int .i64 f, .int .i64 s, .int .i64 0, .int .i64 0, .int .i64 bd, .int .i64 0, .int .i64 0, .int .i64 st, .slice none 0 0]] W fun e w' => e = .returned (.int .i64 (pushE fl L (mkP t f s bd st))) ∧ One w w' fl (pushL fl L (mkP t f s bd st)) b :=
  h.push (N := fun _ => True) (x := ⟨mkP t f s bd st, none, 0⟩) ⟨RdN.nil _ _ _ _, by simp [mkP]⟩
theorem last_lt {L : List P} {k : K} (h : ∀ x ∈ L, klt x.m.1 k = true) : ¬ (0 < L.length ∧ klt (nthP L (L.length - 1)).m.1 k = false) := fun ⟨h0, h1⟩ => by
  have := h _ (nthP_mem (L := L) (i := L.length - 1) (by omega))
  rw [this] at h1
  cases h1
theorem push_ok {fl : Int} {L : List P} {e : P} (h0 : fl ≤ e.m.1.1) (h1 : ∀ x ∈ L, klt x.m.1 e.m.1 = true) (h2 : L.length < 64) : pushE fl L e = 0 ∧ pushL fl L e = L ++ [e] := by
  have : pushE fl L e = 0 := by
    unfold pushE
    rw [if_neg (by omega), if_neg (last_lt h1), if_neg (by omega)]
  exact ⟨this, by unfold pushL; rw [if_pos this]⟩
theorem push_full {fl : Int} {L : List P} {e : P} (h0 : fl ≤ e.m.1.1) (h1 : ∀ x ∈ L, klt x.m.1 e.m.1 = true) (h2 : 64 ≤ L.length) : pushE fl L e = 2 ∧ pushL fl L e = L := by
  have : pushE fl L e = 2 := by
    unfold pushE
    rw [if_neg (by omega), if_neg (last_lt h1), if_pos h2]
  exact ⟨this, by unfold pushL; rw [if_neg (by rw [this]; decide)]⟩
theorem push_early {fl : Int} {L : List P} {e : P} (h0 : e.m.1.1 < fl) : pushE fl L e = 110 ∧ pushL fl L e = L := by
  have : pushE fl L e = 110 := by
    unfold pushE
    rw [if_pos h0]
  exact ⟨this, by unfold pushL; rw [if_neg (by rw [this]; decide)]⟩
theorem klt_of_T {a b : K} (h : a.1 < b.1) : klt a b = true := by rw [klt_iff]; exact Or.inl h
end Go.Proofs.Ytgifanioeeacdaa
