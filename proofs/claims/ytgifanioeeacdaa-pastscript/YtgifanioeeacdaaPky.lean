/- Proved: the contract of Keys of a past. -/
import Derived.Test.YtgifanioeeacdaaPa0
namespace Go.Proofs.Ytgifanioeeacdaa
open Go.RowKit Go.Shelf Go.Sort
set_option linter.unusedVariables false

theorem new_ge {w W w2 : World} {v v' : Value} (hs : w.heap.size ≤ W.heap.size) (h : ∀ k, v.ownBlock = some k → w.heap.size ≤ k) (hm : Mw (fun k => v.ownBlock = some k) (fun k => v'.ownBlock = some k) W w2) {k : Nat} (e : v'.ownBlock = some k) : w.heap.size ≤ k := by
  rcases Nat.lt_or_ge k W.heap.size with g | g
  · exact h k (hm.new k g e)
  · omega
def keyE (x : E) : K := x.p.m.1
set_option maxRecDepth 100000 in
set_option maxHeartbeats 2000000 in
theorem keysE {w : World} {b : Nat} {a : Option Addr} {c : Nat} {l : List E} (c0 : w.cell? ⟨b, 0, none⟩ = some (.slice a l.length c)) (hr : OwR cE 34 w (.slice a l.length c) l) (hl : l.length ≤ 64) :
    Calls Try.prog 20 #[.pointer (some ⟨b, 0, none⟩)] w fun e w' => ∃ a' c', e = .returned (.slice a' l.length c') ∧ OwR cK 29 w' (.slice a' l.length c') (l.map keyE) ∧ (∀ k, (Value.slice a' l.length c').ownBlock = some k → w.heap.size ≤ k) ∧ Below w.heap.size w w' := by
  have HR : Hid (OwR cE 34 w (.slice a l.length c) l) := hr
  clear hr
  go_enter Try.func20, Try.ntmps20
  go_wp2
  go_loopw [3, 11] (fun s3 s11 wr => ∃ (i : Nat) (ka : Option Addr) (kc : Nat), s11 = .int .i64 i ∧ i ≤ l.length ∧ s3 = .slice ka i kc ∧ Hid (OwR cK 29 wr (.slice ka i kc) ((l.take i).map keyE)) ∧ Hid (∀ k, (Value.slice ka i kc).ownBlock = some k → w.heap.size ≤ k) ∧ Hid (Below w.heap.size w wr)) (fun _ s11 _ => l.length - (intOf s11).toNat)
  case atStart => exact ⟨0, none, 0, rfl, Nat.zero_le _, rfl, (OwR.nil cK _ _ : OwR cK 29 w (.slice none 0 0) []), (fun k e => by simp [Value.ownBlock] at e : ∀ k, (Value.slice none 0 0).ownBlock = some k → w.heap.size ≤ k), Below.refl _ _⟩
  case round =>
    obtain ⟨i, ka, kc, rfl, hi, rfl, HO, HN, HB⟩ := hrel
    by_cases hlt : i < l.length
    · have hlt' : (i : Int) < (l.length : Int) := by omega
      obtain ⟨x, hx⟩ : ∃ x, nth cE l i = x := ⟨_, rfl⟩
      obtain ⟨g, rfl, hg, x0, x1, x2, x3, x4, x5, x6, x7, x8, x9⟩ := (HR.out.below HB.out).entry hlt hx
      have hX : (l.take i).map keyE ++ [keyE x] = (l.take (i + 1)).map keyE := by
        rw [List.take_add_one, List.map_append, List.getElem?_eq_getElem hlt]
        rw [nth_get hlt] at hx
        simp [hx]
      obtain ⟨X, hXe⟩ : ∃ X, X = (l.take (i + 1)).map keyE := ⟨_, rfl⟩
      rw [← hXe] at hX
      have HX : Hid ((l.take i).map keyE ++ [keyE x] = X) := hX
      have HL : Hid (X.length = i + 1) := by rw [hXe]; show ((l.take (i + 1)).map keyE).length = i + 1; rw [List.length_map, List.length_take]; omega
      have HXE : Hid (X = (l.take (i + 1)).map keyE) := hXe
      obtain ⟨⟨⟨⟨y1, y2, y3⟩, y4, y5, y6⟩, y7, y8, y9, yos⟩, yoa, yoc⟩ := x
      obtain ⟨n, hn⟩ : ∃ n, yos.length = n := ⟨_, rfl⟩
      simp only [hn] at x9
      clear hX hx hXe
      have HB2 : Hid (∀ o1 o2, Below w.heap.size w ((wr.alloc o1).alloc o2)) := fun o1 o2 => Below.on HB.out (Below.on (al _ _) (al _ _))
      go_wp2_with (at_builtin; refine wpList_append_R tyK (fun _ => True) _ rfl (.tmp 15) (.tmp 19) rfl _ _ _ ((l.take i).map keyE) [(y1, y2, y3)] rfl rfl (HO.out.below (Below.on (al _ _) (al _ _))) (RdN.newAt cK _ _ _ _ _ (by simp) rfl trivial) (by simp; omega) (by simp) X HX.out ?_; intro a' c' w2 ho hm; have HO2 : Hid (OwR cK 29 w2 (.slice a' X.length c') X) := ho; have HB3 : Hid (Below w.heap.size w w2) := (HB2.out _ _).trans (hm.fr.below (HB2.out _ _).size HN.out); have HN2 : Hid (∀ k, (Value.slice a' X.length c').ownBlock = some k → w.heap.size ≤ k) := (fun k e => new_ge (HB2.out _ _).size HN.out hm e); clear ho hm)
      go_roundw
      case rel =>
        refine ⟨i + 1, a', c', by go_num, by omega, by rw [HL.out], ?_, ?_, HB3.out⟩
        · have h1 : OwR cK 29 w2 (.slice a' X.length c') X := HO2.out
          rw [HL.out, HXE.out] at h1
          exact h1
        · have h1 : ∀ k, (Value.slice a' X.length c').ownBlock = some k → w.heap.size ≤ k := HN2.out
          rw [HL.out] at h1
          exact h1
      case measure => simp [intOf]; omega
    · obtain rfl : i = l.length := by omega
      go_wp2
      go_ret
      refine ⟨_, _, rfl, ?_, HN.out, HB.out⟩
      have := HO.out
      rwa [List.take_of_length_le (Nat.le_refl _)] at this
/-- Its keys. -/
def keysP (L : List P) : List K := L.map (fun x => x.m.1)
theorem keys_any {X : Nat → Prop} {w : World} {fl : Int} {L : List P} {b : Nat} {v : Value} (h : PP X w fl L b v) :
    Calls Try.prog 20 #[.pointer (some ⟨b, 0, none⟩)] w fun e w' => ∃ a c, e = .returned (.slice a L.length c) ∧ OwR cK 29 w' (.slice a L.length c) (keysP L) ∧ (∀ k, (Value.slice a L.length c).ownBlock = some k → w.heap.size ≤ k) ∧ Below w.heap.size w w' := by
  obtain ⟨l, rfl, hq, hs⟩ := h
  obtain ⟨a, c, rfl, _⟩ := hq.row.rd (N := fun _ => True) (fun _ _ => trivial)
  have := keysE hq.c0 hq.row hq.cap
  have e : keysP (l.map E.p) = l.map keyE := by unfold keysP keyE; simp
  rw [e, List.length_map]
  exact this
end Go.Proofs.Ytgifanioeeacdaa
