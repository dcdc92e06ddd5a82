/- Proved: a gate that was made since, rows of messages beside it, and its calls; two things beside each other; when two rows are the same. -/
import Derived.Test.YtpkemgpnpadkfaaOpr
import Derived.Test.YtpkemgpnpadkfaaHol
namespace Go.Proofs.Ytpkemgpnpadkfaa
open Go.RowKit Go.Shelf Go.Sort
set_option linter.unusedVariables false

abbrev Rws := List (Option Addr × List M)
/-- A gate, all of whose blocks were made since w, and rows of messages that are none of its own. -/
def Ga (w W : World) (fl : Int) (L : List H) (b : Nat) (rs : Rws) : Prop := ∃ v, GQ (fun k => k < w.heap.size) W fl L b v ∧ Below w.heap.size w W ∧ ∀ r ∈ rs, RdN cM (fun k => ¬ D b v k) W r.1 r.2
theorem Ga.bel {w W : World} {fl : Int} {L : List H} {b : Nat} {rs : Rws} (h : Ga w W fl L b rs) : Below w.heap.size w W := by
  obtain ⟨v, _, h2, _⟩ := h
  exact h2
theorem Ga.cap {w W : World} {fl : Int} {L : List H} {b : Nat} {rs : Rws} (h : Ga w W fl L b rs) : L.length ≤ 256 := by
  obtain ⟨v, h1, _, _⟩ := h
  exact h1.cap
theorem Ga.on {w W W2 : World} {fl : Int} {L : List H} {b : Nat} {rs : Rws} (h : Ga w W fl L b rs) (hb : Below W.heap.size W W2) : Ga w W2 fl L b rs := by
  obtain ⟨v, h1, h2, h3⟩ := h
  exact ⟨v, h1.below hb, Below.on h2 hb, fun r hr => (h3 r hr).below hb⟩
theorem Ga.less {w W : World} {fl : Int} {L : List H} {b : Nat} {rs rs' : Rws} (h : Ga w W fl L b rs) (hs : ∀ r ∈ rs', r ∈ rs) : Ga w W fl L b rs' := by
  obtain ⟨v, h1, h2, h3⟩ := h
  exact ⟨v, h1, h2, fun r hr => h3 r (hs r hr)⟩
theorem Ga.row {w W : World} {fl : Int} {L : List H} {b : Nat} {rs : Rws} (h : Ga w W fl L b rs) {a : Option Addr} {l : List M} (hr : (a, l) ∈ rs) : RdN cM (fun _ => True) W a l := by
  obtain ⟨v, h1, h2, h3⟩ := h
  exact (h3 _ hr).wide (fun _ _ _ => trivial)
theorem ga_upd {w W w' : World} {fl fl' : Int} {L L' : List H} {b : Nat} {v v' : Value} {rs rs' : Rws} (h1 : GQ (fun k => k < w.heap.size) W fl L b v) (h2 : Below w.heap.size w W) (h3 : ∀ r ∈ rs, RdN cM (fun k => ¬ D b v k) W r.1 r.2) (g1 : GQ (fun k => k < w.heap.size) w' fl' L' b v') (g2 : Mw (D b v) (D b v') W w') (g3 : ∀ r ∈ rs', RdN cM (fun k => ¬ D b v' k) w' r.1 r.2) : Ga w w' fl' L' b (rs' ++ rs) := by
  refine ⟨v', g1, h2.trans (g2.bel h2.size (fun i d => by have := h1.dx d; omega)), fun r hr => ?_⟩
  rcases List.mem_append.1 hr with hr | hr
  · exact g3 r hr
  · exact (h3 r hr).keep g2.fr (fun k hk e => ⟨e, fun d => e (g2.new k hk d)⟩)
theorem Ga.new (w : World) : Calls Try.prog 9 #[] w fun e w' => e = .returned (.pointer (some ⟨w.heap.size, 0, none⟩)) ∧ Ga w w' 0 [] w.heap.size [] :=
  (new_any w (X := fun k => k < w.heap.size) (fun k h => h)).mono fun e w' ⟨he, hp, hb⟩ => ⟨he, _, hp, hb, fun r hr => by cases hr⟩
theorem Ga.hold {w W : World} {fl : Int} {L : List H} {b : Nat} {rs : Rws} (h : Ga w W fl L b rs) (x : H) :
    Calls Try.prog 11 #[.pointer (some ⟨b, 0, none⟩), kv x.1, mv x.2] W fun e w' => e = .returned (.int .i64 (holdE fl L x)) ∧ Ga w w' fl (holdL fl L x) b rs := by
  obtain ⟨v, h1, h2, h3⟩ := h
  exact (hold_any h1 x).mono fun e w' ⟨v', he, hq, hm⟩ => ⟨he, ga_upd h1 h2 h3 hq hm (rs' := []) (fun r hr => by cases hr)⟩
theorem outM_row {X : Nat → Prop} {w w' : World} {fl : Int} {ms : List M} {L : List H} {b n : Nat} {v' : Value} {a : Option Addr} {c : Nat} (ho : OwR cM 30 w' (.slice a n c) ms) (hn : ∀ k, (Value.slice a n c).ownBlock = some k → w.heap.size ≤ k ∧ ¬ D b v' k) : RdN cM (fun k => w.heap.size ≤ k ∧ ¬ D b v' k) w' a ms := ho.look.2.wide (fun k _ e => hn k e)
theorem Ga.drop {w W : World} {fl : Int} {L : List H} {b : Nat} {rs : Rws} (h : Ga w W fl L b rs) (k : K) :
    Calls Try.prog 14 #[.pointer (some ⟨b, 0, none⟩), kv k] W fun e w' => ∃ a c, e = .returned (.slice a (dropG k L).length c) ∧ Ga w w' fl (L.filter (befK k)) b ((a, dropG k L) :: rs) := by
  obtain ⟨v, h1, h2, h3⟩ := h
  refine (drop_any h1 k).mono fun e w' ⟨a, n, c, v', he, ho, hn, hq, hm⟩ => ⟨a, c, by rw [he, ho.look.1], ?_⟩
  exact ga_upd h1 h2 h3 hq hm (rs' := [(a, dropG k L)]) (fun r hr => by
    obtain rfl : r = (a, dropG k L) := by simpa using hr
    exact ho.look.2.wide (fun k _ e => (hn k e).2))
theorem Ga.open {w W : World} {fl : Int} {L : List H} {b : Nat} {rs : Rws} (h : Ga w W fl L b rs) (t : Int) :
    Calls Try.prog 16 #[.pointer (some ⟨b, 0, none⟩), .int .i64 t] W fun e w' => ∃ a c, e = .returned (.slice a (openG t L).length c) ∧ Ga w w' (max fl t) (L.filter (fun x => !low t x)) b ((a, openG t L) :: rs) := by
  obtain ⟨v, h1, h2, h3⟩ := h
  refine (open_any h1 t).mono fun e w' ⟨a, n, c, v', he, ho, hn, hq, hm⟩ => ⟨a, c, by rw [he, ho.look.1], ?_⟩
  exact ga_upd h1 h2 h3 hq hm (rs' := [(a, openG t L)]) (fun r hr => by
    obtain rfl : r = (a, openG t L) := by simpa using hr
    exact ho.look.2.wide (fun k _ e => (hn k e).2))
theorem Ga.retract {w W : World} {fl : Int} {L : List H} {b : Nat} {rs : Rws} (h : Ga w W fl L b rs) (k : K) :
    Calls Try.prog 18 #[.pointer (some ⟨b, 0, none⟩), kv k] W fun e w' => e = .returned (.tuple #[.int .i64 (retN k L), .int .i64 (retE k L)]) ∧ Ga w w' fl (L.filter (fun x => !hasK k x)) b rs := by
  obtain ⟨v, h1, h2, h3⟩ := h
  exact (retract_any h1 k).mono fun e w' ⟨v', he, hq, hm⟩ => ⟨he, ga_upd h1 h2 h3 hq hm (rs' := []) (fun r hr => by cases hr)⟩
theorem Ga.held {w W : World} {fl : Int} {L : List H} {b : Nat} {rs : Rws} (h : Ga w W fl L b rs) :
    Calls Try.prog 21 #[.pointer (some ⟨b, 0, none⟩)] W fun e w' => ∃ a c, e = .returned (.slice a L.length c) ∧ Ga w w' fl L b ((a, msgs L) :: rs) := by
  obtain ⟨v, h1, h2, h3⟩ := h
  refine (held_any h1).mono fun e w' ⟨a, c, he, ho, hn, hb⟩ => ⟨a, c, he, ?_⟩
  exact ga_upd h1 h2 h3 (h1.below hb) (Mw.below hb) (rs' := [(a, msgs L)]) (fun r hr => by
    obtain rfl : r = (a, msgs L) := by simpa using hr
    exact ho.look.2.wide (fun k _ e d => by have := hn k e; have := h1.dlt d; omega))
theorem Ga.floor {w W : World} {fl : Int} {L : List H} {b : Nat} {rs : Rws} (h : Ga w W fl L b rs) : Calls Try.prog 20 #[.pointer (some ⟨b, 0, none⟩)] W fun e w' => e = .returned (.int .i64 fl) ∧ W = w' := by
  obtain ⟨v, h1, _, _⟩ := h
  exact floor_any h1
theorem hold_early {fl : Int} {L : List H} {x : H} (h : x.1.1 < fl) : holdE fl L x = 110 ∧ holdL fl L x = L := by
  have : holdE fl L x = 110 := by unfold holdE; rw [if_pos h]
  exact ⟨this, by unfold holdL; rw [if_neg (by rw [this]; decide)]⟩
theorem hold_ok {fl : Int} {L : List H} {x : H} (h : fl ≤ x.1.1) (hl : L.length < 256) : holdE fl L x = 0 ∧ holdL fl L x = L ++ [x] := by
  have : holdE fl L x = 0 := by unfold holdE; rw [if_neg (by omega), if_neg (by omega)]
  exact ⟨this, by unfold holdL; rw [if_pos this]⟩

/-! ### When two rows are the same -/
set_option maxRecDepth 100000 in
set_option maxHeartbeats 2000000 in
theorem same_eq {w : World} {a b : Option Addr} {ca cb n : Nat} {l : List M} (ha : RdN cM (fun _ => True) w a l) (hb : RdN cM (fun _ => True) w b l) (hn : l.length = n) (hl : n ≤ 100000) :
    Calls Try.prog 13 #[.slice a n ca, .slice b n cb] w fun e w' => e = .returned (.bool true) ∧ Below w.heap.size w w' := by
  have mixed : Try.prog.follows .mixedOrders = true := by kernel_rfl
  have HA : Hid (RdN cM (fun _ => True) w a l) := ha
  have HB : Hid (RdN cM (fun _ => True) w b l) := hb
  have HN : Hid (l.length = n) := hn
  have e4 : ((n : Int) != (n : Int)) = false := by simp
  clear ha hb hn
  go_enter Try.func13, Try.ntmps13
  go_wp2
  go_loopw [5] (fun s5 wr => ∃ i : Nat, s5 = .int .i64 i ∧ i ≤ n ∧ Hid (Below w.heap.size w wr)) (fun s5 _ => n - (intOf s5).toNat)
  case atStart => exact ⟨0, rfl, Nat.zero_le _, Below.refl _ _⟩
  case round =>
    obtain ⟨i, rfl, hi, HW⟩ := hrel
    by_cases hlt : i < n
    · have hlt' : (i : Int) < (n : Int) := by omega
      have hil : i < l.length := by rw [HN.out]; exact hlt
      obtain ⟨⟨⟨a1, a2, a3⟩, a4, a5, a6⟩, hx⟩ : ∃ x, nth cM l i = x := ⟨_, rfl⟩
      obtain ⟨b1, o1, rfl, l1, _, u0, u1, u2, u3, u4, u5⟩ := (HA.out.below HW.out).msg hil hx
      obtain ⟨b2, o2, rfl, l2, _, v0, v1, v2, v3, v4, v5⟩ := (HB.out.below HW.out).msg hil hx
      dsimp only at u0 u1 u2 u3 u4 u5 v0 v1 v2 v3 v4 v5
      clear hx hil
      go_wp2_with fail
      go_quiet (fail)
      go_wp2
      go_roundw
      case rel => exact ⟨i + 1, by go_num, by omega, HW.out.trans ⟨rfl, rfl, rfl, Nat.le_refl _, fun _ _ => rfl⟩⟩
      case measure => simp [intOf]; omega
    · obtain rfl : i = n := by omega
      go_wp2
      go_ret
      exact ⟨rfl, HW.out⟩
end Go.Proofs.Ytpkemgpnpadkfaa
