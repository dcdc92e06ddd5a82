/- Joined: the texts that follow, each with its own sentence. -/
import Derived.Test.YtiaopafkfadmkaaGreatZGa
set_option linter.unusedVariables false
set_option maxRecDepth 100000
namespace Go.Proofs.YtiaopafkfadmkaaGreat.G
open Go.Proofs.YtiaopafkfadmkaaGreat.B
open Go.RowKit Go.Shelf Go.Sort
abbrev It := Int × M × Int
def encI (x : It) : List Value := [.int .i64 x.1, .int .i64 x.2.1.1.1, .int .i64 x.2.1.1.2.1, .int .i64 x.2.1.1.2.2, .int .i64 x.2.1.2.1, .int .i64 x.2.1.2.2.1, .int .i64 x.2.1.2.2.2, .int .i64 x.2.2]
theorem encI_one (x : It) : ∀ v ∈ encI x, v.oneCell' = true := by
 intro v hv
 simp [encI] at hv
 rcases hv with rfl | rfl | rfl | rfl | rfl | rfl | rfl | rfl <;> rfl
def cI : Cd It := ⟨encI, 8, (0, ((0, 0, 0), 0, 0, 0), 0), fun _ => rfl, encI_one, by decide⟩
def tyI : Ty cI 44 41 := ⟨.agg #[.int .i64 0, .int .i64 0, .int .i64 0, .int .i64 0, .int .i64 0, .int .i64 0, .int .i64 0, .int .i64 0], 64, Tryz.underlying44, by kernel_rfl, rfl, by decide⟩
theorem _root_.Go.Proofs.YtiaopafkfadmkaaGreat.B.RdN.item {N : Nat → Prop} {W : World} {a : Option Addr} {l : List It} (h : RdN cI N W a l) {i : Nat} (hi : i < l.length) {x : It} (hx : nth cI l i = x) :
  ∃ b off, a = some ⟨b, off, none⟩ ∧ b < W.heap.size ∧ N b ∧ W.cell? ⟨b, off + i * 8, none⟩ = some (.int .i64 x.1) ∧ W.cell? ⟨b, off + i * 8 + 1, none⟩ = some (.int .i64 x.2.1.1.1) ∧ W.cell? ⟨b, off + i * 8 + 2, none⟩ = some (.int .i64 x.2.1.1.2.1) ∧ W.cell? ⟨b, off + i * 8 + 3, none⟩ = some (.int .i64 x.2.1.1.2.2) ∧ W.cell? ⟨b, off + i * 8 + 4, none⟩ = some (.int .i64 x.2.1.2.1) ∧ W.cell? ⟨b, off + i * 8 + 5, none⟩ = some (.int .i64 x.2.1.2.2.1) ∧ W.cell? ⟨b, off + i * 8 + 6, none⟩ = some (.int .i64 x.2.1.2.2.2) ∧ W.cell? ⟨b, off + i * 8 + 7, none⟩ = some (.int .i64 x.2.2) := by
 obtain ⟨b, off, rfl, hB, hb, hc⟩ := h (by intro e; simp [e] at hi)
 subst hx
 have g := hc i hi
 exact ⟨b, off, rfl, hB, hb, g 0 (by decide), g 1 (by decide), g 2 (by decide), g 3 (by decide), g 4 (by decide), g 5 (by decide), g 6 (by decide), g 7 (by decide)⟩
set_option maxHeartbeats 1000000 in
theorem same15_eq {w : World} {a b : Option Addr} {ca cb n : Nat} {l : List M} (ha : RdN cM (fun _ => True) w a l) (hb : RdN cM (fun _ => True) w b l) (hn : l.length = n) (hl : n ≤ 100000) :
  Calls Tryz.prog 21 #[.slice a n ca, .slice b n cb] w fun e w' => e = .returned (.bool true) ∧ Below w.heap.size w w' := by
 have mixed : Tryz.prog.follows .mixedOrders = true := by kernel_rfl
 have HA : Hid (RdN cM (fun _ => True) w a l) := ha
 have HB : Hid (RdN cM (fun _ => True) w b l) := hb
 have HN : Hid (l.length = n) := hn
 have e4 : ((n : Int) != (n : Int)) = false := by simp
 clear ha hb hn
 go_enter Tryz.func21, Tryz.ntmps21
 go_wp2
 go_loopw [5] (fun s5 wr => ∃ i : Nat, s5 = .int .i64 i ∧ i ≤ n ∧ Hid (Below w.heap.size w wr)) (fun s5 _ => n - (intOf s5).toNat)
 case atStart => exact ⟨0, rfl, Nat.zero_le _, Below.refl _ _⟩
 case round =>
  obtain ⟨i, rfl, hi, HW⟩ := hrel
  by_cases hlt : i < n
  ·have hlt' : (i : Int) < (n : Int) := by omega
   have hil : i < l.length := by rw [HN.out]; exact hlt
   obtain ⟨⟨⟨a1, a2, a3⟩, a4, a5, a6⟩, hx⟩ : ∃ x, nth cM l i = x := ⟨_, rfl⟩
   obtain ⟨b1, o1, rfl, l1, _, u0, u1, u2, u3, u4, u5⟩ := (HA.out.below HW.out).msg hil hx
   obtain ⟨b2, o2, rfl, l2, _, v0, v1, v2, v3, v4, v5⟩ := (HB.out.below HW.out).msg hil hx
   dsimp only at u0 u1 u2 u3 u4 u5 v0 v1 v2 v3 v4 v5
   clear hx hil
   go_wp2_with fail
   go_quiet (fail)
   go_wp2
   go_roundw
   case rel => exact ⟨i + 1, by go_num, by omega, HW.out.trans ⟨rfl, rfl, rfl, Nat.le_refl _, fun _ _ => rfl⟩⟩
   case measure => simp [intOf]; omega
  ·obtain rfl : i = n := by omega
   go_wp2
   go_ret
   exact ⟨rfl, HW.out⟩
end Go.Proofs.YtiaopafkfadmkaaGreat.G
