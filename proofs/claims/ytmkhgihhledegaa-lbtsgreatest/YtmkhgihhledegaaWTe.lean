/- Proved: the walk of LbtsTells. -/
import Derived.Test.YtmkhgihhledegaaLw0
namespace Go.Proofs.Ytmkhgihhledegaa
open Go.RowKit Go.Shelf
open L (Mb IsG lbt oth outM cnt vadd)
set_option linter.unusedVariables false

/-- Both's outputs, since w. -/
structure LT (w W : World) (n bo : Nat) (O : Nat → Int) (oa : Option Addr) (o : List Int) : Prop where
  bel : Below w.heap.size w W
  ro : Rv W bo n (iv O)
  rd : RdN cI (fun _ => True) W oa o
theorem LT.on {w W W2 : World} {n bo : Nat} {O : Nat → Int} {oa : Option Addr} {o : List Int} (h : LT w W n bo O oa o) (g : Below W.heap.size W W2) : LT w W2 n bo O oa o := ⟨Below.on h.bel g, h.ro.below g, h.rd.below g⟩
set_option maxRecDepth 100000 in
set_option maxHeartbeats 4000000 in
theorem tells_walk (w : World) (sa : Option Addr) (sc : Nat) (l : List Mb) (hn : l.length ≤ maxLen) (hz : RdN cB (fun _ => True) w sa l) (i : Int) :
    Calls Try.prog 3 #[.slice sa l.length sc, .int .i64 i] w fun e w' => e = .returned (.bool true) ∧ Below w.heap.size w w' := by
  unfold maxLen at hn
  obtain ⟨n, hnn⟩ : ∃ n, l.length = n := ⟨_, rfl⟩
  rw [hnn] at hn ⊢
  by_cases hb : 20 < n
  · have hb' : (20 : Int) < (n : Int) := by omega
    clear hnn hz
    go_enter Try.func3, Try.ntmps3
    go_wp2
    go_ret
    exact ⟨rfl, Below.refl _ _⟩
  have hb' : ¬ (20 : Int) < (n : Int) := by omega
  have h1 : n ≤ 1000 := by omega
  obtain ⟨O, hG⟩ := L.G_ex l
  have PO : Hid (Calls Try.prog 9 #[.slice sa n sc] w fun e w' => ∃ bo, e = .returned (rowV bo n) ∧ Rv w' bo n (iv O) ∧ w.heap.size ≤ bo ∧ Below w.heap.size w w') := po_any hG hz hnn h1
  have TH : Hid (∀ W, Below w.heap.size w W → Calls Try.prog 11 #[.slice sa n sc] W fun e w' => ∃ a' c', e = .returned (.slice a' n c') ∧ RdN cB (fun _ => True) w' a' l ∧ Below W.heap.size W w') := fun W hW => theirs_any (hz.below hW) hnn h1
  have DO : Hid (∀ W a' c', RdN cB (fun _ => True) W a' l → Calls Try.prog 10 #[.slice a' n c'] W fun e w' => ∃ oa oc o, e = .returned (.slice oa n oc) ∧ Ri W w' (.slice oa n oc) o ∧ o.length = n ∧ ∀ j, j < n → o.getD j 0 = O j) := fun W a' c' hr => do_any hG hr hnn h1
  have PB : Hid (∀ k W, Below w.heap.size w W → Calls Try.prog 12 #[.slice sa n sc, .int .i64 k] W fun e w' => e = .returned (.int .i64 (lbt l O k)) ∧ Below W.heap.size W w') := fun k W hW => pb_any hG (hz.below hW) hnn h1 k
  have DB : Hid (∀ k W a' c', RdN cB (fun _ => True) W a' l → Calls Try.prog 13 #[.slice a' n c', .int .i64 k] W fun e w' => e = .returned (.int .i64 (lbt l O k)) ∧ Below W.heap.size W w') := fun k W a' c' hr => db_any hG hr hnn h1 k
  clear hnn hz hn hb hG
  go_enter Try.func3, Try.ntmps3
  go_wp2_with (first
    | (go_at_call 9; refine (Hid.out PO).mono ?_; rintro e w1 ⟨bo, rfl, hr1, _, hb1⟩; have R1 : Hid (Rv w1 bo n (iv O)) := hr1; have B1 : Hid (Below w.heap.size w w1) := hb1; clear hr1 hb1)
    | (go_at_call 11; refine (Hid.out TH _ (Hid.out B1)).mono ?_; rintro e w2 ⟨a', c', rfl, hr2, hb2⟩; have M2 : Hid (RdN cB (fun _ => True) w2 a' l) := hr2; have R2 : Hid (Rv w2 bo n (iv O)) := (Hid.out R1).below hb2; have B2 : Hid (Below w.heap.size w w2) := Below.on (Hid.out B1) hb2; clear hr2 hb2)
    | (go_at_call 10; refine (Hid.out DO _ _ _ (Hid.out M2)).mono ?_; rintro e w3 ⟨oa, oc, o, rfl, hr3, hlo, hoo⟩; have L3 : Hid (LT w w3 n bo O oa o) := ⟨Below.on (Hid.out B2) hr3.bel, (Hid.out R2).below hr3.bel, hr3.own.rdI.2⟩; have HLO : Hid (o.length = n ∧ ∀ j, j < n → o.getD j 0 = O j) := ⟨hlo, hoo⟩; clear hr3 hlo hoo))
  go_loopw [7] (fun s7 wr => ∃ (k : Nat), s7 = .int .i64 k ∧ k ≤ n ∧ Hid (LT w wr n bo O oa o)) (fun s7 _ => n - (intOf s7).toNat)
  case atStart => exact ⟨0, rfl, Nat.zero_le _, L3.out⟩
  case round =>
    obtain ⟨k, rfl, hk, HL⟩ := hrel
    by_cases hlt : k < n
    · have hlt' : (k : Int) < (n : Int) := by omega
      obtain ⟨x, hx⟩ : ∃ x, O k = x := ⟨_, rfl⟩
      obtain ⟨ob, ooff, rfl, hob, dx⟩ := RdN.int HL.out.rd (by rw [HLO.out.1]; exact hlt) ((HLO.out.2 k hlt).trans hx)
      have HS : Hid (∀ W, LT w W n bo O (some ⟨ob, ooff, none⟩) o → LT w W n bo O (some ⟨ob, ooff, none⟩) o ∧ W.cell? ⟨bo, k, none⟩ = some (.int .i64 x) ∧ W.cell? ⟨ob, ooff + k, none⟩ = some (.int .i64 x)) := fun W h => by
        refine ⟨h, h.ro.atI hlt hx, ?_⟩
        obtain ⟨b2, o2, e, _, c2⟩ := RdN.int h.rd (by rw [HLO.out.1]; exact hlt) ((HLO.out.2 k hlt).trans hx)
        simp at e
        obtain ⟨rfl, rfl⟩ := e
        exact c2
      have L0 : Hid (LT w wr.drew n bo O (some ⟨ob, ooff, none⟩) o) := HL.out.on (Below.refl _ _).drew
      have KEEP0 := HS.out _ L0.out
      have cx := KEEP0.2.1
      obtain ⟨v, hv⟩ : ∃ v, lbt l O k = v := ⟨_, rfl⟩
      have PB2 : Hid (∀ W, LT w W n bo O (some ⟨ob, ooff, none⟩) o → Calls Try.prog 12 #[.slice sa n sc, .int .i64 k] W fun e w' => e = .returned (.int .i64 v) ∧ LT w w' n bo O (some ⟨ob, ooff, none⟩) o) := fun W h => by
        rw [← hv]
        exact (PB.out k W h.bel).mono fun e w' ⟨he, hb⟩ => ⟨he, h.on hb⟩
      have TH2 : Hid (∀ W, LT w W n bo O (some ⟨ob, ooff, none⟩) o → Calls Try.prog 11 #[.slice sa n sc] W fun e w' => ∃ a' c', e = .returned (.slice a' n c') ∧ RdN cB (fun _ => True) w' a' l ∧ LT w w' n bo O (some ⟨ob, ooff, none⟩) o) := fun W h => (TH.out W h.bel).mono fun e w' ⟨a', c', he, hr, hb⟩ => ⟨a', c', he, hr, h.on hb⟩
      have DB2 : Hid (∀ W a' c', RdN cB (fun _ => True) W a' l → LT w W n bo O (some ⟨ob, ooff, none⟩) o → Calls Try.prog 13 #[.slice a' n c', .int .i64 k] W fun e w' => e = .returned (.int .i64 v) ∧ LT w w' n bo O (some ⟨ob, ooff, none⟩) o) := fun W a' c' hr h => by
        rw [← hv]
        exact (DB.out k W a' c' hr).mono fun e w' ⟨he, hb⟩ => ⟨he, h.on hb⟩
      have HK0 : Hid _ := KEEP0
      clear hx hv KEEP0
      go_wp2_with fail
      go_region_held3 (fun w' => LT w w' n bo O (some ⟨ob, ooff, none⟩) o ∧ w'.cell? ⟨bo, k, none⟩ = some (.int .i64 x) ∧ w'.cell? ⟨ob, ooff + k, none⟩ = some (.int .i64 x)) (first | exact Hid.out KEEP3 | exact Hid.out KEEP2 | exact Hid.out KEEP1 | exact Hid.out HK0 | (go_keep; done)) (first
        | (go_at_call 12; refine (Hid.out PB2 _ (by first | exact Hid.out LB | exact Hid.out L0)).mono ?_; rintro e w4 ⟨rfl, h4⟩; have KEEP1 : Hid _ := (Hid.out HS) w4 h4; have LA : Hid _ := h4; clear h4)
        | (go_at_call 11; refine (Hid.out TH2 _ (by first | exact Hid.out LA | exact Hid.out L0)).mono ?_; rintro e w5 ⟨a2, c2, rfl, hr5, h5⟩; have KEEP2 : Hid _ := (Hid.out HS) w5 h5; have LB : Hid _ := h5; have HR5 : Hid (RdN cB (fun _ => True) w5 a2 l) := hr5; clear h5 hr5)
        | (go_at_call 13; refine (Hid.out DB2 _ _ _ (Hid.out HR5) (Hid.out LB)).mono ?_; rintro e w6 ⟨rfl, h6⟩; have KEEP3 : Hid _ := (Hid.out HS) w6 h6; have LC : Hid _ := h6; clear h6))
      go_wp2_with fail
      go_roundw
      case rel => exact ⟨k + 1, by go_num, by omega, LC.out⟩
      case measure => simp [intOf]; omega
    · obtain rfl : k = n := by omega
      obtain ⟨v, hv⟩ : ∃ v, lbt l O i = v := ⟨_, rfl⟩
      have PBI : Hid (∀ W, Below w.heap.size w W → Calls Try.prog 12 #[.slice sa k sc, .int .i64 i] W fun e w' => e = .returned (.int .i64 v) ∧ Below w.heap.size w w') := fun W hW => by
        rw [← hv]
        exact (PB.out i W hW).mono fun e w' ⟨he, hb⟩ => ⟨he, Below.on hW hb⟩
      have DBI : Hid (∀ W a' c', Below w.heap.size w W → RdN cB (fun _ => True) W a' l → Calls Try.prog 13 #[.slice a' k c', .int .i64 i] W fun e w' => e = .returned (.int .i64 v) ∧ Below w.heap.size w w') := fun W a' c' hW hr => by
        rw [← hv]
        exact (DB.out i W a' c' hr).mono fun e w' ⟨he, hb⟩ => ⟨he, Below.on hW hb⟩
      have NI : Hid (∀ W, Below w.heap.size w W → Calls Try.prog 12 #[.slice none 0 0, .int .i64 0] W fun e w' => e = .returned (.int .i64 1125899906842624) ∧ Below w.heap.size w w') := fun W hW => (pb_nil W 0).mono fun e w' ⟨he, hb⟩ => ⟨he, Below.on hW hb⟩
      have B3 : Hid (Below w.heap.size w wr) := HL.out.bel
      clear hv
      go_wp2_with (first
        | (go_at_call 12; refine (Hid.out PBI _ (Hid.out B3)).mono ?_; rintro e w4 ⟨rfl, h4⟩; have B4 : Hid _ := h4; clear h4 PBI)
        | (go_at_call 11; refine (Hid.out TH _ (Hid.out B4)).mono ?_; rintro e w5 ⟨a2, c2, rfl, hr5, h5⟩; have HR5 : Hid (RdN cB (fun _ => True) w5 a2 l) := hr5; have B5 : Hid _ := Below.on (Hid.out B4) h5; clear h5 hr5)
        | (go_at_call 13; refine (Hid.out DBI _ _ _ (Hid.out B5) (Hid.out HR5)).mono ?_; rintro e w6 ⟨rfl, h6⟩; have B6 : Hid _ := h6; clear h6)
        | (go_at_call 12; refine (Hid.out NI _ (Hid.out B6)).mono ?_; rintro e w7 ⟨rfl, h7⟩; have B7 : Hid _ := h7; clear h7))
      go_ret
      exact ⟨rfl, B7.out⟩
end Go.Proofs.Ytmkhgihhledegaa
