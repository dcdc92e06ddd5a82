/- Proved: contracts of container/heap's Push, Pop and Remove over the pile of prio. -/
import Derived.Test.YtkodjioofkdepaaQHeap
namespace Go.Proofs.Ytkodjioofkdepaa.Q
open Go.RowKit Go.Sort
set_option linter.unusedVariables false
set_option maxRecDepth 100000

theorem split_last {d : List M} {n : Nat} (h : d.length = n + 1) : d = d.take n ++ [nth d n] := by
  rw [nth_get d n (by omega)]
  have : d.take n ++ [d[n]] = d.take (n + 1) := (List.take_succ_eq_append_getElem (by omega)).symm
  rw [this, List.take_of_length_le (by omega)]
theorem ok_take {d : List M} {n : Nat} (h : OK d n) (hn : n ≤ d.length) : OK (d.take n) (d.take n).length := by
  have hl : (d.take n).length = n := by rw [List.length_take]; omega
  rw [hl]
  have ko : ∀ t, t < n → key (d.take n) t = key d t := fun t ht => by
    unfold key
    rw [nth_get _ _ (by omega), nth_get _ _ (by omega), List.getElem_take]
  intro c c0 cn
  rw [ko c cn, ko _ (by omega)]
  exact h c c0 cn
/-- The pile's state and what it may have become. -/
def After (w : World) (pb mb : Nat) (v : Value) (w' : World) (v' : Value) (d' : List M) : Prop := IsP w' pb mb v' d' ∧ OK d' d'.length ∧ Fr (FP pb mb v) w w' ∧ (∀ k, FP pb mb v' k → FP pb mb v k ∨ w.heap.size ≤ k)

set_option maxRecDepth 100000 in
set_option maxHeartbeats 1000000 in
theorem hpush_any {w : World} {pb mb : Nat} {v : Value} {d : List M} (h : IsP w pb mb v d) (ho : OK d d.length) (m : M) (hm : mwf m) (hnew : m.1 ∉ d.map Prod.fst) (hlen : d.length < 64) :
    Calls Try.prog 61 #[.iface 93 (.pointer (some ⟨pb, 0, none⟩)), .iface 36 (mv m)] w fun e w' => e = .returned (.tuple #[]) ∧ ∃ v' d', After w pb mb v w' v' d' ∧ d'.Perm (d ++ [m]) := by
  have P := push_any h m hm hnew hlen
  generalize mv m = mm at P ⊢
  go_enter Try.func61, Try.ntmps61
  go_wp2_with fail
  refine P.mono ?_
  rintro e w1 ⟨rfl, v1, h1, f1, s1⟩
  have hl1 : (d ++ [m]).length = d.length + 1 := by simp
  have L := plen_any h1
  have U := up_any h1 (d ++ [m]).length d.length (Nat.le_refl _) (by simp) (upok_append ho)
  rw [hl1] at L U
  go_wp2_with fail
  refine L.mono ?_
  rintro e w2 ⟨rfl, hw2⟩
  have hw2' := hw2.symm
  subst hw2'
  go_wp2_with fail
  refine U.mono ?_
  rintro e w3 ⟨rfl, d', hp, hs, hok, hf⟩
  go_wp2_with fail
  go_end0
  refine ⟨rfl, v1, d', ⟨hp, by rw [hs.len, hl1]; exact hok, f1.trans hf (fun i hi hk => (s1 i hk).elim id (fun g => by omega)), s1⟩, hs.1⟩

set_option maxRecDepth 100000 in
set_option maxHeartbeats 1000000 in
theorem hpop_any {w : World} {pb mb : Nat} {v : Value} {d : List M} (h : IsP w pb mb v d) (ho : OK d d.length) (hne : 0 < d.length) :
    Calls Try.prog 42 #[.iface 93 (.pointer (some ⟨pb, 0, none⟩))] w fun e w' => e = .returned (.iface 36 (mv (nth d 0))) ∧ ∃ v' d', After w pb mb v w' v' d' ∧ (d' ++ [nth d 0]).Perm d := by
  obtain ⟨n, hn⟩ : ∃ n, d.length = n + 1 := ⟨d.length - 1, by omega⟩
  have hl := h.len
  have L := plen_any h
  have S := swap_key h 0 n (by omega) (by omega) 0 n rfl rfl
  rw [hn] at L
  have n1 : ((n : Int) + 1) - 1 = n := by omega
  go_enter Try.func42, Try.ntmps42
  go_wp2_with fail
  refine L.mono ?_
  rintro e w2 ⟨rfl, hw2⟩
  have hw2' := hw2.symm
  subst hw2'
  go_wp2_with fail
  refine S.mono ?_
  rintro e w1 ⟨rfl, h1, f1⟩
  have hl1 : (swapL d 0 n).length = n + 1 := by rw [swapL_len, hn]
  have hexc : Exc (swapL d 0 n) n 0 := by
    by_cases n0 : n = 0
    · subst n0
      exact ⟨fun c c0 cn => by omega, fun i0 => by omega⟩
    · exact exc_swap (by omega) (by omega) (by rw [← hn]; exact ho)
  have D := down_any h1 n 0 (by omega) (Nat.zero_le _) (by omega) hexc
  go_wp2_with fail
  refine D.mono ?_
  rintro e w2 ⟨b, d2, rfl, h2, hs, hb1, hb2, f2⟩
  have hok : OK d2 n := by
    cases b
    · exact (hb2 rfl).ok (fun g => by omega)
    · exact hb1 rfl
  have hl2 : d2.length = n + 1 := by rw [hs.len, hl1]
  have hx : nth d2 n = nth d 0 := by
    rw [hs.2 n (Nat.le_refl _), nth_swapL d 0 n n (by omega) (by omega), if_pos rfl]
  have e2 := split_last hl2
  rw [hx] at e2
  have h2' := h2
  rw [e2] at h2'
  have PP := popp_any h2'
  have E2 : Hid _ := e2
  clear hx e2 h2'
  go_wp2_with fail
  refine PP.mono ?_
  rintro e w3 ⟨rfl, v', h3, f3, s3⟩
  go_wp2_with fail
  go_ret
  refine ⟨rfl, v', d2.take n, ⟨h3, ok_take hok (by omega), (f1.then f2).trans f3 (fun _ _ g => g), fun k hk => .inl (s3 k hk)⟩, ?_⟩
  rw [← E2.out]
  exact hs.1.trans (swapL_perm d 0 n (by omega) (by omega))

end Go.Proofs.Ytkodjioofkdepaa.Q
