/- Proved: the contract of slices.SortStableFunc of what is held, by the causes. -/
import Derived.Test.YtpkemgpnpadkfaaSst
import Derived.Test.YtpkemgpnpadkfaaGat
import Derived.Deep.QuietTactic
namespace Go.Proofs
open Go.Shelf
def Try.insH_ren : Go.Shelf.Ren := ⟨fun | 20 => 36 | n => n, fun | 22 => 52 | 24 => 56 | 25 => 63 | n => n, fun | n => n⟩
theorem Try.insH : Go.Proofs.SlLaysF0.n20 Try.prog Try.insH_ren := {
  mixed := by kernel_rfl
  f20 := ⟨Try.f36.name, by decide, Try.func36.trans (congrArg some (by kernel_rfl))⟩
  t0 := Try.underlying0
  a0 := Try.isAgg0
  z0 := Try.sizeOf0
  v0 := Try.zeroValue0
  t3 := Try.underlying3
  a3 := Try.isAgg3
  z3 := Try.sizeOf3
  v3 := Try.zeroValue3
  t4 := Try.underlying4
  a4 := Try.isAgg4
  z4 := Try.sizeOf4
  v4 := Try.zeroValue4
  t22 := Try.underlying52
  a22 := Try.isAgg52
  z22 := Try.sizeOf52
  v22 := Try.zeroValue52
  t25 := Try.underlying63
  a25 := Try.isAgg63
  z25 := Try.sizeOf63
  v25 := Try.zeroValue63 }
end Go.Proofs
namespace Go.Proofs.Ytpkemgpnpadkfaa
open Go.RowKit Go.Shelf Go.Lib Go.Sort
set_option linter.unusedVariables false

def cfH (x y : H) : Int := kcmp x.1 y.1
theorem cfH_le (x y : H) : decide (cfH x y < 0) = !leH y x := by
  show klt x.1 y.1 = !(!klt x.1 y.1)
  rw [Bool.not_not]
set_option maxHeartbeats 1000000 in
theorem cmpH_any (x y : H) (w : World) :
    Calls Try.prog 30 #[hv x, hv y] w fun e w' => e = .returned (.int .i64 (cfH x y)) ∧ ∃ q os, w' = grow (w.drewN q) os := by
  obtain ⟨⟨a1, a2, a3⟩, ⟨a4, a5, a6⟩, a7, a8, a9⟩ := x
  obtain ⟨⟨b1, b2, b3⟩, ⟨b4, b5, b6⟩, b7, b8, b9⟩ := y
  have hc := fun W => cmp_any (a1, a2, a3) (b1, b2, b3) W
  show Calls Try.prog 30 _ w fun e w' => e = .returned (.int .i64 (kcmp (a1, a2, a3) (b1, b2, b3))) ∧ _
  try dsimp only at hc ⊢
  generalize kcmp (a1, a2, a3) (b1, b2, b3) = r at hc ⊢
  go_enter Try.func30, Try.ntmps30
  go_wp2_with (go_at_call 27; refine (hc _).mono ?_; rintro e w' ⟨rfl, q, os, rfl⟩)
  go_ret
  exact ⟨rfl, q, _, grow2_drewN _ _ _ _ _⟩
/-- A row of one's own holds its things, as the library's kit of rows says it. -/
theorem OwR.holds {e : TypeId} {w : World} {g cap : Nat} {l : List H} (h : OwR cH e w (.slice (some ⟨g, 0, none⟩) l.length cap) l) : HoldsK encH 9 w g 0 l.toArray := by
  intro j hj
  rw [size_flatK] at hj
  simp only [List.size_toArray] at hj
  have hq : j / 9 < l.length := Nat.div_lt_of_lt_mul (by omega)
  have hr : j % 9 < 9 := Nat.mod_lt _ (by omega)
  refine ⟨?_, World.ownsRow.frozenAt h (0 + j)⟩
  rw [get_flatK _ _ _ _ (by simpa using hj), Nat.zero_add]
  have e1 := World.ownsRow.cellAt h j hj
  have e2 := flat_get cH l (j / 9) (j % 9) hq hr
  have e3 : j / 9 * 9 + j % 9 = j := by omega
  have e4 : (flat cH l)[j / 9 * 9 + j % 9]? = (encH (nth cH l (j / 9)))[j % 9]? := e2
  rw [e3] at e4
  rw [e1, e4]
  simp only [id]
  rw [List.getElem?_eq_getElem (show j % 9 < (encH (nth cH l (j / 9))).length from hr)]
  congr 1
  rw [getElem!_pos l.toArray (j / 9) (by simpa using hq)]
  simp only [List.getElem_toArray]
  rw [getElem!_pos (encH l[j / 9]) (j % 9) hr]
  have e5 := nth_get (C := cH) hq
  congr 1
  rw [e5]
theorem size_putCells (off : Nat) (F c : Array Value) : (putCells id off F c).size = c.size := by simp [putCells]
theorem fr_mapBlock (w : World) (n g : Nat) (f : Array Value → Array Value) : Fr (fun k => k = g) w (mapBlock (Sort.ahead w n) g f) :=
  ⟨rfl, rfl, rfl, by simp [mapBlock], fun k hk hn => by simp [mapBlock, Array.getElem?_modify, Ne.symm hn]⟩
theorem mapBlock_shape (w : World) (g : Nat) (f : Array Value → Array Value) (hf : ∀ c, (f c).size = c.size) (cur : Array Value) (e : TypeId) (fr : Nat × Nat) (h : w.heap[g]? = some (.cells cur e fr)) : ∃ cur', (mapBlock w g f).heap[g]? = some (.cells cur' e fr) ∧ cur'.size = cur.size := by
  refine ⟨f cur, ?_, hf cur⟩
  simp [mapBlock, Array.getElem?_modify, h, onCells]
/-- And back, where the block has the same shape. -/
theorem own_of_holds {e : TypeId} {w w' : World} {g cap : Nat} {l l' : List H} (h : OwR cH e w (.slice (some ⟨g, 0, none⟩) l.length cap) l) (hl : l'.length = l.length) (hs : ∀ cur, w.heap[g]? = some (.cells cur e (0, 0)) → ∃ cur', w'.heap[g]? = some (.cells cur' e (0, 0)) ∧ cur'.size = cur.size)
    (hH : HoldsK encH 9 w' g 0 l'.toArray) : OwR cH e w' (.slice (some ⟨g, 0, none⟩) l'.length cap) l' := by
  obtain ⟨_, cur, hg, h1, h2, h3, h4⟩ := h.block
  obtain ⟨cur', hg', hsz⟩ := hs cur hg
  have h3' : cur.size = cap * 9 := h3
  refine own_of_block hg' (by omega) h2 (by rw [hsz]; exact h3) ?_
  show cur'.toList.take (l'.length * 9) = _
  apply List.ext_getElem?
  intro j
  by_cases hj : j < l'.length * 9
  · have hq : j / 9 < l'.length := Nat.div_lt_of_lt_mul (by omega)
    have hr : j % 9 < 9 := Nat.mod_lt _ (by omega)
    rw [List.getElem?_take_of_lt hj]
    have h1 := (hH j (by rw [size_flatK]; simpa using hj)).1
    rw [get_flatK _ _ _ _ (by simpa using hj), Nat.zero_add] at h1
    simp only [World.cell?, hg', id] at h1
    have h2 : cur'.toList[j]? = cur'[j]? := by simp
    rw [h2]
    have h3 : cur'[j]? = some ((encH (l'.toArray[j / 9]!))[j % 9]!) := by simpa using h1
    rw [h3]
    have e2 := flat_get cH l' (j / 9) (j % 9) hq hr
    have e3 : j / 9 * 9 + j % 9 = j := by omega
    have e4 : (flat cH l')[j / 9 * 9 + j % 9]? = (encH (nth cH l' (j / 9)))[j % 9]? := e2
    rw [e3] at e4
    rw [e4, List.getElem?_eq_getElem (show j % 9 < (encH (nth cH l' (j / 9))).length from hr)]
    congr 1
    rw [getElem!_pos l'.toArray (j / 9) (by simpa using hq)]
    simp only [List.getElem_toArray]
    rw [getElem!_pos (encH l'[j / 9]) (j % 9) hr]
    have e5 := nth_get (C := cH) hq
    congr 1
    rw [e5]
  · rw [List.getElem?_eq_none (by rw [List.length_take]; omega), List.getElem?_eq_none (by rw [flat_len]; show l'.length * 9 ≤ j; omega)]
theorem ins_all {d0 : Array H} {w0 : World} {blk cap : Nat} (hC : CmpLays Try.prog 30 #[] encH 9 cfH blk 0 d0.size w0) (R : RowK encH 9 w0 blk 0 d0) (eg : ∀ args w, (callFunc 30 args).run Try.prog w = .ok (.enter 30 args) w) (x y : Nat) (dk : Array H) (w1 : World) (A X C : List H) (hs : dk.size = d0.size) (S : SWK encH 9 w0 blk 0 dk w1) (hd : dk.toList = A ++ (X ++ C)) (hA : A.length = x) (hy : x + X.length = y) (hsz : d0.size ≤ 1000) :
    Calls Try.prog 36 #[.slice (some ⟨blk, 0, none⟩) d0.size cap, .int .i64 x, .int .i64 y, .func (.func 30) #[] #[]] w1 fun e w2 => e = .returned (.tuple #[]) ∧ ∃ d2 : Array H, d2.toList = A ++ (Stb.isort leH X ++ C) ∧ d2.size = d0.size ∧ SWK encH 9 w0 blk 0 d2 w2 := by
  have hle : y ≤ dk.size := by
    have := congrArg List.length hd
    simp at this
    omega
  have hl := Stb.insertionSort_list (le := leH) (lt := ltOf cfH) leH_tot (fun x y => cfH_le x y) hA hy hd
  have hs' : (Sort.insertionSort (ltOf cfH) dk x y).size = dk.size := by
    have h1 := congrArg List.length hl
    have h2 := congrArg List.length hd
    simp only [List.length_append, Stb.isort_len, Array.length_toList] at h1 h2
    omega
  have hC' : CmpLays Try.prog 30 #[] encH 9 cfH blk 0 dk.size w1 := fun m os dj hdj x y => by
    obtain ⟨n0, os0, rfl⟩ := S
    rw [sortWorldK_on encH 9 w0 blk 0 n0 m dk dj os0 os R.hblk hdj]
    exact hC _ _ dj (by omega) x y
  have H := AnyQ.insertionSortCmpFunc Try.insH 9 Try.isAgg56 Try.sizeOf56 encH R.hk R.h1 cfH 30 #[] blk 0 cap x y dk w1 eg hC' (S.holds R.hblk R.hH hs) (S.lt R.hblk) (by omega) hle (by omega)
  rw [hs] at H
  refine H.mono ?_
  rintro e w' ⟨rfl, n, os, rfl⟩
  exact ⟨rfl, _, hl, by omega, S.on R.hblk n _ os hs'⟩
set_option maxHeartbeats 1000000 in
theorem ins_none (a : Option Addr) (c : Nat) (w : World) : Calls Try.prog 36 #[.slice a 0 c, .int .i64 0, .int .i64 0, .func (.func 30) #[] #[]] w fun e w' => e = .returned (.tuple #[]) ∧ w = w' := by
  go_enter Try.func36, Try.ntmps36
  go_wp2
  refine wp_loop_rounds 1 ?_
  rw [rounds_succ]
  go_wp2
  go_end0
  exact ⟨rfl, rfl⟩
set_option maxHeartbeats 1000000 in
theorem stable_none (a : Option Addr) (c : Nat) (w : World) : Calls Try.prog 34 #[.slice a 0 c, .int .i64 0, .func (.func 30) #[] #[]] w fun e w' => e = .returned (.tuple #[]) ∧ w = w' := by
  go_enter Try.func34, Try.ntmps34
  go_wp2
  refine wp_loop_rounds 1 ?_
  rw [rounds_succ]
  go_wp2_with (go_at_call 36; refine (ins_none _ _ _).mono ?_; rintro e w' ⟨rfl, rfl⟩)
  refine wp_loop_rounds 1 ?_
  rw [rounds_succ]
  go_wp2
  go_end0
  exact ⟨rfl, rfl⟩
theorem below_grow' (w : World) (os : Array Obj) : Below w.heap.size w (Go.Sort.grow w os) :=
  ⟨rfl, rfl, rfl, by simp [Go.Sort.grow], fun k hk => by simp [Go.Sort.grow, Array.getElem?_append, hk]⟩
theorem stable_row {w : World} {a : Option Addr} {n c : Nat} {l : List H} (h : OwR cH 56 w (.slice a n c) l) (hl : l.length ≤ 256) :
    Calls Try.prog 34 #[.slice a n c, .int .i64 n, .func (.func 30) #[] #[]] w fun e w' => e = .returned (.tuple #[]) ∧ OwR cH 56 w' (.slice a n c) (Stb.isort leH l) ∧ Fr (fun k => (Value.slice a n c).ownBlock = some k) w w' := by
  have h0 := h
  rcases h.2 with ⟨e, hn⟩ | ⟨g, cap, cur, e, _, hg, _⟩
  · simp at e
    obtain ⟨rfl, rfl, rfl⟩ := e
    obtain rfl : l = [] := List.length_eq_zero_iff.1 hn
    refine (stable_none none 0 w).mono fun e w' ⟨he, hw⟩ => ⟨he, ?_, ?_⟩
    · rw [← hw]; exact h
    · rw [← hw]; exact Fr.refl _ _
  · simp at e
    obtain ⟨rfl, rfl, rfl⟩ := e
    have eg : ∀ args w, (callFunc 30 args).run Try.prog w = .ok (.enter 30 args) w := enters_of Try.func30 (by kernel_rfl) rfl
    have eI : ∀ args w, (callFunc 36 args).run Try.prog w = .ok (.enter 36 args) w := enters_of Try.func36 (by kernel_rfl) rfl
    have hsz : l.toArray.size = l.length := by simp
    have R : RowK encH 9 w g 0 l.toArray := ⟨fun _ => rfl, encH_one, h.holds, (Array.getElem?_eq_some_iff.1 hg).1⟩
    have hC : CmpLays Try.prog 30 #[] encH 9 cfH g 0 l.toArray.size w := fun m os dk hdk x y => cmpH_any x y _
    have S : SWK encH 9 w g 0 l.toArray w := SWK.start h.holds
    have H := stable_all lys 9 Try.isAgg56 Try.sizeOf56 encH cfH leH cfH_le leH_tot 30 #[] eg g 0 c l.toArray w hC R l.toArray w rfl S l rfl (by omega) eI (fun x y dk w1 A X C q1 q2 q3 q4 q5 => ins_all hC R eg x y dk w1 A X C q1 q2 q3 q4 q5 (by omega))
    rw [hsz] at H
    refine H.mono fun e w' ⟨he, d2, hd2, hs2, S2⟩ => ⟨he, ?_, ?_⟩
    · have hHo := S2.holds R.hblk R.hH (by omega)
      have e1 : d2 = (Stb.isort leH l).toArray := by rw [← hd2]
      rw [e1] at hHo
      have := own_of_holds (w' := w') (l' := Stb.isort leH l) h (Stb.isort_len l) (fun cur hc => by
        obtain ⟨n, os, rfl⟩ := S2
        obtain ⟨cur', g1, g2⟩ := mapBlock_shape (Sort.ahead w n) g _ (fun c => size_putCells 0 (flatK encH 9 d2) c) cur _ (0, 0) hc
        refine ⟨cur', ?_, g2⟩
        rw [← g1]
        unfold sortWorldK Sort.grow
        show ((putRowK encH 9 (Sort.ahead w n) g 0 d2).heap ++ os)[g]? = _
        rw [Array.getElem?_append_left (by rw [size_putRowK]; exact R.hblk)]
        rfl) hHo
      rw [Stb.isort_len] at this
      exact this
    · obtain ⟨n, os, rfl⟩ := S2
      have f1 : Fr (fun k => k = g) w (putRowK encH 9 (Sort.ahead w n) g 0 d2) := fr_mapBlock w n g _
      exact (f1.then (Fr.of_below (below_grow' _ os))).wide (fun i e => by subst e; rfl)
set_option maxHeartbeats 1000000 in
theorem sort_any {w : World} {a : Option Addr} {n c : Nat} {l : List H} (h : OwR cH 56 w (.slice a n c) l) (hl : l.length ≤ 256) :
    Calls Try.prog 29 #[.slice a n c, .func (.func 30) #[] #[]] w fun e w' => e = .returned (.tuple #[]) ∧ OwR cH 56 w' (.slice a n c) (Stb.isort leH l) ∧ Fr (fun k => (Value.slice a n c).ownBlock = some k) w w' := by
  have C0 := stable_row h hl
  clear h hl
  go_enter Try.func29, Try.ntmps29
  go_wp2_with (go_at_call 34; refine C0.mono ?_; rintro e w' ⟨rfl, h1, h2⟩; have H1 : Hid (OwR cH 56 w' (.slice a n c) (Stb.isort leH l)) := h1; have H2 : Hid (Fr (fun k => (Value.slice a n c).ownBlock = some k) w w') := h2; clear h1 h2 C0)
  go_end0
  exact ⟨rfl, H1.out, H2.out⟩
end Go.Proofs.Ytpkemgpnpadkfaa
