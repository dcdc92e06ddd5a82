/- Proved: how the program's cut lies in memory; contracts of what only reads it. -/
import Derived.Test.YtdfjmnckgcpmgaaTim
namespace Go.Proofs.Ytdfjmnckgcpmgaa
open Go.RowKit Go.Shelf
open K
set_option linter.unusedVariables false

/-- Block b has these twenty-four cells. -/
structure Blk (w : World) (b : Nat) (f : Nat → Value) : Prop where
  c : ∀ i, i < 24 → w.cell? ⟨b, i, none⟩ = some (f i) ∧ w.frozen? ⟨b, i, none⟩ = false
theorem Blk.lt {w : World} {b : Nat} {f : Nat → Value} (h : Blk w b f) : b < w.heap.size := clt (h.c 0 (by omega)).1
theorem Blk.keep {S : Nat → Prop} {w w' : World} {b : Nat} {f : Nat → Value} (h : Blk w b f) (hf : Fr S w w') (hn : ¬ S b) : Blk w' b f := ⟨fun i hi =>
  ⟨(hf.cell (p := ⟨b, i, none⟩) h.lt hn).trans (h.c i hi).1, (hf.frozen (p := ⟨b, i, none⟩) h.lt hn).trans (h.c i hi).2⟩⟩
theorem Blk.below {w w' : World} {b : Nat} {f : Nat → Value} (h : Blk w b f) (hb : Below w.heap.size w w') : Blk w' b f := h.keep (Fr.of_below (S := fun _ => False) hb) (fun g => g)
theorem Blk.drew {w : World} {b : Nat} {f : Nat → Value} (h : Blk w b f) : Blk w.drew b f := ⟨h.c⟩
def upV (f : Nat → Value) (i : Nat) (v : Value) : Nat → Value := fun j => if j = i then v else f j
theorem upV_at (f : Nat → Value) (i : Nat) (v : Value) : upV f i v i = v := by simp [upV]
theorem upV_out (f : Nat → Value) {i j : Nat} (v : Value) (h : j ≠ i) : upV f i v j = f j := by simp [upV, h]
theorem Blk.set {w : World} {b : Nat} {f : Nat → Value} (h : Blk w b f) (i : Nat) (v : Value) : Blk (w.setCell ⟨b, i, none⟩ v) b (upV f i v) := ⟨fun j hj => by
  by_cases e : j = i
  · subst e
    refine ⟨?_, ?_⟩
    · rw [World.cell?_setCell_same' _ _ _ (by rw [(h.c j hj).1]; rfl)]
      simp [upV]
    · rw [World.frozen?_setCell]; exact (h.c j hj).2
  · refine ⟨?_, ?_⟩
    · rw [World.cell?_setCell_other _ _ _ _ (by intro g; exact e (by cases g; rfl))]
      simp [upV, e, (h.c j hj).1]
    · rw [World.frozen?_setCell]; exact (h.c j hj).2⟩
theorem Blk.at {w : World} {b : Nat} {f : Nat → Value} (h : Blk w b f) {i : Nat} (hi : i < 24) {v : Value} (hv : f i = v) : w.cell? ⟨b, i, none⟩ = some v := hv ▸ (h.c i hi).1

/-- What always holds of a cut. -/
structure OK (B : Nat) (c : Cu) : Prop where
  n1 : 1 ≤ c.co.length
  n8 : c.co.length ≤ 8
  lt : c.tu.length = c.co.length
  lr : c.re.length = c.co.length
  od : c.old = 0 ∨ c.old = 1
  p0 : 0 ≤ c.o0
  p1 : 0 ≤ c.o1
  h0 : c.o0 ≤ B
  h1 : c.o1 ≤ B
  r0 : 0 ≤ c.r
  r1 : c.r ≤ B
  idle : c.is = false → ∃ k, (k = 0 ∨ k = 1) ∧ ∀ x ∈ c.co, x = k
  run : c.is = true → ∀ i, i < c.co.length → c.co.getD i 0 = if c.tu.getD i false = true then 1 - c.old else c.old
def ptu (c : Cu) (i : Nat) : Bool := c.is && c.tu.getD i false
def pre (c : Cu) (i : Nat) : Bool := c.is && c.re.getD i false
def pk (c : Cu) : Int := if c.is = true then c.old else c.co.getD 0 0
theorem OK.pk2 {B : Nat} {c : Cu} (h : OK B c) : pk c = 0 ∨ pk c = 1 := by
  unfold pk
  cases hi : c.is
  · obtain ⟨k, hk, h1⟩ := h.idle hi
    rw [if_neg (by simp), h1 _ (mem_getD (by have := h.n1; omega))]
    exact hk
  · rw [if_pos rfl]; exact h.od
theorem OK.col {B : Nat} {c : Cu} (h : OK B c) {i : Nat} (hi : i < c.co.length) : c.co.getD i 0 = if ptu c i = true then 1 - pk c else pk c := by
  unfold ptu pk
  cases hs : c.is
  · obtain ⟨k, hk, h1⟩ := h.idle hs
    rw [h1 _ (mem_getD hi), h1 _ (mem_getD (by have := h.n1; omega))]
    simp
  · rw [h.run hs i hi]; simp
theorem OK.col2 {B : Nat} {c : Cu} (h : OK B c) {i : Nat} (hi : i < c.co.length) : c.co.getD i 0 = 0 ∨ c.co.getD i 0 = 1 := by
  have := h.pk2
  rw [h.col hi]
  split <;> omega
/-- The cells of the program's cut. -/
def pv (c : Cu) (le : Int) (j : Nat) : Value :=
  if j = 0 then .int .i64 (c.co.length : Int) else if j < 17 then (if j % 2 = 1 then .bool (ptu c ((j - 1) / 2)) else .bool (pre c ((j - 2) / 2))) else if j = 17 then .int .i64 (pk c) else if j = 18 then .int .i64 c.o0 else if j = 19 then .int .i64 c.o1 else if j = 20 then .bool c.is else if j = 21 then .int .i64 le else if j = 22 then .int .i64 c.v else .int .i64 c.r
theorem pv_tu (c : Cu) (le : Int) {i : Nat} (h : i < 8) : pv c le (1 + i * 2) = .bool (ptu c i) := by
  unfold pv
  rw [if_neg (by omega), if_pos (by omega), if_pos (by omega), show (1 + i * 2 - 1) / 2 = i by omega]
theorem pv_re (c : Cu) (le : Int) {i : Nat} (h : i < 8) : pv c le (1 + i * 2 + 1) = .bool (pre c i) := by
  unfold pv
  rw [if_neg (by omega), if_pos (by omega), if_neg (by omega), show (1 + i * 2 + 1 - 2) / 2 = i by omega]
/-- A cut in memory. -/
structure PT (B : Nat) (c : Cu) (b : Nat) (W : World) : Prop where
  ok : OK B c
  blk : ∃ le, (c.is = true → le = c.le) ∧ Blk W b (pv c le)
theorem PT.lt {B : Nat} {c : Cu} {b : Nat} {W : World} (h : PT B c b W) : b < W.heap.size := by obtain ⟨le, _, hb⟩ := h.blk; exact hb.lt
theorem PT.keep {S : Nat → Prop} {B : Nat} {c : Cu} {b : Nat} {W W2 : World} (h : PT B c b W) (hf : Fr S W W2) (hn : ¬ S b) : PT B c b W2 := by
  obtain ⟨le, h1, hb⟩ := h.blk
  exact ⟨h.ok, le, h1, hb.keep hf hn⟩
theorem PT.below {B : Nat} {c : Cu} {b : Nat} {W W2 : World} (h : PT B c b W) (hb : Below W.heap.size W W2) : PT B c b W2 := h.keep (Fr.of_below (S := fun _ => False) hb) (fun g => g)
theorem PT.of {B : Nat} {c : Cu} {b : Nat} {W : World} {f : Nat → Value} (hB : Blk W b f) (ok : OK B c) (g0 : f 0 = .int .i64 (c.co.length : Int)) (gt : ∀ i, i < 8 → f (1 + i * 2) = .bool (ptu c i)) (gr : ∀ i, i < 8 → f (1 + i * 2 + 1) = .bool (pre c i)) (g17 : f 17 = .int .i64 (pk c)) (g18 : f 18 = .int .i64 c.o0) (g19 : f 19 = .int .i64 c.o1) (g20 : f 20 = .bool c.is) {le : Int} (g21 : f 21 = .int .i64 le) (gl : c.is = true → le = c.le) (g22 : f 22 = .int .i64 c.v) (g23 : f 23 = .int .i64 c.r) : PT B c b W := by
  refine ⟨ok, le, gl, ⟨fun j hj => ?_⟩⟩
  have e : f j = pv c le j := by
    by_cases h0 : j = 0
    · subst h0; exact g0
    by_cases h1 : j < 17
    · by_cases h2 : j % 2 = 1
      · obtain ⟨i, rfl⟩ : ∃ i, j = 1 + i * 2 := ⟨(j - 1) / 2, by omega⟩
        rw [gt i (by omega), pv_tu c le (by omega)]
      · obtain ⟨i, rfl⟩ : ∃ i, j = 1 + i * 2 + 1 := ⟨(j - 2) / 2, by omega⟩
        rw [gr i (by omega), pv_re c le (by omega)]
    have h3 : j = 17 ∨ j = 18 ∨ j = 19 ∨ j = 20 ∨ j = 21 ∨ j = 22 ∨ j = 23 := by omega
    rcases h3 with rfl | rfl | rfl | rfl | rfl | rfl | rfl
    · exact g17
    · exact g18
    · exact g19
    · exact g20
    · exact g21
    · exact g22
    · exact g23
  rw [← e]
  exact hB.c j hj
abbrev pp (b : Nat) : Value := .pointer (some ⟨b, 0, none⟩)
theorem isP_yes {c : Cu} {i : Int} (h : isP c i = true) : ∃ k : Nat, i = k ∧ k < c.co.length := by
  unfold isP at h
  simp at h
  exact ⟨i.toNat, by omega, by omega⟩
theorem isP_nat {c : Cu} {k : Nat} (h : k < c.co.length) : isP c k = true := by unfold isP; simp; omega

set_option maxHeartbeats 1000000 in
theorem has_any {B : Nat} {c : Cu} {b : Nat} {w : World} (h : PT B c b w) (i : Int) :
    Calls Try.prog 25 #[pp b, .int .i64 i] w fun e w' => e = .returned (.bool (isP c i)) ∧ w = w' := by
  obtain ⟨le, _, hb⟩ := h.blk
  have c0 := hb.at (i := 0) (by omega) (v := .int .i64 (c.co.length : Int)) rfl
  generalize hn : c.co.length = n at c0
  by_cases h0 : 0 ≤ i
  · by_cases h1 : i < n
    · have e : isP c i = true := by unfold isP; rw [hn]; simp; omega
      rw [e]
      clear e hn h hb
      go_enter Try.func25, Try.ntmps25
      go_wp2
      go_ret
      exact ⟨rfl, rfl⟩
    · have e : isP c i = false := by unfold isP; rw [hn]; simp; omega
      rw [e]
      clear e hn h hb
      go_enter Try.func25, Try.ntmps25
      go_wp2
      go_ret
      exact ⟨rfl, rfl⟩
  · have e : isP c i = false := by unfold isP; simp; omega
    rw [e]
    clear e hn h hb
    go_enter Try.func25, Try.ntmps25
    go_wp2
    go_ret
    exact ⟨rfl, rfl⟩
def isK (k : Int) : Bool := decide (k = 0 ∨ k = 1)
set_option maxHeartbeats 1000000 in
theorem isk_any (k : Int) (w : World) :
    Calls Try.prog 29 #[.int .i64 k] w fun e w' => e = .returned (.bool (isK k)) ∧ w = w' := by
  by_cases h0 : k = 0
  · have e : isK k = true := by unfold isK; simp; omega
    have d : (k == 0) = true := by simpa using h0
    rw [e]
    clear e h0
    go_enter Try.func29, Try.ntmps29
    go_wp2
    go_ret
    exact ⟨rfl, rfl⟩
  · have d : (k == 0) = false := by simpa using h0
    by_cases h1 : k = 1
    · have e : isK k = true := by unfold isK; simp; omega
      have d1 : (k == 1) = true := by simpa using h1
      rw [e]
      clear e h0 h1
      go_enter Try.func29, Try.ntmps29
      go_wp2
      go_ret
      exact ⟨rfl, rfl⟩
    · have e : isK k = false := by unfold isK; simp; omega
      have d1 : (k == 1) = false := by simpa using h1
      rw [e]
      clear e h0 h1
      go_enter Try.func29, Try.ntmps29
      go_wp2
      go_ret
      exact ⟨rfl, rfl⟩
set_option maxHeartbeats 1000000 in
theorem oth_any (k : Int) (hk : k = 0 ∨ k = 1) (w : World) :
    Calls Try.prog 35 #[.int .i64 k] w fun e w' => e = .returned (.int .i64 (1 - k)) ∧ w = w' := by
  rcases hk with rfl | rfl
  · go_enter Try.func35, Try.ntmps35
    go_wp2
    go_ret
    exact ⟨rfl, rfl⟩
  · go_enter Try.func35, Try.ntmps35
    go_wp2
    go_ret
    exact ⟨rfl, rfl⟩
theorem value_any {B : Nat} {c : Cu} {b : Nat} {w : World} (h : PT B c b w) :
    Calls Try.prog 20 #[pp b] w fun e w' => e = .returned (.int .i64 c.v) ∧ w = w' := by
  obtain ⟨le, _, hb⟩ := h.blk
  have c0 := hb.at (i := 22) (by omega) (v := .int .i64 c.v) rfl
  clear h hb
  go_enter Try.func20, Try.ntmps20
  go_wp2
  go_ret
  exact ⟨rfl, rfl⟩
theorem rounds_any {B : Nat} {c : Cu} {b : Nat} {w : World} (h : PT B c b w) :
    Calls Try.prog 21 #[pp b] w fun e w' => e = .returned (.int .i64 c.r) ∧ w = w' := by
  obtain ⟨le, _, hb⟩ := h.blk
  have c0 := hb.at (i := 23) (by omega) (v := .int .i64 c.r) rfl
  clear h hb
  go_enter Try.func21, Try.ntmps21
  go_wp2
  go_ret
  exact ⟨rfl, rfl⟩
theorem under_any {B : Nat} {c : Cu} {b : Nat} {w : World} (h : PT B c b w) :
    Calls Try.prog 22 #[pp b] w fun e w' => e = .returned (.bool c.is) ∧ w = w' := by
  obtain ⟨le, _, hb⟩ := h.blk
  have c0 := hb.at (i := 20) (by omega) (v := .bool c.is) rfl
  clear h hb
  go_enter Try.func22, Try.ntmps22
  go_wp2
  go_ret
  exact ⟨rfl, rfl⟩
set_option maxHeartbeats 1000000 in
theorem colour_any {B : Nat} {c : Cu} {b : Nat} {w : World} (h : PT B c b w) (i : Int) :
    Calls Try.prog 23 #[pp b, .int .i64 i] w fun e w' => e = .returned (.int .i64 (colE c i)) ∧ w = w' := by
  obtain ⟨le, _, hb⟩ := h.blk
  have HA := has_any h i
  have ok := h.ok
  cases hp : isP c i
  · have e : colE c i = -1 := by unfold colE; rw [hp]; rfl
    rw [e]
    rw [hp] at HA
    clear e hp h hb ok
    go_enter Try.func23, Try.ntmps23
    go_wp2_with (go_at_call 25; refine HA.mono ?_; rintro e w' ⟨rfl, rfl⟩)
    go_ret
    exact ⟨rfl, rfl⟩
  · obtain ⟨k, rfl, hk⟩ := isP_yes hp
    have hk8 : k < 8 := by have := ok.n8; omega
    have hk8' : (k : Int) < 8 := by omega
    have c1 := hb.at (i := 1 + k * 2) (by omega) (pv_tu c le hk8)
    have c2 := hb.at (i := 17) (by omega) (v := .int .i64 (pk c)) rfl
    have e : colE c k = if ptu c k = true then 1 - pk c else pk c := by unfold colE K.col; rw [hp, if_pos rfl, ← ok.col hk]; simp
    rw [e]
    rw [hp] at HA
    have OT := oth_any (pk c) ok.pk2
    generalize pk c = q at c2 OT ⊢
    cases ht : ptu c k
    · rw [ht] at c1
      rw [if_neg (by simp)]
      clear e hp h hb ok ht hk
      go_enter Try.func23, Try.ntmps23
      go_wp2_with (go_at_call 25; refine HA.mono ?_; rintro e w' ⟨rfl, rfl⟩)
      go_ret
      exact ⟨rfl, rfl⟩
    · rw [ht] at c1
      rw [if_pos rfl]
      clear e hp h hb ok ht hk
      go_enter Try.func23, Try.ntmps23
      go_wp2_with (first | (go_at_call 25; refine HA.mono ?_; rintro e w' ⟨rfl, rfl⟩) | (go_at_call 35; refine (OT _).mono ?_; rintro e w' ⟨rfl, rfl⟩))
      go_ret
      exact ⟨rfl, rfl⟩
/-! ### Whether all did a thing -/
def allN (n : Nat) (g : Nat → Bool) : Bool := (List.range n).all g
theorem allN_yes {n : Nat} {g : Nat → Bool} (h : ∀ i, i < n → g i = true) : allN n g = true := by
  unfold allN
  rw [List.all_eq_true]
  intro i hi
  exact h i (by simpa using hi)
theorem allN_no {n i : Nat} {g : Nat → Bool} (hi : i < n) (h : g i = false) : allN n g = false := by
  unfold allN
  cases hh : (List.range n).all g
  · rfl
  · rw [List.all_eq_true] at hh
    have := hh i (by simpa using hi)
    rw [h] at this
    cases this
theorem allN_iff {n : Nat} {g : Nat → Bool} : allN n g = true ↔ ∀ i, i < n → g i = true := by
  refine ⟨fun h i hi => ?_, allN_yes⟩
  cases hg : g i
  · rw [allN_no hi hg] at h; cases h
  · rfl
theorem turned_any (x y : Bool) (W : World) : Calls Try.prog 31 #[.agg #[.bool x, .bool y]] W fun e w' => e = .returned (.bool x) ∧ Below W.heap.size W w' := by
  go_enter Try.func31, Try.ntmps31
  go_wp2
  go_ret
  exact ⟨rfl, al _ _⟩
theorem reported_any (x y : Bool) (W : World) : Calls Try.prog 32 #[.agg #[.bool x, .bool y]] W fun e w' => e = .returned (.bool y) ∧ Below W.heap.size W w' := by
  go_enter Try.func32, Try.ntmps32
  go_wp2
  go_ret
  exact ⟨rfl, al _ _⟩
set_option maxHeartbeats 2000000 in
theorem all_gen {w : World} {b : Nat} {f : Nat → Value} {n : Nat} {k : Nat} (sel : Bool → Bool → Bool) (tu re : Nat → Bool) (hB : Blk w b f) (h0 : f 0 = .int .i64 (n : Int)) (hn : n ≤ 8) (ht : ∀ i, i < 8 → f (1 + i * 2) = .bool (tu i)) (hr : ∀ i, i < 8 → f (1 + i * 2 + 1) = .bool (re i)) (eg : ∀ args w, (callFunc k args).run Try.prog w = .ok (.enter k args) w) (hk : ∀ x y W, Calls Try.prog k #[.agg #[.bool x, .bool y]] W fun e w' => e = .returned (.bool (sel x y)) ∧ Below W.heap.size W w') :
    Calls Try.prog 30 #[pp b, .func (.func k) #[] #[]] w fun e w' => e = .returned (.bool (allN n (fun i => sel (tu i) (re i)))) ∧ Below w.heap.size w w' := by
  have c0 := hB.at (i := 0) (by omega) h0
  have HB : Hid (Blk w b f) := hB
  have HT : Hid (∀ i, i < 8 → f (1 + i * 2) = .bool (tu i)) := ht
  have HR : Hid (∀ i, i < 8 → f (1 + i * 2 + 1) = .bool (re i)) := hr
  have HK : Aside _ := hk
  obtain ⟨A, hA⟩ : ∃ A, allN n (fun i => sel (tu i) (re i)) = A := ⟨_, rfl⟩
  have HA : Hid (allN n (fun i => sel (tu i) (re i)) = A) := hA
  rw [hA]
  clear hB ht hr hk hA h0
  go_enter Try.func30, Try.ntmps30
  go_wp2
  go_loopw [10] (fun s10 wr => ∃ i : Nat, s10 = .int .i64 i ∧ i ≤ n ∧ Hid (∀ j, j < i → sel (tu j) (re j) = true) ∧ Hid (Below w.heap.size w wr)) (fun s10 _ => n - (intOf s10).toNat)
  case atStart => exact ⟨0, rfl, Nat.zero_le _, (fun j hj => by omega : ∀ j, j < 0 → sel (tu j) (re j) = true), Below.refl _ _⟩
  case round =>
    obtain ⟨i, rfl, hi, HI, HW⟩ := hrel
    by_cases hlt : i < n
    · have hlt' : (i : Int) < (n : Int) := by omega
      have hi8 : (i : Int) < 8 := by omega
      have c1 := (HB.out.below HW.out).at (i := 1 + i * 2) (by omega) (HT.out i (by omega))
      have c2 := (HB.out.below HW.out).at (i := 1 + i * 2 + 1) (by omega) (HR.out i (by omega))
      obtain ⟨x, hx⟩ : ∃ x, tu i = x := ⟨_, rfl⟩
      obtain ⟨y, hy⟩ : ∃ y, re i = y := ⟨_, rfl⟩
      rw [hx] at c1
      rw [hy] at c2
      obtain ⟨s, hs⟩ : ∃ s, sel x y = s := ⟨_, rfl⟩
      have HC : Hid (∀ W, Calls Try.prog k #[.agg #[.bool x, .bool y]] W fun e w' => e = .returned (.bool s) ∧ Below W.heap.size W w') := fun W => by rw [← hs]; exact HK.out x y W
      have HS : Hid (sel (tu i) (re i) = s) := by rw [hx, hy]; exact hs
      clear hx hy hs
      cases s
      · go_wp2_with (refine (Hid.out HC _).mono ?_; rintro e w2 ⟨rfl, h2⟩; have H2 : Hid _ := h2; clear h2)
        go_ret
        refine ⟨?_, Below.on HW.out H2.out⟩
        rw [← HA.out, allN_no (g := fun i => sel (tu i) (re i)) hlt HS.out]
        rfl
      · go_wp2_with (refine (Hid.out HC _).mono ?_; rintro e w2 ⟨rfl, h2⟩; have H2 : Hid _ := h2; clear h2)
        go_roundw
        case rel => exact ⟨i + 1, by go_num, by omega, (fun j hj => by
          by_cases e : j = i
          · rw [e]; exact HS.out
          · exact HI.out j (by omega) : ∀ j, j < i + 1 → sel (tu j) (re j) = true), Below.on HW.out H2.out⟩
        case measure => simp [intOf]; omega
    · obtain rfl : i = n := by omega
      go_wp2
      go_ret
      refine ⟨?_, HW.out⟩
      rw [← HA.out, allN_yes (g := fun i => sel (tu i) (re i)) HI.out]
      rfl
end Go.Proofs.Ytdfjmnckgcpmgaa
